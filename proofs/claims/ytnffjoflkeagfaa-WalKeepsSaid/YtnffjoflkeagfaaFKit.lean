/- Small laws on worlds: lists that a call was handed, or handed back, read later. -/
import Derived.Test.YtnffjoflkeagfaaChecked
import Derived.Test.YtnffjoflkeagfaaFFrames
import Derived.WalkKit
import Derived.WalkSpells
import Derived.WalkLawsBesides
import Derived.IntWalk
import Derived.Laws.BitsAllLaws
import Derived.Laws.IdiomStrings
import Derived.OwnWalk
import Derived.Below
import Derived.Outline
import Derived.Lib.OthersKept
import Derived.Lib.ConvBytes
import Derived.Deep.QuietTactic
import Derived.BigQuiet
import Derived.Deep.WholeRow
import Derived.Lib.Strings
namespace Go.Proofs.Ytnffjoflkeagfaa.Fr
open Go.RowKit

theorem ret_int {k : IntKind} {a b : Int} (h : a = b) : Ending.returned (.int k a) = .returned (.int k b) := by rw [h]
theorem ret_bool {a b : Bool} (h : a = b) : Ending.returned (.bool a) = .returned (.bool b) := by rw [h]
theorem add_zero_off (g j : Nat) : (⟨g, 0, none⟩ : Addr).add j = ⟨g, j, none⟩ := by unfold Addr.add; split <;> simp_all

/-- a slice value reads as these cells -/
def ListAt (w : World) (v : Value) (n : Nat) (xs : List Value) : Prop :=
  xs.length = n ∧ ∃ a cap, v = .slice a n cap ∧ n ≤ cap ∧ (n = 0 ∨ ∃ b off, a = some ⟨b, off, none⟩ ∧ b < w.heap.size ∧ ∀ j u, xs[j]? = some u → w.cell? ⟨b, off + j, none⟩ = some u)
theorem ListAt.below {w w' : World} {v : Value} {n : Nat} {xs : List Value} (h : ListAt w v n xs) (hb : Below w.heap.size w w') : ListAt w' v n xs := by
  obtain ⟨h1, a, cap, rfl, hcap, h2⟩ := h
  refine ⟨h1, a, cap, rfl, hcap, ?_⟩
  rcases h2 with h2 | ⟨b, off, rfl, hlt, hc⟩
  · exact .inl h2
  · exact .inr ⟨b, off, rfl, Nat.lt_of_lt_of_le hlt hb.size, fun j u hu => (hb.cell (p := ⟨b, off + j, none⟩) hlt).trans (hc j u hu)⟩
theorem ListAt.of_own {w : World} {B : Nat} {e : TypeId} {v : Value} {n : Nat} {xs : List Value} (h : w.ownsRow B e 1 v n xs) : ListAt w v n xs := by
  refine ⟨by have := h.1; omega, ?_⟩
  have hc := fun g hg => h.cells (g := g) hg
  have hlt := h.lt
  rcases h.2 with ⟨rfl, rfl⟩ | ⟨g, cap, cur, rfl, _, hg, hcap, _⟩
  · exact ⟨_, _, rfl, Nat.le_refl _, .inl rfl⟩
  · refine ⟨_, _, rfl, hcap, .inr ⟨g, 0, rfl, (hlt g rfl).2, fun j u hu => ?_⟩⟩
    have := hc g rfl j u hu
    rw [add_zero_off] at this; rw [Nat.zero_add]; exact this
/-- .. in a block from B on -/
def ListNew (B : Nat) (w : World) (v : Value) (n : Nat) (xs : List Value) : Prop :=
  xs.length = n ∧ ∃ a cap, v = .slice a n cap ∧ n ≤ cap ∧ (n = 0 ∨ ∃ b off, a = some ⟨b, off, none⟩ ∧ B ≤ b ∧ b < w.heap.size ∧ ∀ j u, xs[j]? = some u → w.cell? ⟨b, off + j, none⟩ = some u)
theorem ListNew.at_ {B : Nat} {w : World} {v : Value} {n : Nat} {xs : List Value} (h : ListNew B w v n xs) : ListAt w v n xs := by
  obtain ⟨h1, a, cap, rfl, hcap, h2⟩ := h
  refine ⟨h1, a, cap, rfl, hcap, ?_⟩
  rcases h2 with h2 | ⟨b, off, rfl, _, hlt, hc⟩
  · exact .inl h2
  · exact .inr ⟨b, off, rfl, hlt, hc⟩
theorem ListNew.of_own {w : World} {B : Nat} {e : TypeId} {v : Value} {n : Nat} {xs : List Value} (h : w.ownsRow B e 1 v n xs) : ListNew B w v n xs := by
  refine ⟨by have := h.1; omega, ?_⟩
  have hc := fun g hg => h.cells (g := g) hg
  have hlt := h.lt
  rcases h.2 with ⟨rfl, rfl⟩ | ⟨g, cap, cur, rfl, _, hg, hcap, _⟩
  · exact ⟨_, _, rfl, Nat.le_refl _, .inl rfl⟩
  · refine ⟨_, _, rfl, hcap, .inr ⟨g, 0, rfl, (hlt g rfl).1, (hlt g rfl).2, fun j u hu => ?_⟩⟩
    have := hc g rfl j u hu
    rw [add_zero_off] at this; rw [Nat.zero_add]; exact this
theorem ListNew.but {B p : Nat} {w w' : World} {v : Value} {n : Nat} {xs : List Value} (h : ListNew B w v n xs) (hb : w.grownBy w' (some p)) (hp : p < B) : ListNew B w' v n xs := by
  obtain ⟨h1, a, cap, rfl, hcap, h2⟩ := h
  refine ⟨h1, a, cap, rfl, hcap, ?_⟩
  rcases h2 with h2 | ⟨b, off, rfl, hB, hlt, hc⟩
  · exact .inl h2
  · have e1 := hb.block b hlt (by simp; omega)
    exact .inr ⟨b, off, rfl, hB, Nat.lt_of_lt_of_le hlt hb.size, fun j u hu => (World.cell?_of_block (a := ⟨b, off + j, none⟩) e1).trans (hc j u hu)⟩
theorem ListNew.mono {B C : Nat} {w : World} {v : Value} {n : Nat} {xs : List Value} (h : ListNew B w v n xs) (hC : C ≤ B) : ListNew C w v n xs := by
  obtain ⟨h1, a, cap, rfl, hcap, h2⟩ := h
  refine ⟨h1, a, cap, rfl, hcap, ?_⟩
  rcases h2 with h2 | ⟨b, off, rfl, hB, r⟩
  · exact .inl h2
  · exact .inr ⟨b, off, rfl, Nat.le_trans hC hB, r⟩
theorem bt {B : Nat} {a b c : World} (h : Below B a b) (k : Below b.heap.size b c) (hB : B ≤ b.heap.size) : Below B a c := h.trans (k.mono hB)
theorem bw {a b c : World} (h : Below a.heap.size a b) (k : Below b.heap.size b c) : Below a.heap.size a c := h.trans (k.mono h.size)
theorem below_drewN {B : Nat} {a w : World} (h : Below B a w) : ∀ q, Below B a (w.drewN q)
  | 0 => h
  | q + 1 => by
    have := below_drewN h q
    exact ⟨this.os, this.tape, this.output, this.size, this.block⟩
/-- a list of numbers as cells, of integers, of texts -/
abbrev cellsOf {α : Type} (c : α → Value) (l : List α) : List Value := l.map c
theorem ListAt.get {α : Type} {c : α → Value} {w : World} {l : List α} {b off k : Nat} {x : α} (h : ∀ j u, (cellsOf c l)[j]? = some u → w.cell? ⟨b, off + j, none⟩ = some u) (hk : l[k]? = some x) : w.cell? ⟨b, off + k, none⟩ = some (c x) :=
  h k (c x) (by simp [cellsOf, List.getElem?_map, hk])
theorem take_snocA {α : Type} (l : List α) (k : Nat) (x : α) (h : l[k]? = some x) : l.take (k + 1) = l.take k ++ [x] := by
  obtain ⟨hk, rfl⟩ := List.getElem?_eq_some_iff.1 h
  rw [List.take_succ_eq_append_getElem hk]
theorem flat_le {α : Type} (f : α → List UInt8) (c : Nat) (l : List α) (h : ∀ x ∈ l, (f x).length ≤ c) : (l.flatMap f).length ≤ c * l.length := by
  induction l with
  | nil => simp
  | cons a l ih =>
    have h1 := h a (by simp)
    have h2 := ih (fun x hx => h x (by simp [hx]))
    simp only [List.flatMap_cons, List.length_append, List.length_cons]
    rw [Nat.mul_add]; omega
theorem flat_take {α : Type} (f : α → List UInt8) (l : List α) (k : Nat) : ((l.take k).flatMap f).length ≤ (l.flatMap f).length := by
  have h : l.flatMap f = (l.take k).flatMap f ++ (l.drop k).flatMap f := by rw [← List.flatMap_append, List.take_append_drop]
  rw [h, List.length_append]; omega
/-- the bytes b, and these behind them -/
def withB (b : ByteArray) (l : List UInt8) : ByteArray := ⟨(b.data.toList ++ l).toArray⟩
theorem withB_list (b : ByteArray) (l : List UInt8) : (withB b l).data.toList = b.data.toList ++ l := by simp [withB]
theorem withB_nil (b : ByteArray) : withB b [] = b := by
  apply ByteArray.ext; simp [withB]
theorem withB_with (b : ByteArray) (l r : List UInt8) : withB (withB b l) r = withB b (l ++ r) := by
  apply ByteArray.ext; simp [withB]
theorem withB_size (b : ByteArray) (l : List UInt8) : (withB b l).size = b.size + l.length := by
  rw [Lib.size_eq, withB_list, List.length_append, ← Lib.size_eq]
end Go.Proofs.Ytnffjoflkeagfaa.Fr
