/- Runs of cells, messages in memory, and whose block is whose. -/
import Derived.Test.YtheldpdckgoniaaChecked
import Derived.WalkKit
import Derived.WalkSpells
import Derived.WalkLawsBesides
import Derived.IntWalk
import Derived.Laws.IdiomStrings
import Derived.OwnWalk
import Derived.Below
import Derived.Outline
import Derived.Lib.OthersKept
import Derived.Lib.ConvBytes
import Derived.Lib.SliceRun
import Derived.Deep.AppendSrc
import Derived.Deep.AppendLies
import Derived.Deep.RegionLaw
import Derived.Deep.MidRow
import Derived.Deep.QuietTactic
import Derived.BigQuiet
import Derived.Lib.Strings
import Derived.RegionTactic
import Derived.Maps.AppendAt
import Derived.Laws.OwnMore
import Derived.Laws.AppendOwnNone
import Derived.Deep.RegionHeld3
import Derived.KernelRfl
import Derived.Lib.Hide
namespace Go.Proofs.Ytheldpdckgoniaa
open Go.RowKit

theorem ret_int {k : IntKind} {a b : Int} (h : a = b) : Ending.returned (.int k a) = .returned (.int k b) := by rw [h]
theorem ret_bool {a b : Bool} (h : a = b) : Ending.returned (.bool a) = .returned (.bool b) := by rw [h]
theorem add_zero_off (g j : Nat) : (⟨g, 0, none⟩ : Addr).add j = ⟨g, j, none⟩ := by unfold Addr.add; split <;> simp_all
theorem add_off (b off j : Nat) : (⟨b, off, none⟩ : Addr).add j = ⟨b, off + j, none⟩ := by unfold Addr.add; split <;> simp_all

/-- nothing but blocks of S, and new ones, has changed -/
structure Kept (S : Nat → Prop) (w w' : World) : Prop where
  os : w'.os = w.os
  tape : w'.tape = w.tape
  output : w'.output = w.output
  size : w.heap.size ≤ w'.heap.size
  block : ∀ k, k < w.heap.size → ¬ S k → w'.heap[k]? = w.heap[k]?
theorem Kept.refl (S : Nat → Prop) (w : World) : Kept S w w := ⟨rfl, rfl, rfl, Nat.le_refl _, fun _ _ _ => rfl⟩
theorem Kept.trans {S : Nat → Prop} {a b c : World} (h : Kept S a b) (k : Kept S b c) : Kept S a c :=
  ⟨k.os.trans h.os, k.tape.trans h.tape, k.output.trans h.output, Nat.le_trans h.size k.size, fun i hi hs => (k.block i (Nat.lt_of_lt_of_le hi h.size) hs).trans (h.block i hi hs)⟩
theorem Kept.of_below {S : Nat → Prop} {a b : World} (h : Below a.heap.size a b) : Kept S a b := ⟨h.os, h.tape, h.output, h.size, fun i hi _ => h.block i hi⟩
theorem Kept.of_grown {S : Nat → Prop} {a b : World} {r : Option Nat} (h : a.grownBy b r) (hp : ∀ p, r = some p → S p) : Kept S a b :=
  ⟨h.os, h.tape, h.output, h.size, fun i hi hs => h.block i hi (fun e => hs (hp _ e.symm))⟩
theorem Kept.below {S : Nat → Prop} {a b : World} (h : Kept S a b) {B : Nat} (hB : B ≤ a.heap.size) (hS : ∀ k, S k → B ≤ k) : Below B a b :=
  ⟨h.os, h.tape, h.output, h.size, fun k hk => h.block k (by omega) (fun hs => by have := hS k hs; omega)⟩
theorem Kept.mono {S S' : Nat → Prop} {a b : World} (h : Kept S a b) (hS : ∀ k, k < a.heap.size → S k → S' k) : Kept S' a b :=
  ⟨h.os, h.tape, h.output, h.size, fun k hk hs => h.block k hk (fun h' => hs (hS k hk h'))⟩
theorem Kept.drewN {S : Nat → Prop} {a w : World} (h : Kept S a w) : ∀ q, Kept S a (w.drewN q)
  | 0 => h
  | q + 1 => by
    have := h.drewN q
    exact ⟨this.os, this.tape, this.output, this.size, this.block⟩
theorem Kept.set {S : Nat → Prop} {a w : World} (h : Kept S a w) {p : Addr} (hp : S p.block ∨ a.heap.size ≤ p.block) (u : Value) : Kept S a (w.setCell p u) :=
  ⟨h.os, h.tape, h.output, by simp [World.setCell]; exact h.size, fun k hk hs => (Below.heap_setCell _ _ _ _ (fun e => by subst e; rcases hp with hp | hp; exact hs hp; omega)).trans (h.block k hk hs)⟩
theorem Kept.alloc {S : Nat → Prop} {a w : World} (h : Kept S a w) (o : Obj) : Kept S a (w.alloc o) :=
  h.trans (Kept.of_below ((Below.refl _ _).alloc (Nat.le_refl _) o))
theorem bw {a b c : World} (h : Below a.heap.size a b) (k : Below b.heap.size b c) : Below a.heap.size a c := h.trans (k.mono h.size)
theorem below_drewN {B : Nat} {a w : World} (h : Below B a w) : ∀ q, Below B a (w.drewN q)
  | 0 => h
  | q + 1 => by
    have := below_drewN h q
    exact ⟨this.os, this.tape, this.output, this.size, this.block⟩
theorem heap_drewN (w : World) : ∀ q, (w.drewN q).heap = w.heap
  | 0 => rfl
  | q + 1 => by
    have := heap_drewN w q
    exact this

/-- a slice of n elements that reads as these cells, in a block that B admits -/
def Run (B : Nat → Prop) (w : World) (v : Value) (n : Nat) (cells : List Value) : Prop :=
  ∃ a c, v = .slice a n c ∧ n ≤ c ∧ (a = none → n = 0 ∧ c = 0) ∧
    (n = 0 ∨ ∃ b off, a = some ⟨b, off, none⟩ ∧ B b ∧ b < w.heap.size ∧ ∀ j u, cells[j]? = some u → w.cell? ⟨b, off + j, none⟩ = some u)
section
variable {B B' S : Nat → Prop} {w w' : World} {v : Value} {n : Nat} {cells : List Value}
theorem Run.nil (B : Nat → Prop) (w : World) (cells : List Value) : Run B w (.slice none 0 0) 0 cells := ⟨none, 0, rfl, Nat.le_refl _, fun _ => ⟨rfl, rfl⟩, .inl rfl⟩
theorem Run.mono (h : Run B w v n cells) (hB : ∀ k, k < w.heap.size → B k → B' k) : Run B' w v n cells := by
  obtain ⟨a, c, e, h1, h2, h3⟩ := h
  refine ⟨a, c, e, h1, h2, ?_⟩
  rcases h3 with h3 | ⟨b, off, rfl, hb, hlt, hc⟩
  · exact .inl h3
  · exact .inr ⟨b, off, rfl, hB b hlt hb, hlt, hc⟩
theorem Run.keep (h : Run B w v n cells) (hs : w.heap.size ≤ w'.heap.size) (hk : ∀ g, B g → g < w.heap.size → w'.heap[g]? = w.heap[g]?) : Run B w' v n cells := by
  obtain ⟨a, c, e, h1, h2, h3⟩ := h
  refine ⟨a, c, e, h1, h2, ?_⟩
  rcases h3 with h3 | ⟨b, off, rfl, hb, hlt, hc⟩
  · exact .inl h3
  · exact .inr ⟨b, off, rfl, hb, Nat.lt_of_lt_of_le hlt hs, fun j u hu => (World.cell?_of_block (a := ⟨b, off + j, none⟩) (hk b hb hlt)).trans (hc j u hu)⟩
theorem Run.below (h : Run B w v n cells) (hb : Below w.heap.size w w') : Run B w' v n cells := h.keep hb.size (fun g _ hl => hb.block g hl)
theorem Run.kept (h : Run B w v n cells) (hk : Kept S w w') (hd : ∀ g, g < w.heap.size → B g → ¬ S g) : Run B w' v n cells := h.keep hk.size (fun g hb hl => hk.block g hl (hd g hl hb))
theorem Run.slice (h : Run B w v n cells) : ∃ a c, v = .slice a n c ∧ n ≤ c := by
  obtain ⟨a, c, e, h1, _⟩ := h; exact ⟨a, c, e, h1⟩
def Src (w : World) (V : Value) (m : Nat) (cells : List Value) : Prop :=
  (V = .slice none 0 0 ∧ m = 0 ∧ cells = []) ∨ ∃ ad c, V = .slice (some ad) m c ∧ ∀ j u, cells[j]? = some u → w.cell? (ad.add j) = some u
theorem Run.src (h : Run B w v n cells) (h0 : n = 0 → cells = []) : Src w v n cells := by
  obtain ⟨a, c, rfl, h1, h2, h3⟩ := h
  cases a with
  | none =>
    obtain ⟨e1, e2⟩ := h2 rfl
    exact .inl ⟨by rw [e1, e2], e1, h0 e1⟩
  | some ad =>
    refine .inr ⟨ad, c, rfl, fun j u hu => ?_⟩
    rcases h3 with h3 | ⟨b, off, e, _, _, h4⟩
    · rw [h0 h3] at hu; simp at hu
    · cases e
      rw [add_off]; exact h4 j u hu
theorem Run.get {a : Option Addr} {c j : Nat} {u : Value} (h : Run B w (.slice a n c) n cells) (hn : 0 < n) (hu : cells[j]? = some u) : ∃ b off, a = some ⟨b, off, none⟩ ∧ B b ∧ b < w.heap.size ∧ w.cell? ⟨b, off + j, none⟩ = some u := by
  obtain ⟨a', c', e, h1, h2, h3⟩ := h
  cases e
  rcases h3 with h3 | ⟨b, off, rfl, hb, hlt, hc⟩
  · omega
  · exact ⟨b, off, rfl, hb, hlt, hc j u hu⟩
theorem Run.of_own {base : Nat} {e : TypeId} {size : Nat} (h : w.ownsRow base e size v n cells) (_hsz : 0 < size) : Run (fun k => base ≤ k) w v n cells := by
  have hc := fun g hg => h.cells (g := g) hg
  have hlt := h.lt
  rcases h.2 with ⟨rfl, rfl⟩ | ⟨g, cap, cur, rfl, _, hg, hcap, _⟩
  · exact Run.nil _ _ _
  · refine ⟨_, _, rfl, hcap, (fun h => by cases h), .inr ⟨g, 0, rfl, (hlt g rfl).1, (hlt g rfl).2, fun j u hu => ?_⟩⟩
    have := hc g rfl j u hu
    rw [add_zero_off] at this; rw [Nat.zero_add]; exact this
end
theorem row_slice {w : World} {base : Nat} {e : TypeId} {size : Nat} {v : Value} {n : Nat} {xs : List Value} (h : w.ownsRow base e size v n xs) : ∃ a c, v = .slice a n c := by
  rcases h.2 with ⟨rfl, rfl⟩ | ⟨g, cap, cur, rfl, _⟩
  · exact ⟨_, _, rfl⟩
  · exact ⟨_, _, rfl⟩
theorem own_base {w : World} {base base' : Nat} {e : TypeId} {size : Nat} {v : Value} {n : Nat} {xs : List Value} (h : w.ownsRow base e size v n xs) (hb : base' ≤ base) : w.ownsRow base' e size v n xs := by
  refine ⟨h.1, ?_⟩
  rcases h.2 with h2 | ⟨g, cap, cur, e1, e2, e3⟩
  · exact .inl h2
  · exact .inr ⟨g, cap, cur, e1, Nat.le_trans hb e2, e3⟩
theorem own_keep {w w' : World} {base : Nat} {e : TypeId} {size : Nat} {v : Value} {n : Nat} {xs : List Value} (h : w.ownsRow base e size v n xs) (hk : ∀ g, v.ownBlock = some g → base ≤ g → g < w.heap.size → w'.heap[g]? = w.heap[g]?) : w'.ownsRow base e size v n xs := by
  have hlt := h.lt
  refine ⟨h.1, ?_⟩
  rcases h.2 with h2 | ⟨g, cap, cur, rfl, e2, e3, e4⟩
  · exact .inl h2
  · exact .inr ⟨g, cap, cur, rfl, e2, (hk g rfl e2 (hlt g rfl).2).trans e3, e4⟩
/-- an append onto a row of one's own, of a run -/
theorem wpList_append_row {P : Program} {w : World} {ops : Array Oper} {rest : List Oper} {o : Oper} {a : Act} {Q : Exit → Act → World → Prop} (hgd : o.guard = none) (s x : Operand) (t : TypeId)
    (ho : o.op = .call { callee := .builtin .append, args := #[s, x], argTypes := #[t, t] })
    (base : Nat) (e : TypeId) (i : TypeInfo) (z : Value) (size bytes : Nat) (ht : P.underlying t = some (.slice e)) (hi : P.info? e = some i) (hz : i.zero = some z)
    (hsize : i.size = size) (hby : i.bytes = bytes) (hzs : z.cells.size = size) (hsz : 0 < size)
    (v : Value) (n : Nat) (xs : List Value) (hs : a.eval s = v) (hown : w.ownsRow base e size v n xs)
    (V : Value) (m : Nat) (news : List Value) (hx : a.eval x = V) (hsrc : Src w V m news) (hl : news.length = m * size) (h1 : ∀ u ∈ news, u.oneCell' = true)
    (h63 : n + m ≤ maxLen) (hbytes : (n + m) * bytes ≤ 140737488355328) (hbase : base ≤ w.heap.size)
    (h : ∀ v' w', w'.ownsRow base e size v' (n + m) (xs ++ news) → w.grownBy w' v.ownBlock → (v'.ownBlock = v.ownBlock ∨ v'.ownBlock = some w.heap.size) → wpList P ops Q rest (a.put o.dst v') w') :
    wpList P ops Q (o :: rest) a w := by
  rcases hsrc with ⟨rfl, rfl, rfl⟩ | ⟨ad, c, rfl, hc⟩
  · refine wpList_append_own_none hgd s x t ho base e i size ht hi v n xs hs hown hx (h v w (by simpa using hown) ⟨rfl, rfl, rfl, Nat.le_refl _, fun _ _ _ => rfl⟩ (.inl rfl))
  · exact wpList_append_own_at _ hgd s x t ho base e i z size bytes ht hi hz hsize hby hzs hsz v n xs hs hown ad m c news hx hl hc h1 h63 hbytes hbase (fun v' w' p1 p2 _ p4 => h v' w' p1 p2 p4)

/-- a message -/
structure Msg where
  k : Int
  f : Int
  t : Int
  tm : Int
  a : Int
  b : Int
  c : Int
  ok : Bool
  l : List Int
  es : List (Int × ByteArray)
  d : ByteArray
def noMsg : Msg := ⟨0, 0, 0, 0, 0, 0, 0, false, [], [], ⟨#[]⟩⟩
abbrev Msg.list (m : Msg) (lv ev : Value) : List Value := [.int .u8 m.k, .int .i64 m.f, .int .i64 m.t, .int .i64 m.tm, .int .i64 m.a, .int .i64 m.b, .int .i64 m.c, .bool m.ok, lv, ev, .string m.d]
abbrev Msg.arr (m : Msg) (lv ev : Value) : Array Value := #[.int .u8 m.k, .int .i64 m.f, .int .i64 m.t, .int .i64 m.tm, .int .i64 m.a, .int .i64 m.b, .int .i64 m.c, .bool m.ok, lv, ev, .string m.d]
abbrev Msg.agg (m : Msg) (lv ev : Value) : Value := .agg (m.arr lv ev)
def intsC (l : List Int) : List Value := l.map (Value.int .i64)
def entC (l : List (Int × ByteArray)) : List Value := l.flatMap (fun e => [.int .i64 e.1, .string e.2])
theorem intsC_len (l : List Int) : (intsC l).length = l.length := by simp [intsC]
theorem entC_len (l : List (Int × ByteArray)) : (entC l).length = l.length * 2 := by
  induction l with
  | nil => rfl
  | cons p r ih => simp only [entC, List.flatMap_cons, List.length_append] at ih ⊢; rw [ih]; simp; omega
theorem ints_one (l : List Int) : ∀ u ∈ intsC l, u.oneCell' = true := by
  intro u hu; obtain ⟨x, _, rfl⟩ := List.mem_map.1 hu; rfl
theorem ent_one (l : List (Int × ByteArray)) : ∀ u ∈ entC l, u.oneCell' = true := by
  intro u hu
  obtain ⟨x, _, hx⟩ := List.mem_flatMap.1 hu
  simp only [List.mem_cons, List.not_mem_nil, or_false] at hx
  rcases hx with rfl | rfl <;> rfl
/-- the message's two lists lie in blocks that B admits -/
def LI (B : Nat → Prop) (w : World) (m : Msg) (lv ev : Value) : Prop := Run B w lv m.l.length (intsC m.l) ∧ Run B w ev m.es.length (entC m.es)
theorem LI.mono {B B' : Nat → Prop} {w : World} {m : Msg} {lv ev : Value} (h : LI B w m lv ev) (hB : ∀ k, k < w.heap.size → B k → B' k) : LI B' w m lv ev := ⟨h.1.mono hB, h.2.mono hB⟩
theorem LI.keep {B : Nat → Prop} {w w' : World} {m : Msg} {lv ev : Value} (h : LI B w m lv ev) (hs : w.heap.size ≤ w'.heap.size) (hk : ∀ g, B g → g < w.heap.size → w'.heap[g]? = w.heap[g]?) : LI B w' m lv ev := ⟨h.1.keep hs hk, h.2.keep hs hk⟩
theorem LI.below {B : Nat → Prop} {w w' : World} {m : Msg} {lv ev : Value} (h : LI B w m lv ev) (hb : Below w.heap.size w w') : LI B w' m lv ev := ⟨h.1.below hb, h.2.below hb⟩
/-- small enough to be copied -/
structure Sm (m : Msg) : Prop where
  l : m.l.length ≤ 1048576
  e : m.es.length ≤ 1048576
  d : m.d.size ≤ 281474976710656
  ed : ∀ e ∈ m.es, e.2.size ≤ 281474976710656
end Go.Proofs.Ytheldpdckgoniaa
