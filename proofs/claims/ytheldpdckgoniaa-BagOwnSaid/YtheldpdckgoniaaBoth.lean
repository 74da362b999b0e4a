/- A bag beside the messages that were sent. -/
import Derived.Test.YtheldpdckgoniaaAmong
import Derived.Test.YtheldpdckgoniaaLose
namespace Go.Proofs.Ytheldpdckgoniaa
open Go.RowKit

/-- the bag, and a box sx that holds a row of messages that are not the bag's -/
structure Both (base bb sx M : Nat) (ms : List Msg) (xs : List X) (sv : Value) (Sb : Nat → Prop) (w : World) : Prop where
  bag : BagAt BagT Sb w bb M ms
  low : ∀ j, Sb j → base ≤ j ∧ j < w.heap.size ∧ j ≠ sx
  box : w.heap[sx]? = some (.cells #[sv] 29 (0, 0))
  row : w.ownsRow 0 38 11 sv xs.length (rowC xs)
  own : ∀ g, sv.ownBlock = some g → base ≤ g ∧ g ≠ sx ∧ ¬ Sb g
  sxb : base ≤ sx
def BothAt (base bb sx M : Nat) (ms : List Msg) (xs : List X) (w : World) : Prop := ∃ sv Sb, Both base bb sx M ms xs sv Sb w
section
variable {base bb sx M : Nat} {ms : List Msg} {xs : List X} {w w' : World}
theorem Both.sxlt {sv : Value} {Sb : Nat → Prop} (h : Both base bb sx M ms xs sv Sb w) : sx < w.heap.size := (Array.getElem?_eq_some_iff.1 h.box).1
theorem Both.below {sv : Value} {Sb : Nat → Prop} (h : Both base bb sx M ms xs sv Sb w) (hb : Below w.heap.size w w') : Both base bb sx M ms xs sv Sb w' :=
  ⟨h.bag.below hb, fun j hj => ⟨(h.low j hj).1, Nat.lt_of_lt_of_le (h.low j hj).2.1 hb.size, (h.low j hj).2.2⟩, (hb.block _ h.sxlt).trans h.box, own_keep h.row (fun g hg _ hl => hb.block g hl), h.own, h.sxb⟩
theorem BothAt.below (h : BothAt base bb sx M ms xs w) (hb : Below w.heap.size w w') : BothAt base bb sx M ms xs w' := by
  obtain ⟨sv, Sb, h⟩ := h
  exact ⟨sv, Sb, h.below hb⟩
theorem BothAt.bag (h : BothAt base bb sx M ms xs w) : ∃ Sb, BagAt BagT Sb w bb M ms := by
  obtain ⟨sv, Sb, h⟩ := h
  exact ⟨Sb, h.bag⟩
/-- a call that goes to the bag -/
theorem Both.call {sv : Value} {Sb : Nat → Prop} {ms' : List Msg} {f : FuncId} {args : Array Value} {X1 : Ending → World → Prop} (h : Both base bb sx M ms xs sv Sb w) (hbw : base ≤ w.heap.size)
    (hc : ∀ S : Nat → Prop, (∀ k, w.heap.size ≤ k → S k) → (∀ k, S k → base ≤ k) → BagAt BagT S w bb M ms → Calls Try.prog f args w fun e w' => X1 e w' ∧ BagAt BagT S w' bb M ms' ∧ Kept S w w') :
    Calls Try.prog f args w fun e w' => X1 e w' ∧ (∃ Sb', Both base bb sx M ms' xs sv Sb' w') ∧ Kept (fun j => base ≤ j) w w' := by
  have hS : ∀ k, (Sb k ∨ w.heap.size ≤ k) → base ≤ k := fun k hk => hk.elim (fun h1 => (h.low k h1).1) (fun h1 => Nat.le_trans hbw h1)
  refine (hc (fun j => Sb j ∨ w.heap.size ≤ j) (fun k hk => .inr hk) hS (h.bag.mono (fun k _ hk => .inl hk))).mono ?_
  rintro e w' ⟨hx, hb, hk⟩
  have hsx := h.sxlt
  have hns : ¬ (Sb sx ∨ w.heap.size ≤ sx) := fun hh => hh.elim (fun h1 => (h.low sx h1).2.2 rfl) (fun h1 => by omega)
  have hng : ∀ g, sv.ownBlock = some g → g < w.heap.size → ¬ (Sb g ∨ w.heap.size ≤ g) := fun g hg hl hh => hh.elim (h.own g hg).2.2 (fun h1 => by omega)
  refine ⟨hx, ⟨_, hb.tight, fun j hj => ⟨hS j hj.1, hj.2, fun e => hns (e ▸ hj.1)⟩, (hk.block _ hsx hns).trans h.box, own_keep h.row (fun g hg _ hl => hk.block g hl (hng g hg hl)), fun g hg => ⟨(h.own g hg).1, (h.own g hg).2.1, fun hh => hng g hg (h.row.lt g hg).2 hh.1⟩, h.sxb⟩, hk.mono (fun k _ => hS k)⟩
/-- what was sent grows -/
theorem Both.grow {sv sv2 : Value} {Sb : Nat → Prop} {ys : List X} {w2 : World} (h : Both base bb sx M ms xs sv Sb w) (hbw : base ≤ w.heap.size) (ho : w2.ownsRow 0 38 11 sv2 (xs ++ ys).length (rowC (xs ++ ys))) (hg : w.grownBy w2 sv.ownBlock)
    (hw : ∀ g, sv2.ownBlock = some g → sv.ownBlock = some g ∨ w.heap.size ≤ g) : Both base bb sx M ms (xs ++ ys) sv2 Sb (w2.setCell ⟨sx, 0, none⟩ sv2) ∧ Kept (fun j => base ≤ j) w (w2.setCell ⟨sx, 0, none⟩ sv2) := by
  have hsx := h.sxlt
  have hne : ∀ j, j < w.heap.size → sv.ownBlock ≠ some j → w2.heap[j]? = w.heap[j]? := fun j hj hn => hg.block j hj (fun e => hn e.symm)
  have hk2 : Kept (fun j => sv.ownBlock = some j ∨ j = sx) w (w2.setCell ⟨sx, 0, none⟩ sv2) := (Kept.of_grown hg (fun p hp => .inl hp)).set (.inl (.inr rfl)) _
  have hb2 : w2.heap[sx]? = some (.cells #[sv] 29 (0, 0)) := (hne sx hsx (fun e => (h.own sx e).2.1 rfl)).trans h.box
  refine ⟨⟨h.bag.other hk2 (fun k _ hk hh => hh.elim (fun e => (h.own k e).2.2 hk) (fun e => (h.low k hk).2.2 e)), fun j hj => ⟨(h.low j hj).1, Nat.lt_of_lt_of_le (h.low j hj).2.1 hk2.size, (h.low j hj).2.2⟩, ?_, ?_, fun g hg' => ?_, h.sxb⟩, hk2.mono (fun k _ hh => hh.elim (fun e => (h.own k e).1) (fun e => e ▸ h.sxb))⟩
  · simp [World.setCell, Array.getElem?_modify, hb2]
  · refine own_keep ho (fun g hg' _ _ => Below.heap_setCell _ _ _ _ (fun e => ?_))
    rcases hw g hg' with h1 | h1
    · exact (h.own g h1).2.1 e
    · have e : g = sx := e
      omega
  · rcases hw g hg' with h1 | h1
    · exact h.own g h1
    · exact ⟨by omega, by omega, fun hh => by have := (h.low g hh).2.1; omega⟩
end
theorem run_append_zero {P : Program} {w : World} (base : Nat) (t ty e : TypeId) (i : TypeInfo) (size : Nat) (ht : P.underlying t = some (.slice e)) (hi : P.info? e = some i) (v : Value) (n : Nat) (xs : List Value) (hown : w.ownsRow base e size v n xs) (a : Option Addr) (c : Nat) :
    (Builtin.append_ #[t, t] ty #[v, .slice a 0 c]).run P w = .ok v w := by
  rcases hown.2 with ⟨rfl, rfl⟩ | ⟨g, cap, cur, rfl, _, _, hnc, _⟩
  · cases a <;> simp [Builtin.append_, run_underlying ht, sizeOf, typeInfo, hi, Builtin.lenOf, Builtin.firstCells, loadCells, loadCellsFrom]
  · cases a <;> simp [Builtin.append_, run_underlying ht, sizeOf, typeInfo, hi, Builtin.lenOf, Builtin.firstCells, hnc, storeCells, loadCells, loadCellsFrom]
theorem step_append_zero {P : Program} {ops : Array Oper} {o : Oper} {a : Act} {w : World} {K : Act → World → Prop} {Q : Exit → Act → World → Prop} {E : Prop} (hgd : o.guard = none) (s x : Operand) (t : TypeId)
    (ho : o.op = .call { callee := .builtin .append, args := #[s, x], argTypes := #[t, t] })
    (base : Nat) (e : TypeId) (i : TypeInfo) (size : Nat) (ht : P.underlying t = some (.slice e)) (hi : P.info? e = some i)
    (v : Value) (n : Nat) (xs : List Value) (hs : a.eval s = v) (hown : w.ownsRow base e size v n xs) (a' : Option Addr) (m c : Nat) (hx : a.eval x = .slice a' m c) (hm : m = 0)
    (h : K (a.put o.dst v) w) : if Region.wanted o (yielded ops a.tmps) = true then Oper.wp P o a w K Q else E := by
  have hw : Region.wanted o (yielded ops a.tmps) = true := by simp [Region.wanted, hgd]
  rw [if_pos hw]
  subst hm
  have hrun := run_append_zero (P := P) (w := w) base t o.type e i size ht hi v n xs hown a' c
  unfold Oper.wp
  simp [execOp, ho, resolve, invoke, builtin, hs, hx, hrun, Result.andThen]
  exact h
end Go.Proofs.Ytheldpdckgoniaa
