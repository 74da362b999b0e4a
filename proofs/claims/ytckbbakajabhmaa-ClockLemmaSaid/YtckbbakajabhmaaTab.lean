/- Leases and waits: a map of integers behind a pointer; Grant, Note, Drop, Until, Valid, Over. -/
import Derived.Test.YtckbbakajabhmaaPair7
namespace Go.Proofs.Ytckbbakajabhmaa
open Go.RowKit Go.Maps

/-- what a lease's end is told as -/
abbrev G := Int → Option Int
def noG : G := fun _ => none
def grantG (g : G) (k u : Int) : G := upd g k (some (match g k with | none => u | some e => max u e))
def noteG (g : G) (k u : Int) : G := match g k with | none => upd g k (some u) | some _ => g
def dropG (g : G) (k : Int) : G := upd g k none
def untilG (g : G) (k : Int) : Int := (g k).getD 0
def validG (g : G) (k now : Int) : Bool := match g k with | none => false | some e => decide (now < e)
def overG (g : G) (k now wait : Int) : Bool := match g k with | none => false | some e => decide (e ≤ now) && decide (wait ≤ now - e)
/-- each end is a 64-bit integer -/
def Ends (g : G) : Prop := ∀ k e, g k = some e → I64 e
theorem ends_no : Ends noG := fun _ _ h => by cases h
theorem ends_upd {g : G} (h : Ends g) (k : Int) {v : Option Int} (hv : ∀ e, v = some e → I64 e) : Ends (upd g k v) := fun y e he => by
  by_cases c : y = k
  · subst c; rw [upd_same] at he; exact hv e he
  · rw [upd_other _ _ c] at he; exact h y e he
theorem ends_grant {g : G} (h : Ends g) (k : Int) {u : Int} (hu : I64 u) : Ends (grantG g k u) := ends_upd h k (fun e he => by
  cases c : g k with
  | none => rw [c] at he; cases he; exact hu
  | some x => rw [c] at he; cases he; have := h k x c; unfold I64 at *; simp only; omega)
theorem ends_note {g : G} (h : Ends g) (k : Int) {u : Int} (hu : I64 u) : Ends (noteG g k u) := by
  unfold noteG
  cases c : g k with
  | none => exact ends_upd h k (fun e he => by cases he; exact hu)
  | some x => exact h
theorem ends_drop {g : G} (h : Ends g) (k : Int) : Ends (dropG g k) := ends_upd h k (fun e he => by cases he)

/-- the map behind a field: nil, or a block that tells g -/
def MapV (S : Nat → Prop) (w : World) (b : Nat) (mo : Option Nat) (n : Nat) (g : G) : Prop :=
  (mo = none ∧ g = noG) ∨ ∃ mb, mo = some mb ∧ S mb ∧ mb ≠ b ∧ IMap w mb n g
/-- the block b is a struct of type T with one field, a map that tells g -/
def TabAt (T : TypeId) (S : Nat → Prop) (w : World) (b n : Nat) (g : G) : Prop :=
  ∃ mo, S b ∧ w.heap[b]? = some (.cells #[.map mo] T (0, 0)) ∧ MapV S w b mo n g
def TabQ (T : TypeId) (b n : Nat) (g : G) : (Nat → Prop) → World → Prop := fun S w => TabAt T S w b n g
theorem heap_lt {w : World} {b : Nat} {o : Obj} (h : w.heap[b]? = some o) : b < w.heap.size := by
  obtain ⟨h1, _⟩ := Array.getElem?_eq_some_iff.1 h; exact h1
theorem tabThing (T : TypeId) (b n : Nat) (g : G) : Thing (TabQ T b n g) := by
  refine ⟨fun {S S' w} h hS => ?_, fun {S w} h => ?_, fun {S S' w w'} h hk hS => ?_⟩
  · obtain ⟨mo, h1, h2, h3⟩ := h
    refine ⟨mo, hS _ (heap_lt h2) h1, h2, ?_⟩
    rcases h3 with h3 | ⟨mb, e, h4, h5, h6⟩
    · exact .inl h3
    · exact .inr ⟨mb, e, hS _ h6.lt h4, h5, h6⟩
  · obtain ⟨mo, h1, h2, h3⟩ := h
    refine ⟨mo, ⟨h1, heap_lt h2⟩, h2, ?_⟩
    rcases h3 with h3 | ⟨mb, e, h4, h5, h6⟩
    · exact .inl h3
    · exact .inr ⟨mb, e, ⟨h4, h6.lt⟩, h5, h6⟩
  · obtain ⟨mo, h1, h2, h3⟩ := h
    refine ⟨mo, h1, (hk.block _ (heap_lt h2) (hS _ (heap_lt h2) h1)).trans h2, ?_⟩
    rcases h3 with h3 | ⟨mb, e, h4, h5, h6⟩
    · exact .inl h3
    · exact .inr ⟨mb, e, h4, h5, h6.keep (hk.block _ h6.lt (hS _ h6.lt h4))⟩
theorem tab_new (T : TypeId) {S : Nat → Prop} (w : World) (hS : S w.heap.size) : TabAt T S (w.alloc (.cells #[.map none] T)) w.heap.size 0 noG :=
  ⟨none, hS, heap_alloc_new w _, .inl ⟨rfl, rfl⟩⟩
/-- look-ups -/
theorem MapV.look {S : Nat → Prop} {w : World} {b n : Nat} {mo : Option Nat} {g : G} (h : MapV S w b mo n g) {x : Int} (hx : I64 x) (w' : World) (hb : ∀ mb, mo = some mb → w'.heap[mb]? = w.heap[mb]?) :
    (Instr.lookup 33 (.map mo) (.int .i64 x) false).run Try.prog w' = .ok (.int .i64 (untilG g x)) w' ∧
    (Instr.lookup 33 (.map mo) (.int .i64 x) true).run Try.prog w' = .ok (.tuple #[.int .i64 (untilG g x), .bool (g x).isSome]) w' := by
  rcases h with ⟨rfl, rfl⟩ | ⟨mb, rfl, _, _, h⟩
  · exact ⟨Maps.look_nil (P := Try.prog) (w := w') (t := 33) false lawI Try.underlying33 (zeroI w') (hkeyI hx),
      Maps.look_nil (P := Try.prog) (w := w') (t := 33) true lawI Try.underlying33 (zeroI w') (hkeyI hx)⟩
  · have := h.look 33 3 Try.underlying33 (fun w => zeroI w) hx w' (hb mb rfl)
    have e : (((g x).map (Value.int .i64)).getD (.int .i64 0)) = .int .i64 (untilG g x) := by unfold untilG; cases g x <;> rfl
    rwa [e] at this
end Go.Proofs.Ytckbbakajabhmaa
