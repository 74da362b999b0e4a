/- What the laws of this layer need: a beginning of the ticks; Drift where clocks ticked as they should. -/
import Derived.Test.YtckbbakajabhmaaWorks7
import Derived.Deep.DeepCutAuto
namespace Go.Proofs.Ytckbbakajabhmaa
open Go.RowKit Go.Maps

/-- l[:N] -/
theorem slice_to7 {B : Nat → Prop} {w : World} {a : Option Addr} {n c : Nat} {l : List Int} (h : Run B w (.slice a n c) l.length (intsC l)) (N : Nat) (hN : N ≤ l.length) :
    ∃ v, (∀ w', (Instr.slice 22 (.slice a n c) none (some (.int .i64 (N : Int))) none).run Try.prog w' = .ok v w') ∧ (∀ w', (Instr.sliceAt 22 (.slice a n c) none (some (.int .i64 (N : Int))) none).run Try.prog w' = .ok v w') ∧
      Run B w v (l.take N).length (intsC (l.take N)) := by
  obtain ⟨a', c', e, h1, h2, h3⟩ := h
  cases e
  have hr : ∀ w', (Instr.slice 22 (.slice a l.length c) none (some (.int .i64 (N : Int))) none).run Try.prog w' = .ok (.slice a N c) w' := fun w' => by
    rw [run_slice_h w' 22 a l.length c under_ints .i64 (N : Int) (by omega) (by omega), elem_ints, Try.sizeOf3]
    cases a with
    | none => simp [sliced, Result.andThen]
    | some a => simp [sliced, Result.andThen, Addr.add]
  have hl : (l.take N).length = N := by rw [List.length_take]; omega
  refine ⟨_, hr, fun w' => by rw [run_sliceAt_slice w' _ _ _ _ _ under_ints]; exact hr w', a, c, by rw [hl], by omega, fun e => by obtain ⟨e1, e2⟩ := h2 e; omega, ?_⟩
  rcases h3 with h3 | ⟨b, off, rfl, hb, hlt, hc⟩
  · exact .inl (by omega)
  · refine .inr ⟨b, off, rfl, hb, hlt, fun j u hu => hc j u ?_⟩
    rw [intsC, List.map_take, List.getElem?_take] at hu
    split at hu
    · exact hu
    · cases hu
theorem drift_true {w : World} {lv : Value} {l : List Int} {ms sv wt le : Int} (h : Run (fun k => k < w.heap.size) w lv l.length (intsC l)) (hi64 : ∀ x ∈ l, I64 x) (hc : l.length ≤ 1048576) (hms2 : I64 ms) (hwt : I64 wt) (hle : I64 le) (hst : Steady l ms sv wt le) :
    Calls Try.prog 16 #[lv, .int .i64 ms, .int .i64 sv, .int .i64 wt, .int .i64 le] w fun e w' => e = .returned (.bool true) ∧ Below w.heap.size w w' := by
  refine (Drift_any (sv := sv) h hi64 hc hms2 hwt hle).mono ?_
  rintro e w1 ⟨⟨b, rfl, hb⟩, hB⟩
  exact ⟨by rw [hb.2 hst], hB⟩
/-- what was read lies in blocks of the elder world -/
theorem Run.now {w w' : World} {v : Value} {n : Nat} {cells : List Value} (h : Run (fun k => k < w.heap.size) w v n cells) (hb : Below w.heap.size w w') : Run (fun k => k < w'.heap.size) w' v n cells :=
  (h.below hb).mono (fun _ hk _ => hk)
end Go.Proofs.Ytckbbakajabhmaa
