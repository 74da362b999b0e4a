/- An argument of takes, read. -/
import Derived.Test.YtkcmcgmonkeajaaFrame
import Derived.Test.YtkcmcgmonkeajaaTakes
import Derived.Deep.SlicePairs
import Derived.ChangeArms
namespace Go.Proofs.Ytkcmcgmonkeajaa
open Go.ChangeShapes Go.WideShapes Go.ChangeAt Go.RowKit Go.Deep
section
variable {H : Type} {enc : TypeId × Value → H} {W : World}
theorem read_takes {va : Option Addr} {len cap : Nat} {d : DataW H} {ps : List MemPlace} (h : DataW.Trod enc Try.prog W 0 (fun _ => true) true 37 (.slice va len cap) d ps) :
    ∃ l : List (Nat × Int), TakesAt W (.slice va len cap) l ∧ l.length ≤ 9223372036854775807 ∧ ∀ c ∈ l, c.1 < 256 ∧ -9223372036854775808 ≤ c.2 ∧ c.2 ≤ 9223372036854775807 := by
  obtain ⟨fuel, hf⟩ := h
  rcases open_slice_pairs Try.underlying37 Try.underlying45 (by kernel_rfl) (by kernel_rfl) (by kernel_rfl) (by kernel_rfl) (by kernel_rfl) hf with ⟨hcs, _⟩ | ⟨a, len', cap', m, n, V0, V1, D0, D1, P0, P1, hcs, _, hl, hm, hmm, _, hc⟩
  · simp [Value.cells] at hcs
    obtain ⟨rfl, rfl, rfl⟩ := hcs
    exact ⟨[], ⟨_, _, rfl, Nat.le_refl _, .inl rfl⟩, by simp, by simp⟩
  · simp [Value.cells] at hcs
    obtain ⟨rfl, rfl, rfl⟩ := hcs
    simp only [if_true] at hmm
    subst hmm
    have each : ∀ i, i < m → W.cell? (a.add (i * 2)) = some (.int .u8 ((intOf (V0 i)).toNat : Nat)) ∧ (intOf (V0 i)).toNat < 256 ∧ W.cell? (a.add (i * 2 + 1)) = some (.int .i64 (intOf (V1 i))) ∧ -9223372036854775808 ≤ intOf (V1 i) ∧ intOf (V1 i) ≤ 9223372036854775807 := by
      intro i hi
      obtain ⟨h1, h2, h3, h4⟩ := hc i hi
      obtain ⟨n0, e0, _, w0⟩ := DataW.trod_int Try.underlying5 h3
      obtain ⟨n1, e1, _, w1⟩ := DataW.trod_int Try.underlying3 h4
      simp only [List.cons.injEq, and_true] at e0 e1
      have b0 := bounds_u8 w0
      have b1 := bounds_i64 w1
      rw [e0] at h1
      rw [e1] at h2
      rw [e0, e1]
      refine ⟨?_, ?_, h2, b1⟩
      · rw [h1]; show some (Value.int .u8 n0) = some (Value.int .u8 ((n0.toNat : Nat) : Int)); rw [Int.toNat_of_nonneg b0.1]
      · show n0.toNat < 256; omega
    have hll : ((List.range len).map fun i => ((intOf (V0 i)).toNat, intOf (V1 i))).length = len := by simp
    refine ⟨(List.range len).map fun i => ((intOf (V0 i)).toNat, intOf (V1 i)), ?_, by rw [hll]; unfold maxLen at hm; omega, fun c hc => ?_⟩
    · unfold TakesAt
      rw [hll]
      refine ⟨_, _, rfl, hl, ?_⟩
      by_cases h0 : len = 0
      · exact .inl h0
      · right
        obtain ⟨b, off, spot⟩ := a
        have hspot : spot = none := by simpa [Addr.add] using World.cell?_spot (each 0 (by omega)).1
        subst hspot
        have hadd : ∀ j : Nat, (⟨b, off, none⟩ : Addr).add j = ⟨b, off + j, none⟩ := fun j => by unfold Addr.add; split <;> simp_all
        refine ⟨b, off, rfl, by have := World.block_lt_of_cell? W _ (each 0 (by omega)).1; simpa [Addr.add] using this, fun j x hx => ?_⟩
        have hj : j < len := by have := (List.getElem?_eq_some_iff.1 hx).1; simpa using this
        rw [List.getElem?_map, List.getElem?_range hj] at hx
        simp at hx
        obtain ⟨e1, _, e3, _⟩ := each j (by omega)
        rw [hadd] at e1 e3
        rw [← hx]
        exact ⟨e1, by rw [← Nat.add_assoc] at e3; exact e3⟩
    · obtain ⟨i, hi, rfl⟩ := List.mem_map.1 hc
      have hi' := List.mem_range.1 hi
      obtain ⟨_, e2, _, e4⟩ := each i (by omega)
      exact ⟨e2, e4⟩
end
end Go.Proofs.Ytkcmcgmonkeajaa
