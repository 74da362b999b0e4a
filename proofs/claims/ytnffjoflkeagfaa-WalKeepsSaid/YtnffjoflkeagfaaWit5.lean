/- Lists of texts among the arguments. -/
import Derived.Test.YtnffjoflkeagfaaWit
import Derived.Test.YtnffjoflkeagfaaWorks5
namespace Go.Proofs.Ytnffjoflkeagfaa
open Go.ChangeShapes Go.WideShapes Go.ChangeAt Go.RowKit
open Go.ChangeMaps (open_string shut_string)

section
variable {H : Type} {enc : TypeId × Value → H} {W : World}
theorem read_txt {va : Option Addr} {len cap : Nat} {d : DataW H} {ps : List MemPlace} (h : DataW.Trod enc Try.prog W 0 (fun _ => true) true 41 (.slice va len cap) d ps) :
    ∃ l : Recs, TxtOff (From W.heap.size) W (.slice va len cap) l ∧ l.length ≤ 9223372036854775807 ∧ ∀ c ∈ l, c.size ≤ 9223372036854775807 := by
  obtain ⟨fuel, hf⟩ := h
  rcases open_strings Try.underlying41 Try.underlying9 (by kernel_rfl) hf with ⟨hcs, hx⟩ | ⟨a, len', cap', zs, hcs, _, hl, hm, hz, hx, hcell, hwz⟩
  · simp [Value.cells] at hcs
    obtain ⟨rfl, rfl, rfl⟩ := hcs
    exact ⟨[], ⟨⟨rfl, _, _, rfl, Nat.le_refl _, .inl rfl⟩, fun n c e => by cases e; exact ⟨rfl, rfl⟩⟩, by simp, by simp⟩
  · simp [Value.cells] at hcs
    obtain ⟨rfl, rfl, rfl⟩ := hcs
    simp only [if_true] at hz
    refine ⟨zs.take len, ⟨read_cells strC ByteArray.empty zs a len cap hz hl hcell, fun n c e => by cases e⟩, ?_, fun c hc => ?_⟩
    · rw [List.length_take]; unfold maxLen at hm; omega
    · have := hwz c (List.mem_of_mem_take hc); unfold maxLen at this; omega
end
end Go.Proofs.Ytnffjoflkeagfaa
