/- What every law of this layer needs of its row: the witness's world; arguments read. -/
import Derived.Test.YtnffjoflkeagfaaWorks
import Derived.Test.YtnffjoflkeagfaaRows
import Derived.Deep.DeepHandedRow
import Derived.Deep.DeepWitnessRowRef
import Derived.ProofKit
import Derived.OpenShut
import Derived.SizedLaws
import Derived.SliceStrings
import Derived.Carry
namespace Go.Proofs.Ytnffjoflkeagfaa
open Go.ChangeShapes Go.WideShapes Go.ChangeAt Go.RowKit
open Go.ChangeMaps (open_string shut_string)

theorem own : ownKnob Try.prog.godebug = none := by kernel_rfl
theorem laidOut : laidOutB Try.prog = true := by kernel_rfl
noncomputable def laidWorld (os : Os) : World := World.holding Try.prog os ⟨#[], #[], []⟩
theorem laid_met (w : World) : laidMet Try.prog [] w := ⟨[], by first | trivial | rfl, List.nodup_nil, fun _ _ h => by cases h⟩
section
variable {H : Type} {enc : TypeId × Value → H} {W : World}
theorem read_cells {α : Type} (c : α → Value) (d : α) (xs : List α) (a : Addr) (len cap : Nat) (hx : xs.length = cap) (hl : len ≤ cap) (hc : ∀ i, i < xs.length → W.cell? (a.add i) = some (c (xs.getD i d))) :
    ListOff (From W.heap.size) W (.slice (some a) len cap) (xs.take len).length (cellsOf c (xs.take len)) := by
  have hlen : (xs.take len).length = len := by rw [List.length_take]; omega
  rw [hlen]
  refine ⟨by simp [cellsOf]; omega, _, _, rfl, hl, ?_⟩
  by_cases h0 : len = 0
  · exact .inl h0
  · right
    obtain ⟨b, off, spot⟩ := a
    have hspot : spot = none := by simpa [Addr.add] using World.cell?_spot (hc 0 (by omega))
    subst hspot
    have hc' : ∀ j, j < xs.length → W.cell? ⟨b, off + j, none⟩ = some (c (xs.getD j d)) := fun j hj => by
      have := hc j hj
      unfold Addr.add at this
      by_cases h : j = 0
      · subst h; simpa using this
      · simpa [h] using this
    have hlt : b < W.heap.size := by simpa using World.block_lt_of_cell? W _ (hc' 0 (by omega))
    refine ⟨b, off, rfl, hlt, fun (h : W.heap.size ≤ b) => by omega, fun j u hu => ?_⟩
    have hj : j < len := by
      have := (List.getElem?_eq_some_iff.1 hu).1; simp [cellsOf] at this; omega
    rw [hc' j (by omega)]
    simp only [cellsOf, List.getElem?_map, List.getElem?_take, hj, if_true] at hu
    rw [List.getElem?_eq_getElem (by omega)] at hu
    simp at hu
    rw [← hu]; simp [List.getD, show j < xs.length by omega]
theorem read_strings {t e : TypeId} {va : Option Addr} {len cap : Nat} {d : DataW H} {ps : List MemPlace} (ht : Try.prog.underlying t = some (.slice e)) (he : Try.prog.underlying e = some .string) (hce : Try.prog.cellsOf e = 1)
    (h : DataW.Trod enc Try.prog W 0 (fun _ => true) true t (.slice va len cap) d ps) :
    ∃ l : List ByteArray, ListOff (From W.heap.size) W (.slice va len cap) l.length (cellsOf strC l) ∧ l.length ≤ 9223372036854775807 ∧ ∀ c ∈ l, c.size ≤ 9223372036854775807 := by
  obtain ⟨fuel, hf⟩ := h
  rcases open_strings ht he hce hf with ⟨hcs, hx⟩ | ⟨a, len', cap', zs, hcs, _, hl, hm, hz, hx, hcell, hwz⟩
  · simp [Value.cells] at hcs
    obtain ⟨rfl, rfl, rfl⟩ := hcs
    exact ⟨[], ⟨rfl, _, _, rfl, Nat.le_refl _, .inl rfl⟩, by simp, by simp⟩
  · simp [Value.cells] at hcs
    obtain ⟨rfl, rfl, rfl⟩ := hcs
    simp only [if_true] at hz
    refine ⟨zs.take len, read_cells strC ByteArray.empty zs a len cap hz hl hcell, ?_, fun c hc => ?_⟩
    · rw [List.length_take]; unfold maxLen at hm; omega
    · have := hwz c (List.mem_of_mem_take hc); unfold maxLen at this; omega
theorem read_str {va : Option Addr} {len cap : Nat} {d : DataW H} {ps : List MemPlace} (h : DataW.Trod enc Try.prog W 0 (fun _ => true) true 41 (.slice va len cap) d ps) :
    ∃ l : List ByteArray, ListOff (From W.heap.size) W (.slice va len cap) l.length (cellsOf strC l) ∧ l.length ≤ 9223372036854775807 ∧ ∀ c ∈ l, c.size ≤ 9223372036854775807 :=
  read_strings Try.underlying41 Try.underlying9 (by kernel_rfl) h
theorem read_ints {t e : TypeId} {k : IntKind} {va : Option Addr} {len cap : Nat} {d : DataW H} {ps : List MemPlace} (ht : Try.prog.underlying t = some (.slice e)) (he : Try.prog.underlying e = some (.int k)) (hce : Try.prog.cellsOf e = 1)
    (h : DataW.Trod enc Try.prog W 0 (fun _ => true) true t (.slice va len cap) d ps) :
    ∃ l : List Int, ListOff (From W.heap.size) W (.slice va len cap) l.length (cellsOf (Value.int k) l) ∧ l.length ≤ 9223372036854775807 ∧ ∀ c ∈ l, (Lit.int k c).wf = true := by
  obtain ⟨fuel, hf⟩ := h
  rcases open_ints ht he hce hf with ⟨hcs, hx⟩ | ⟨a, len', cap', zs, hcs, _, hl, hm, hz, hx, hcell, hwz⟩
  · simp [Value.cells] at hcs
    obtain ⟨rfl, rfl, rfl⟩ := hcs
    exact ⟨[], ⟨rfl, _, _, rfl, Nat.le_refl _, .inl rfl⟩, by simp, by simp⟩
  · simp [Value.cells] at hcs
    obtain ⟨rfl, rfl, rfl⟩ := hcs
    simp only [if_true] at hz
    refine ⟨zs.take len, read_cells (Value.int k) 0 zs a len cap hz hl hcell, ?_, fun c hc => hwz c (List.mem_of_mem_take hc)⟩
    rw [List.length_take]; unfold maxLen at hm; omega
end
end Go.Proofs.Ytnffjoflkeagfaa
