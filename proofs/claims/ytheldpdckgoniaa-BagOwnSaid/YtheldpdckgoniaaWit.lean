/- What every law of this layer needs of its row: the witness's world; acts read. -/
import Derived.Test.YtheldpdckgoniaaWit6
import Derived.Test.YtheldpdckgoniaaRows
import Derived.Deep.DeepHandedRow
import Derived.Deep.DeepWitnessRowRef
import Derived.ProofKit
import Derived.OpenShut
import Derived.SizedLaws
import Derived.SliceStrings
import Derived.Carry
namespace Go.Proofs.Ytheldpdckgoniaa
open Go.ChangeShapes Go.WideShapes Go.ChangeAt Go.RowKit
open Go.ChangeMaps (open_string shut_string)

theorem own : ownKnob Try.prog.godebug = none := by kernel_rfl
theorem laidOut : laidOutB Try.prog = true := by kernel_rfl
noncomputable def laidWorld (os : Os) : World := World.holding Try.prog os ⟨#[], #[], []⟩
theorem laid_met (w : World) : laidMet Try.prog [] w := ⟨[], by first | trivial | rfl, List.nodup_nil, fun _ _ h => by cases h⟩
theorem read_bag {H : Type} {enc : TypeId × Value → H} {W : World} {va : Option Addr} {len cap : Nat} {d : DataW H} {ps : List MemPlace} (h : DataW.Trod enc Try.prog W 0 (fun _ => true) true 22 (.slice va len cap) d ps)
    (hz : ∀ n ∈ d.weights Try.prog 22, n ≤ reachBytes) : ∃ l : List ActV, len = l.length ∧ ActsIn (fun k => k < W.heap.size) W (.slice va len cap) l ∧ l.length ≤ 9223372036854775807 ∧ ∀ a ∈ l, WideA a := by
  obtain ⟨fuel, hf⟩ := h
  obtain ⟨l, h1, h2, h3⟩ := read_acts6 hf hz
  obtain ⟨a, c, e, _⟩ := h1.1.slice
  refine ⟨l, ?_, h1, h2, h3⟩
  cases e
  rfl
end Go.Proofs.Ytheldpdckgoniaa
