/- What every law of this layer needs of its row: the witness's world; arguments read. -/
import Derived.Test.YtcgoggkaiiljmaaWorks8
import Derived.Test.YtcgoggkaiiljmaaRows
import Derived.Deep.Slices
import Derived.Deep.DeepHandedRow
import Derived.Deep.DeepWitnessRowRef
import Derived.ProofKit
import Derived.OpenShut
import Derived.SizedLaws
import Derived.SliceStrings
import Derived.Carry
namespace Go.Proofs.Ytcgoggkaiiljmaa
open Go.ChangeShapes Go.WideShapes Go.ChangeAt Go.RowKit
open Go.ChangeMaps (open_string shut_string)
open Go.Deep (open_slice choose_lt)

theorem own : ownKnob Try.prog.godebug = none := by kernel_rfl
theorem laidOut : laidOutB Try.prog = true := by kernel_rfl
noncomputable def laidWorld (os : Os) : World := World.holding Try.prog os ⟨#[], #[], []⟩
theorem laid_met (w : World) : laidMet Try.prog [] w := ⟨[], by first | trivial | rfl, List.nodup_nil, fun _ _ h => by cases h⟩
theorem flat_get {α : Type} (sz : Nat) (cell : α → List Value) (hc : ∀ x, (cell x).length = sz) : ∀ (l : List α) (j : Nat) (u : Value), (l.flatMap cell)[j]? = some u → ∃ (i r : Nat) (x : α), l[i]? = some x ∧ j = i * sz + r ∧ (cell x)[r]? = some u
  | [], j, u, h => by simp at h
  | p :: t, j, u, h => by
    simp only [List.flatMap_cons] at h
    by_cases hj : j < sz
    · rw [List.getElem?_append_left (by rw [hc]; exact hj)] at h
      exact ⟨0, j, p, rfl, by omega, h⟩
    · rw [List.getElem?_append_right (by rw [hc]; omega), hc] at h
      obtain ⟨i, r, x, h1, h2, h3⟩ := flat_get sz cell hc t (j - sz) u h
      exact ⟨i + 1, r, x, by simpa using h1, by rw [Nat.add_mul]; omega, h3⟩
theorem run_rows {α : Type} [Inhabited α] {W : World} (sz : Nat) (hsz : 0 < sz) (cell : α → List Value) (hc : ∀ x, (cell x).length = sz) (Q : α → Prop) {a : Addr} {len cap : Nat} (hl : len ≤ cap)
    (h : ∀ i, i < len → ∃ x, (∀ j u, (cell x)[j]? = some u → W.cell? (a.add (i * sz + j)) = some u) ∧ Q x) : ∃ l : List α, len = l.length ∧ Run (fun k => k < W.heap.size) W (.slice (some a) len cap) len (l.flatMap cell) ∧ ∀ x ∈ l, Q x := by
  obtain ⟨X, hX⟩ := choose_lt h
  refine ⟨(List.range len).map X, by simp, ⟨some a, cap, rfl, hl, (fun e => by cases e), ?_⟩, fun x hx => ?_⟩
  · by_cases h0 : len = 0
    · left; subst h0; rfl
    · right
      obtain ⟨b, off, spot⟩ := a
      obtain ⟨u0, hu0⟩ : ∃ u, (cell (X 0))[0]? = some u := ⟨_, List.getElem?_eq_getElem (by rw [hc]; exact hsz)⟩
      have h00 := (hX 0 (by omega)).1 0 u0 hu0
      have hspot : spot = none := by simpa [Addr.add] using World.cell?_spot h00
      subst hspot
      have hadd : ∀ j, (⟨b, off, none⟩ : Addr).add j = ⟨b, off + j, none⟩ := fun j => by
        unfold Addr.add
        by_cases h : j = 0
        · subst h; simp
        · simp [h]
      have hlt : b < W.heap.size := by
        rw [hadd] at h00
        exact World.block_lt_of_cell? W _ h00
      refine ⟨b, off, rfl, hlt, hlt, fun j u hu => ?_⟩
      obtain ⟨i, r, x, h1, rfl, h3⟩ := flat_get sz cell hc _ j u hu
      have hi : i < len := by have := (List.getElem?_eq_some_iff.1 h1).1; simpa using this
      have hxe : x = X i := by
        rw [List.getElem?_map, List.getElem?_range hi] at h1
        exact (Option.some.inj h1).symm
      subst hxe
      have := (hX i hi).1 r u h3
      rw [hadd] at this
      exact this
  · obtain ⟨i, hi, rfl⟩ := List.mem_map.1 hx
    exact (hX i (List.mem_range.1 hi)).2
section
variable {H : Type} {enc : TypeId × Value → H} {W : World}
theorem intL_flat (l : List Int) : l.flatMap (fun z => [Value.int .i64 z]) = intsC l := by
  induction l with
  | nil => rfl
  | cons p t ih => simp only [List.flatMap_cons, ih]; rfl
theorem read_ints8 {fuel : Nat} {v : Value} {y : DataW H × List MemPlace} (h : DataW.trod enc Try.prog W 0 (fun _ => true) true fuel 22 [v] = some y) : ∃ zs : List Int, Run (fun k => k < W.heap.size) W v zs.length (intsC zs) ∧ zs.length ≤ 9223372036854775807 ∧ ∀ x ∈ zs, I64 x := by
  rcases open_slice Try.underlying22 h with ⟨hcs, hx⟩ | ⟨a, len, cap, m, n, D, Pl, hcs, _, hl, hm, hmm, hx, hel⟩
  · simp only [List.cons.injEq, and_true] at hcs
    subst hcs
    exact ⟨[], Run.nil _ _ _, by simp, by simp⟩
  · simp only [List.cons.injEq, and_true] at hcs
    subst hcs
    have hce : Try.prog.cellsOf 3 = 1 := by kernel_rfl
    rw [hce] at hel
    simp only [if_true] at hmm
    rw [hmm] at hel hx
    clear hmm
    have each : ∀ i, i < len → ∃ z : Int, (∀ j u, ([Value.int .i64 z] : List Value)[j]? = some u → W.cell? (a.add (i * 1 + j)) = some u) ∧ I64 z := by
      intro i hi
      obtain ⟨cs, hcs, ht⟩ := hel i (by omega)
      obtain ⟨_, hlen, hcell⟩ := World.cells?_some hcs
      obtain ⟨z0, h0, hx0, w0⟩ := DataW.trod_int Try.underlying3 ht
      subst h0
      refine ⟨z0, fun j u hu => ?_, i64_of w0⟩
      have hj := (List.getElem?_eq_some_iff.1 hu).1
      rw [← Go.Deep.add_add, hcell j hj]
      exact hu
    obtain ⟨zs, h1, h2, h3⟩ := run_rows 1 (by decide) (fun z => [Value.int .i64 z]) (fun _ => rfl) I64 hl each
    subst h1
    rw [intL_flat] at h2
    exact ⟨zs, h2, by unfold maxLen at hm; omega, h3⟩
theorem run_len {B : Nat → Prop} {va : Option Addr} {len cap n : Nat} {cells : List Value} (h : Run B W (.slice va len cap) n cells) : len = n := by
  obtain ⟨a, c, e, _⟩ := h
  cases e; rfl
theorem read_int8 {va : Option Addr} {len cap : Nat} {d : DataW H} {ps : List MemPlace} (h : DataW.Trod enc Try.prog W 0 (fun _ => true) true 22 (.slice va len cap) d ps) :
    ∃ l : List Int, len = l.length ∧ Run (fun k => k < W.heap.size) W (.slice va len cap) l.length (intsC l) ∧ l.length ≤ 9223372036854775807 ∧ ∀ x ∈ l, I64 x := by
  obtain ⟨fuel, hf⟩ := h
  obtain ⟨l, h1, h2, h3⟩ := read_ints8 hf
  exact ⟨l, run_len h1, h1, h2, h3⟩
theorem ia_of {v : Value} {l : List Int} (h : Run (fun k => k < W.heap.size) W v l.length (intsC l)) : IA W v l := h.mono (fun _ _ _ => trivial)
end
end Go.Proofs.Ytcgoggkaiiljmaa
