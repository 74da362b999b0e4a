/- What every law of this layer needs of its row: the witness's world; arguments read. -/
import Derived.Test.YtkcmcgmonkeajaaWorks
import Derived.Test.YtkcmcgmonkeajaaRows
import Derived.Deep.DeepHandedRow
import Derived.Deep.DeepWitnessRowRef
import Derived.ProofKit
import Derived.OpenShut
import Derived.SizedLaws
import Derived.SliceStrings
import Derived.Carry
namespace Go.Proofs.Ytkcmcgmonkeajaa
open Go.ChangeShapes Go.WideShapes Go.ChangeAt Go.RowKit
open Go.ChangeMaps (open_string shut_string)

theorem own : ownKnob Try.prog.godebug = none := by kernel_rfl
theorem laidOut : laidOutB Try.prog = true := by kernel_rfl
noncomputable def laidWorld (os : Os) : World := World.holding Try.prog os ⟨#[], #[], []⟩
theorem laid_met (w : World) : laidMet Try.prog [] w := ⟨[], by first | trivial | rfl, List.nodup_nil, fun _ _ h => by cases h⟩
section
variable {H : Type} {enc : TypeId × Value → H} {W : World}
theorem read_cells {α : Type} (c : α → Value) (d : α) (xs : List α) (a : Addr) (len cap : Nat) (hx : xs.length = cap) (hl : len ≤ cap) (hc : ∀ i, i < xs.length → W.cell? (a.add i) = some (c (xs.getD i d))) :
    ListAt W (.slice (some a) len cap) (xs.take len).length (cellsOf c (xs.take len)) := by
  have hlen : (xs.take len).length = len := by rw [List.length_take]; omega
  rw [hlen]
  refine ⟨by simp [cellsOf]; omega, _, _, rfl, hl, ?_⟩
  by_cases h0 : len = 0
  · exact .inl h0
  · right
    obtain ⟨b, off, spot⟩ := a
    have hspot : spot = none := by simpa [Addr.add] using World.cell?_spot (hc 0 (by omega))
    subst hspot
    have hc' : ∀ j, j < xs.length → W.cell? ⟨b, off + j, none⟩ = some (c (xs.getD j d)) := fun j hj => by
      have := hc j hj
      unfold Addr.add at this
      by_cases h : j = 0
      · subst h; simpa using this
      · simpa [h] using this
    refine ⟨b, off, rfl, by simpa using World.block_lt_of_cell? W _ (hc' 0 (by omega)), fun j u hu => ?_⟩
    have hj : j < len := by
      have := (List.getElem?_eq_some_iff.1 hu).1; simp [cellsOf] at this; omega
    rw [hc' j (by omega)]
    simp only [cellsOf, List.getElem?_map, List.getElem?_take, hj, if_true] at hu
    rw [List.getElem?_eq_getElem (by omega)] at hu
    simp at hu
    rw [← hu]; simp [List.getD, show j < xs.length by omega]
theorem read_ints {t e : TypeId} {k : IntKind} {va : Option Addr} {len cap : Nat} {d : DataW H} {ps : List MemPlace} (ht : Try.prog.underlying t = some (.slice e)) (he : Try.prog.underlying e = some (.int k)) (hce : Try.prog.cellsOf e = 1)
    (h : DataW.Trod enc Try.prog W 0 (fun _ => true) true t (.slice va len cap) d ps) :
    ∃ l : List Int, ListAt W (.slice va len cap) l.length (cellsOf (Value.int k) l) ∧ l.length ≤ 9223372036854775807 ∧ ∀ c ∈ l, (Lit.int k c).wf = true := by
  obtain ⟨fuel, hf⟩ := h
  rcases open_ints ht he hce hf with ⟨hcs, hx⟩ | ⟨a, len', cap', zs, hcs, _, hl, hm, hz, hx, hcell, hwz⟩
  · simp [Value.cells] at hcs
    obtain ⟨rfl, rfl, rfl⟩ := hcs
    exact ⟨[], ⟨rfl, _, _, rfl, Nat.le_refl _, .inl rfl⟩, by simp, by simp⟩
  · simp [Value.cells] at hcs
    obtain ⟨rfl, rfl, rfl⟩ := hcs
    simp only [if_true] at hz
    refine ⟨zs.take len, read_cells (Value.int k) 0 zs a len cap hz hl hcell, ?_, fun c hc => hwz c (List.mem_of_mem_take hc)⟩
    rw [List.length_take]; unfold maxLen at hm; omega
theorem read_strings {t e : TypeId} {va : Option Addr} {len cap : Nat} {d : DataW H} {ps : List MemPlace} (ht : Try.prog.underlying t = some (.slice e)) (he : Try.prog.underlying e = some .string) (hce : Try.prog.cellsOf e = 1)
    (h : DataW.Trod enc Try.prog W 0 (fun _ => true) true t (.slice va len cap) d ps) :
    ∃ l : List ByteArray, ListAt W (.slice va len cap) l.length (cellsOf strC l) ∧ l.length ≤ 9223372036854775807 ∧ ∀ c ∈ l, c.size ≤ 9223372036854775807 := by
  obtain ⟨fuel, hf⟩ := h
  rcases open_strings ht he hce hf with ⟨hcs, hx⟩ | ⟨a, len', cap', zs, hcs, _, hl, hm, hz, hx, hcell, hwz⟩
  · simp [Value.cells] at hcs
    obtain ⟨rfl, rfl, rfl⟩ := hcs
    exact ⟨[], ⟨rfl, _, _, rfl, Nat.le_refl _, .inl rfl⟩, by simp, by simp⟩
  · simp [Value.cells] at hcs
    obtain ⟨rfl, rfl, rfl⟩ := hcs
    simp only [if_true] at hz
    refine ⟨zs.take len, read_cells strC ByteArray.empty zs a len cap hz hl hcell, ?_, fun c hc => ?_⟩
    · rw [List.length_take]; unfold maxLen at hm; omega
    · have := hwz c (List.mem_of_mem_take hc); unfold maxLen at this; omega
theorem read_u64 {va : Option Addr} {len cap : Nat} {d : DataW H} {ps : List MemPlace} (h : DataW.Trod enc Try.prog W 0 (fun _ => true) true 22 (.slice va len cap) d ps) :
    ∃ l : List Nat, ListAt W (.slice va len cap) l.length (cellsOf u64C l) ∧ l.length ≤ 9223372036854775807 ∧ ∀ c ∈ l, c < 18446744073709551616 := by
  obtain ⟨l, h1, h2, h3⟩ := read_ints Try.underlying22 Try.underlying28 (by kernel_rfl) h
  refine ⟨l.map Int.toNat, ?_, by simpa using h2, fun c hc => ?_⟩
  · have e : cellsOf u64C (l.map Int.toNat) = cellsOf (Value.int .u64) l := by
      unfold cellsOf u64C
      rw [List.map_map]
      refine List.map_congr_left fun c hc => ?_
      have := bounds_u64 (h3 c hc)
      show Value.int .u64 ((c.toNat : Nat) : Int) = _
      rw [Int.toNat_of_nonneg this.1]
    rw [e, List.length_map]; exact h1
  · obtain ⟨x, hx, rfl⟩ := List.mem_map.1 hc
    have := bounds_u64 (h3 x hx)
    omega
theorem read_i64 {va : Option Addr} {len cap : Nat} {d : DataW H} {ps : List MemPlace} (h : DataW.Trod enc Try.prog W 0 (fun _ => true) true 23 (.slice va len cap) d ps) :
    ∃ l : List Int, ListAt W (.slice va len cap) l.length (cellsOf intC l) ∧ l.length ≤ 9223372036854775807 ∧ ∀ c ∈ l, -9223372036854775808 ≤ c ∧ c ≤ 9223372036854775807 := by
  obtain ⟨l, h1, h2, h3⟩ := read_ints Try.underlying23 Try.underlying2 (by kernel_rfl) h
  exact ⟨l, h1, h2, fun c hc => bounds_i64 (h3 c hc)⟩
theorem read_int {va : Option Addr} {len cap : Nat} {d : DataW H} {ps : List MemPlace} (h : DataW.Trod enc Try.prog W 0 (fun _ => true) true 25 (.slice va len cap) d ps) :
    ∃ l : List Int, ListAt W (.slice va len cap) l.length (cellsOf intC l) ∧ l.length ≤ 9223372036854775807 ∧ ∀ c ∈ l, -9223372036854775808 ≤ c ∧ c ≤ 9223372036854775807 := by
  obtain ⟨l, h1, h2, h3⟩ := read_ints Try.underlying25 Try.underlying3 (by kernel_rfl) h
  exact ⟨l, h1, h2, fun c hc => bounds_i64 (h3 c hc)⟩
theorem read_str {va : Option Addr} {len cap : Nat} {d : DataW H} {ps : List MemPlace} (h : DataW.Trod enc Try.prog W 0 (fun _ => true) true 24 (.slice va len cap) d ps) :
    ∃ l : List ByteArray, ListAt W (.slice va len cap) l.length (cellsOf strC l) ∧ l.length ≤ 9223372036854775807 ∧ ∀ c ∈ l, c.size ≤ 9223372036854775807 :=
  read_strings Try.underlying24 Try.underlying9 (by kernel_rfl) h
theorem trodAll_five {t0 t1 t2 t3 t4 : TypeId} {P : Program} {w : World} {base : Nat} {spare : Nat → Bool} {held : Bool} {args : Array Value} {ds : List (DataW H)} {ps : List MemPlace} (h : DataW.TrodAll enc P w base spare held [t0, t1, t2, t3, t4] args.toList ds ps) :
    ∃ v0 v1 v2 v3 v4 d0 d1 d2 d3 d4 p0 p1 p2 p3 p4, args = #[v0, v1, v2, v3, v4] ∧ ds = [d0, d1, d2, d3, d4] ∧ ps = p0 ++ p1 ++ p2 ++ p3 ++ p4 ∧ DataW.Trod enc P w base spare held t0 v0 d0 p0 ∧ DataW.Trod enc P w base spare held t1 v1 d1 p1 ∧ DataW.Trod enc P w base spare held t2 v2 d2 p2 ∧ DataW.Trod enc P w base spare held t3 v3 d3 p3 ∧ DataW.Trod enc P w base spare held t4 v4 d4 p4 := by
  obtain ⟨v, vs, d, ds', p, q, hargs, rfl, rfl, hd, hrest⟩ := trodAll_cons h
  obtain ⟨v', vs', d', ds'', p', q', rfl, rfl, rfl, hd', hrest'⟩ := trodAll_cons hrest
  obtain ⟨v'', vs'', d'', ds''', p'', q'', rfl, rfl, rfl, hd'', hrest''⟩ := trodAll_cons hrest'
  obtain ⟨v3, vs3, d3, ds3, p3, q3, rfl, rfl, rfl, hd3, hrest3⟩ := trodAll_cons hrest''
  obtain ⟨v4, vs4, d4, ds4, p4, q4, rfl, rfl, rfl, hd4, hrest4⟩ := trodAll_cons hrest3
  obtain ⟨rfl, rfl, rfl⟩ := trodAll_nil hrest4
  exact ⟨v, v', v'', v3, v4, d, d', d'', d3, d4, p, p', p'', p3, p4, by cases args; simp_all, rfl, by simp, hd, hd', hd'', hd3, hd4⟩
theorem trodAll_mk5 {t0 t1 t2 t3 t4 : TypeId} {P : Program} {w : World} {base : Nat} {spare : Nat → Bool} {held : Bool} {v0 v1 v2 v3 v4 : Value} {d0 d1 d2 d3 d4 : DataW H} {p0 p1 p2 p3 p4 : List MemPlace} (h0 : DataW.Trod enc P w base spare held t0 v0 d0 p0) (h1 : DataW.Trod enc P w base spare held t1 v1 d1 p1)
    (h2 : DataW.Trod enc P w base spare held t2 v2 d2 p2) (h3 : DataW.Trod enc P w base spare held t3 v3 d3 p3) (h4 : DataW.Trod enc P w base spare held t4 v4 d4 p4) : DataW.TrodAll enc P w base spare held [t0, t1, t2, t3, t4] [v0, v1, v2, v3, v4] [d0, d1, d2, d3, d4] (p0 ++ (p1 ++ (p2 ++ (p3 ++ p4)))) :=
  ⟨p0, p1 ++ (p2 ++ (p3 ++ p4)), h0, trodAll_mk4 h1 h2 h3 h4, rfl⟩
end
end Go.Proofs.Ytkcmcgmonkeajaa
