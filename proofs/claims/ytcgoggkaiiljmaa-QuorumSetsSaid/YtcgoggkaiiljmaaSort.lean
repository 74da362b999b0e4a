/- A row of one's own sorted; a copy; whether a number is one of a list. -/
import Derived.Test.YtcgoggkaiiljmaaInts
import Derived.Test.YtcgoggkaiiljmaaShelf
import Derived.Lib.OwnBridge
import Derived.Sort.Grow
import Derived.Sort.OwnSortedInts
namespace Go.Proofs.Ytcgoggkaiiljmaa
open Go.RowKit Go.Maps Go.Sort

theorem cell_of_holds {w : World} {g : Nat} {S : List Int} (h : Holds (Value.int .i64) w g 0 S.toArray) (j : Nat) (u : Value) (hu : (intsC S)[j]? = some u) : w.cell? ⟨g, 0 + j, none⟩ = some u := by
  have hj : j < S.length := by have := (List.getElem?_eq_some_iff.1 hu).1; simpa [intsC] using this
  have h1 := (h j (by simpa using hj)).1
  rw [h1, getElem!_pos _ j (by simpa using hj)]
  have h2 : (intsC S)[j]? = some (.int .i64 S[j]) := by simp [intsC, List.getElem?_eq_getElem hj]
  rw [h2] at hu
  cases hu
  simp
/-- slices.Sort of a row of one's own -/
theorem Sort_own {u w : World} {base : Nat} {v : Value} {ks : List Int} (h : w.ownsRow base 3 1 v ks.length (intsC ks)) (hB : Below base u w) (hl : ks.length ≤ 1048576) :
    Calls Try.prog 29 #[v] w fun e w' => e = .returned (.tuple #[]) ∧ IA w' v (sortS ks) ∧ Below base u w' := by
  by_cases hv : v = .slice none 0 0
  · subst hv
    have h0 : ks = [] := by
      rcases h.2 with ⟨_, e⟩ | ⟨g, cap, cur, e, _⟩
      · exact List.length_eq_zero_iff.1 e
      · cases e
    subst h0
    refine (Try.slices_Sort_int_none none 0 w).mono ?_
    rintro e w' ⟨rfl, rfl⟩
    exact ⟨rfl, by rw [show sortS [] = [] by simp [sortS]]; exact IA.nil _, hB⟩
  · obtain ⟨g, cap, rfl, hbg, hgl, hncap, hcm, hlen, hH⟩ := Lib.holds_of_ownsRow h hv
    refine (Try.slices_Sort_int g 0 cap ks w hH hgl (by omega)).mono ?_
    rintro e w' ⟨rfl, nn, os, rfl⟩
    have hls : (sortS ks).length = ks.length := len_sortS ks
    refine ⟨rfl, ⟨_, cap, by rw [hls], by rw [hls]; exact hncap, fun h => (by cases h), .inr ⟨g, 0, rfl, trivial, ?_, fun j u hu => ?_⟩⟩, ?_⟩
    · simp [grow, putRow, mapBlock, Sort.ahead]; omega
    · exact cell_of_holds (holds_grow _ _ os g 0 _ (by simpa [putRow, mapBlock, Sort.ahead] using hgl) (holds_putRow _ _ g 0 _ _ (holds_ahead _ w nn g 0 _ hH) (by simp))) j u hu
    · exact hB.grown (grownBy_sortedI _) (by omega) (fun j hj => by cases hj; exact hbg)
theorem IA.cells {w : World} {b off n c : Nat} {l : List Int} (h : IA w (.slice (some ⟨b, off, none⟩) n c) l) (j : Nat) (hj : j < l.length) : w.cell? ⟨b, off + j, none⟩ = some (.int .i64 (l.getD j 0)) := by
  obtain ⟨b', off', e, _, hc⟩ := h.get hj
  cases e
  exact hc
/-- slices.Clone -/
theorem Clone_any {w : World} {v : Value} {l : List Int} (h : IA w v l) (hl : l.length ≤ 1048576) :
    Calls Try.prog 28 #[v] w fun e w' => ∃ v', e = .returned v' ∧ w'.ownsRow w.heap.size 3 1 v' l.length (intsC l) ∧ Below w.heap.size w w' := by
  obtain ⟨a, c, rfl, hac⟩ := h.slice
  cases a with
  | none =>
    obtain ⟨a', c', e, _, h2, _⟩ := h
    cases e
    obtain ⟨e1, e2⟩ := h2 rfl
    have e0 := List.length_eq_zero_iff.1 e1
    subst e0 e2
    refine (Try.slices_Clone_int_nil 0 0 w).mono ?_
    rintro e w' ⟨rfl, rfl⟩
    exact ⟨_, rfl, ⟨by simp [intsC], .inl ⟨rfl, rfl⟩⟩, Below.refl _ _⟩
  | some ad =>
    by_cases h0 : l.length = 0
    · have e0 := List.length_eq_zero_iff.1 h0
      subst e0
      refine (Try.slices_Clone_int_zero ad c w).mono ?_
      rintro e w' ⟨v', rfl, ho, _, hB⟩
      exact ⟨_, rfl, ho, hB⟩
    · obtain ⟨b, off, e, hb, _⟩ := h.get (k := 0) (by omega)
      cases e
      refine (Try.slices_Clone_int b off l.length c l w (Nat.le_refl _) (by omega) (fun j hj => h.cells j hj)).mono ?_
      rintro e w' ⟨v', rfl, ho, _, hB⟩
      rw [List.take_length] at ho
      exact ⟨_, rfl, ho, hB⟩
/-- slices.Contains -/
theorem Contains_any {w : World} {v : Value} {l : List Int} (x : Int) (h : IA w v l) (hl : l.length ≤ 1048576) :
    Calls Try.prog 31 #[v, .int .i64 x] w fun e w' => e = .returned (.bool (l.contains x)) ∧ w = w' := by
  obtain ⟨a, c, rfl, hac⟩ := h.slice
  by_cases h0 : l.length = 0
  · have e0 := List.length_eq_zero_iff.1 h0
    subst e0
    refine (Try.slices_Contains_int_empty a c x w).mono ?_
    rintro e w' ⟨rfl, rfl⟩
    exact ⟨rfl, rfl⟩
  · obtain ⟨b, off, e, hb, _⟩ := h.get (k := 0) (by omega)
    cases e
    refine (Try.slices_Contains_int b off l.length c l x w (Nat.le_refl _) (by omega) (fun j hj => h.cells j hj)).mono ?_
    rintro e w' ⟨rfl, rfl⟩
    rw [List.take_length]
    exact ⟨rfl, rfl⟩
set_option maxHeartbeats 400000 in
theorem Has_any {w : World} {v : Value} {l : List Int} (x : Int) (h : IA w v l) (hl : l.length ≤ 1048576) :
    Calls Try.prog 14 #[v, .int .i64 x] w fun e w' => e = .returned (.bool (l.contains x)) ∧ w = w' := by
  have hc := Contains_any x h hl
  generalize hr : l.contains x = r at hc ⊢
  clear hr h hl
  go_enter Try.func14, Try.ntmps14
  go_wp2_with fail
  refine hc.mono ?_
  rintro e w1 ⟨rfl, rfl⟩
  go_wp2
  go_ret
  exact ⟨rfl, rfl⟩
theorem Majority_any (w : World) (n : Int) (hn : I64 n) :
    Calls Try.prog 10 #[.int .i64 n] w fun e w' => e = .returned (.int .i64 ((majS n.toNat : Nat) : Int)) ∧ w = w' := by
  obtain ⟨h1, h2⟩ := hn
  have HM : Hid (((majS n.toNat : Nat) : Int) = max n 0 / 2 + 1) := by show _ = _; unfold majS; omega
  generalize ((majS n.toNat : Nat) : Int) = m at *
  go_enter Try.func10, Try.ntmps10
  go_wp2
  go_ret
  exact ⟨ret_int HM.out.symm, rfl⟩
theorem RefMajority_any (w : World) (n : Int) (hn : I64 n) :
    Calls Try.prog 11 #[.int .i64 n] w fun e w' => e = .returned (.int .i64 ((majS n.toNat : Nat) : Int)) ∧ w = w' := by
  obtain ⟨h1, h2⟩ := hn
  have HM : Hid (((majS n.toNat : Nat) : Int) = max n 0 / 2 + 1) := by show _ = _; unfold majS; omega
  generalize ((majS n.toNat : Nat) : Int) = m at *
  go_enter Try.func11, Try.ntmps11
  go_wp2
  go_ret
  exact ⟨ret_int HM.out.symm, rfl⟩
set_option maxHeartbeats 2000000 in
theorem Commit_any {w : World} {v : Value} {l : List Int} (h : IA w v l) (hl : l.length ≤ 1048576) :
    Calls Try.prog 12 #[v] w fun e w' => e = .returned (.int .i64 (commitS l)) ∧ Below w.heap.size w w' := by
  by_cases h0 : l = []
  · subst h0
    obtain ⟨a, c, rfl, _⟩ := h.slice
    have HC : Hid (commitS [] = 0) := rfl
    generalize commitS [] = r at *
    go_enter Try.func12, Try.ntmps12
    go_wp2
    go_ret
    exact ⟨ret_int HC.out.symm, Below.refl _ _⟩
  · have hcl := Clone_any h hl
    have hpos := List.length_pos_iff.2 h0
    have hmj := maj_le h0
    have hm1 : 1 ≤ majS l.length := by unfold majS; omega
    have hca := commit_at h0
    have hni : ((l.length : Int) == 0) = false := by simp; omega
    obtain ⟨a, c, rfl, hac⟩ := h.slice
    have hsrt := fun w1 v' (ho : w1.ownsRow w.heap.size 3 1 v' l.length (intsC l)) (hb : Below w.heap.size w w1) => Sort_own ho hb hl
    have HS := Lib.hid hsrt
    have HM := Lib.hid (fun w => Majority_any w (l.length : Int) ⟨by omega, by omega⟩)
    have HCA := Lib.hid hca
    have hls := len_sortS l
    have HLS := Lib.hid hls
    clear h hsrt hca hls h0
    go_enter Try.func12, Try.ntmps12
    go_wp2_with fail
    refine hcl.mono ?_
    rintro e w1 ⟨v', rfl, ho, hB⟩
    have hs := HS.out w1 v' ho hB
    clear ho hB hcl
    go_wp2_with fail
    refine hs.mono ?_
    rintro e w2 ⟨rfl, hi, hB⟩
    obtain ⟨a2, c2, rfl, hac2⟩ := hi.slice
    rw [HLS.out] at hac2 hi ⊢
    have hmm := HM.out w2
    rw [Int.toNat_natCast] at hmm
    generalize hj : l.length - majS l.length = j at *
    obtain ⟨b, off, rfl, hbl, hc⟩ := hi.get (k := j) (by rw [HLS.out]; omega)
    have hce : (sortS l).getD j 0 = commitS l := by rw [List.getD_eq_getElem?_getD, HCA.out]; rfl
    rw [hce] at hc
    have hsub : (l.length : Int) - ((majS l.length : Nat) : Int) = (j : Int) := by omega
    have HB := Lib.hid hB
    have hjl : j < l.length := by omega
    generalize ((majS l.length : Nat) : Int) = m at *
    clear hce hi hB hs hj
    go_wp2_with fail
    refine hmm.mono ?_
    rintro e w3 ⟨rfl, rfl⟩
    go_wp2
    go_ret
    exact ⟨rfl, HB.out⟩
end Go.Proofs.Ytcgoggkaiiljmaa
