/- The laws QuorumCommits and QuorumSets. -/
import Derived.Test.YtcgoggkaiiljmaaWorks8
namespace Go.Proofs.Ytcgoggkaiiljmaa
open Go.RowKit Go.Maps

theorem same_self {va vb : Value} {l : List Int} {w : World} (ha : IA w va l) (hb : IA w vb l) (hl : l.length ≤ 1048576) :
    Calls Try.prog 15 #[va, vb] w fun e w' => e = .returned (.bool true) ∧ Below w.heap.size w w' := by
  refine (same_any va vb l l w ha hb (by omega) (by omega)).mono ?_
  rintro e w' ⟨rfl, hb⟩
  exact ⟨ret_bool (decide_eq_true rfl), hb⟩
set_option maxRecDepth 100000 in
set_option maxHeartbeats 4000000 in
theorem QuorumCommits_law {w : World} {v : Value} {l : List Int} {n : Int} (h : IA w v l) (hn : I64 n) :
    Calls Try.prog 3 #[.int .i64 n, v] w fun e w' => e = .returned (.bool true) ∧ Below w.heap.size w w' := by
  have hw := works_any w
  have hm := fun w => Majority_any w n hn
  have hr := fun w => RefMajority_any w n hn
  have HM := Lib.hid hm
  have HR := Lib.hid hr
  have H := Lib.hid h
  obtain ⟨a, c, rfl, _⟩ := h.slice
  clear h hm hr
  by_cases hl : l.length ≤ 200
  · have hlt : ¬ (200 : Int) < (l.length : Int) := by omega
    go_enter Try.func3, Try.ntmps3
    go_wp2_with fail
    refine hw.mono ?_
    rintro e w1 ⟨rfl, hb⟩
    have HI := Lib.hid (H.out.below hb)
    have HB := Lib.hid hb
    clear hb hw
    generalize ((majS n.toNat : Nat) : Int) = m at *
    go_wp2_with fail
    refine (HM.out w1).mono ?_
    rintro e w2 ⟨rfl, rfl⟩
    go_wp2_with fail
    refine (HR.out w1).mono ?_
    rintro e w2 ⟨rfl, rfl⟩
    go_wp2_with fail
    refine (Commit_any HI.out (by omega)).mono ?_
    rintro e w2 ⟨rfl, hb⟩
    have HI2 := Lib.hid (HI.out.below hb)
    have HB2 := Lib.hid (bw HB.out hb)
    clear hb
    go_wp2_with fail
    refine (RefCommit_any HI2.out (by omega)).mono ?_
    rintro e w3 ⟨rfl, rfl⟩
    go_wp2
    go_ret
    exact ⟨by simp, HB2.out⟩
  · have hlt : (200 : Int) < (l.length : Int) := by omega
    go_enter Try.func3, Try.ntmps3
    go_wp2_with fail
    refine hw.mono ?_
    rintro e w1 ⟨rfl, hb⟩
    have HB := Lib.hid hb
    clear hb hw
    go_wp2
    go_ret
    exact ⟨rfl, HB.out⟩
theorem meets_inter (a b : List Int) : meetS a b = decide (0 < (interS a b).length) := by
  rw [Bool.eq_iff_iff, meetS_iff, decide_eq_true_iff, List.length_pos_iff_exists_mem]
  simp only [mem_interS]
theorem len_interS (a b : List Int) : (interS a b).length ≤ a.length := Nat.le_trans (len_setS_le _) (List.length_filter_le _ _)
theorem len_minusS (a b : List Int) : (minusS a b).length ≤ a.length := Nat.le_trans (len_setS_le _) (List.length_filter_le _ _)
set_option maxRecDepth 100000 in
set_option maxHeartbeats 8000000 in
theorem QuorumSets_law {w : World} {va vb : Value} {a b : List Int} {x : Int} (ha : IA w va a) (hwa : Wf a) (hb : IA w vb b) (hwb : Wf b) :
    Calls Try.prog 5 #[va, vb, .int .i64 x] w fun e w' => e = .returned (.bool true) ∧ Below w.heap.size w w' := by
  have hw := works_any w
  have HA := Lib.hid ha
  have HB := Lib.hid hb
  have HWA := Lib.hid hwa
  have HWB := Lib.hid hwb
  obtain ⟨aa, ca, rfl, _⟩ := ha.slice
  obtain ⟨ab, cb, rfl, _⟩ := hb.slice
  clear ha hb hwa hwb
  by_cases hla : a.length ≤ 200
  · have hlta : ¬ (200 : Int) < (a.length : Int) := by omega
    by_cases hlb : b.length ≤ 200
    · have hltb : ¬ (200 : Int) < (b.length : Int) := by omega
      go_enter Try.func5, Try.ntmps5
      go_wp2_with fail
      refine hw.mono ?_
      rintro e w1 ⟨rfl, hb⟩
      have B1 := Lib.hid hb
      clear hb hw
      go_wp2_with fail
      refine (Set_any (HA.out.below B1.out) HWA.out (by omega)).mono ?_
      rintro e w2 ⟨v2, rfl, hi, hb⟩
      have I2 := Lib.hid hi
      have B2 := Lib.hid (bw B1.out hb)
      clear hi hb
      go_wp2_with fail
      refine (RefSet_any (HA.out.below B2.out) (by omega)).mono ?_
      rintro e w3 ⟨v3, rfl, hi, hb⟩
      have hs := same_self (I2.out.below hb) hi (Nat.le_trans (len_setS_le _) (by omega))
      have B3 := Lib.hid (bw B2.out hb)
      clear hi hb
      go_wp2_with fail
      refine hs.mono ?_
      rintro e w4 ⟨rfl, hb⟩
      have B4 := Lib.hid (bw B3.out hb)
      clear hb hs
      go_wp2_with fail
      refine (Union_any (HA.out.below B4.out) HWA.out (by omega) (HB.out.below B4.out) HWB.out (by omega) (by omega)).mono ?_
      rintro e w5 ⟨v5, rfl, hi, hb⟩
      have I5 := Lib.hid hi
      have B5 := Lib.hid (bw B4.out hb)
      clear hi hb
      go_wp2_with fail
      refine (RefUnion_any (HA.out.below B5.out) (by omega) (HB.out.below B5.out) (by omega)).mono ?_
      rintro e w6 ⟨v6, rfl, hi, hb⟩
      have hs := same_self (I5.out.below hb) hi (Nat.le_trans (len_setS_le _) (by rw [List.length_append]; omega))
      have B6 := Lib.hid (bw B5.out hb)
      clear hi hb
      go_wp2_with fail
      refine hs.mono ?_
      rintro e w7 ⟨rfl, hb⟩
      have B7 := Lib.hid (bw B6.out hb)
      clear hb hs
      go_wp2_with fail
      refine (Inter_any (HA.out.below B7.out) HWA.out (by omega) (HB.out.below B7.out) HWB.out (by omega)).mono ?_
      rintro e w8 ⟨v8, rfl, hi, hb⟩
      have I8 := Lib.hid hi
      have B8 := Lib.hid (bw B7.out hb)
      clear hi hb
      go_wp2_with fail
      refine (RefInter_any (HA.out.below B8.out) (by omega) (HB.out.below B8.out) (by omega)).mono ?_
      rintro e w9 ⟨v9, rfl, hi, hb⟩
      have hs := same_self (I8.out.below hb) hi (Nat.le_trans (len_interS _ _) (by omega))
      have B9 := Lib.hid (bw B8.out hb)
      clear hi hb
      go_wp2_with fail
      refine hs.mono ?_
      rintro e w10 ⟨rfl, hb⟩
      have B10 := Lib.hid (bw B9.out hb)
      clear hb hs
      go_wp2_with fail
      refine (Minus_any (HA.out.below B10.out) HWA.out (by omega) (HB.out.below B10.out) HWB.out (by omega)).mono ?_
      rintro e w11 ⟨v11, rfl, hi, hb⟩
      have I11 := Lib.hid hi
      have B11 := Lib.hid (bw B10.out hb)
      clear hi hb
      go_wp2_with fail
      refine (RefMinus_any (HA.out.below B11.out) (by omega) (HB.out.below B11.out) (by omega)).mono ?_
      rintro e w12 ⟨v12, rfl, hi, hb⟩
      have hs := same_self (I11.out.below hb) hi (Nat.le_trans (len_minusS _ _) (by omega))
      have B12 := Lib.hid (bw B11.out hb)
      clear hi hb
      go_wp2_with fail
      refine hs.mono ?_
      rintro e w13 ⟨rfl, hb⟩
      have B13 := Lib.hid (bw B12.out hb)
      clear hb hs
      go_wp2_with fail
      refine (First_any x (HA.out.below B13.out) HWA.out (by omega)).mono ?_
      rintro e w14 ⟨v14, rfl, hi, hb⟩
      have I14 := Lib.hid hi
      have B14 := Lib.hid (bw B13.out hb)
      clear hi hb
      go_wp2_with fail
      refine (RefFirst_any x (HA.out.below B14.out) (by omega)).mono ?_
      rintro e w15 ⟨v15, rfl, hi, hb⟩
      have hs := same_self (I14.out.below hb) hi (Nat.le_trans (len_firstS_le _ _) (by omega))
      have B15 := Lib.hid (bw B14.out hb)
      clear hi hb
      go_wp2_with fail
      refine hs.mono ?_
      rintro e w16 ⟨rfl, hb⟩
      have B16 := Lib.hid (bw B15.out hb)
      clear hb hs
      have hh := Has_any x (HA.out.below B16.out) (by omega)
      have hh2 := RefHas_any x (HA.out.below B16.out) (by omega)
      have hme := Meets_any (HA.out.below B16.out) HWA.out (by omega) (HB.out.below B16.out) HWB.out (by omega)
      have HMI := Lib.hid (meets_inter a b)
      generalize a.contains x = q at *
      generalize meetS a b = r at *
      go_wp2_with fail
      refine hh.mono ?_
      rintro e w17 ⟨rfl, rfl⟩
      go_wp2_with fail
      refine hh2.mono ?_
      rintro e w17 ⟨rfl, rfl⟩
      go_wp2_with fail
      refine hme.mono ?_
      rintro e w17 ⟨rfl, hb⟩
      have B17 := Lib.hid (bw B16.out hb)
      clear hb hh hh2 hme
      go_wp2_with fail
      refine (RefInter_any (HA.out.below B17.out) (by omega) (HB.out.below B17.out) (by omega)).mono ?_
      rintro e w18 ⟨v18, rfl, hi, hb⟩
      obtain ⟨a18, c18, rfl, _⟩ := hi.slice
      have B18 := Lib.hid (bw B17.out hb)
      clear hi hb
      generalize (interS a b).length = k at *
      by_cases hk0 : 0 < k
      · obtain rfl : r = true := by have := HMI.out; rw [decide_eq_true hk0] at this; exact this
        clear HMI
        go_wp2
        go_ret
        exact ⟨ret_bool (by first | rfl | simp), B18.out⟩
      · obtain rfl : r = false := by have := HMI.out; rw [decide_eq_false hk0] at this; exact this
        obtain rfl : k = 0 := by omega
        clear HMI
        go_wp2
        go_ret
        exact ⟨ret_bool (by first | rfl | simp), B18.out⟩
    · have hltb : (200 : Int) < (b.length : Int) := by omega
      go_enter Try.func5, Try.ntmps5
      go_wp2_with fail
      refine hw.mono ?_
      rintro e w1 ⟨rfl, hb⟩
      have B1 := Lib.hid hb
      clear hb hw
      go_wp2
      go_ret
      exact ⟨rfl, B1.out⟩
  · have hlta : (200 : Int) < (a.length : Int) := by omega
    go_enter Try.func5, Try.ntmps5
    go_wp2_with fail
    refine hw.mono ?_
    rintro e w1 ⟨rfl, hb⟩
    have B1 := Lib.hid hb
    clear hb hw
    go_wp2
    go_ret
    exact ⟨rfl, B1.out⟩
end Go.Proofs.Ytcgoggkaiiljmaa
