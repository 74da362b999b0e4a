/- The law: what is read, put again, is the bytes that were taken: the walk. -/
import Derived.Test.YtkcmcgmonkeajaaWorks
import Derived.Test.YtkcmcgmonkeajaaMath
import Derived.Deep.DeepCutAuto
namespace Go.Proofs.Ytkcmcgmonkeajaa
open Go.RowKit

theorem number0 (p : Nat) (b : ByteArray) (w : World) (hs : b.size ≤ 1099511627776) (h : RdAt w p b 0 0) :
    Calls Try.prog 21 #[.pointer (some ⟨p, 0, none⟩)] w fun e w' => e = .returned (.int .u64 (dV b.data.toList : Nat)) ∧ RdAt w' p b (dK b.data.toList) (dE b.data.toList) ∧ But p w w' := by
  have := Number_any p b 0 0 w hs h
  simp only [stA0, stE0, List.drop_zero, Nat.zero_add, if_true] at this
  exact this
theorem int0 (p : Nat) (b : ByteArray) (w : World) (hs : b.size ≤ 1099511627776) (h : RdAt w p b 0 0) :
    Calls Try.prog 23 #[.pointer (some ⟨p, 0, none⟩)] w fun e w' => e = .returned (.int .i64 (Lib.unzigzag (dV b.data.toList))) ∧ RdAt w' p b (dK b.data.toList) (dE b.data.toList) ∧ But p w w' := by
  have := Int_any p b 0 0 w hs h
  simp only [stA0, stE0, List.drop_zero, Nat.zero_add, if_true] at this
  exact this
theorem text0 (p : Nat) (b : ByteArray) (m : Int) (w : World) (hs : b.size ≤ 1099511627776) (h0 : -9223372036854775808 ≤ m) (h1 : m ≤ 9223372036854775807) (h : RdAt w p b 0 0) :
    Calls Try.prog 27 #[.pointer (some ⟨p, 0, none⟩), .int .i64 m] w fun e w' => e = .returned (.string (tV b.data.toList m)) ∧ RdAt w' p b (tK b.data.toList m) (tE b.data.toList m) ∧ But p w w' := by
  have := Text_any p b 0 0 m w hs h0 h1 h
  simp only [stA0, stE0, List.drop_zero, Nat.zero_add, if_true] at this
  exact this
theorem ints0 (p : Nat) (b : ByteArray) (m : Int) (w : World) (hs : b.size ≤ 1099511627776) (h0 : -9223372036854775808 ≤ m) (h1 : m ≤ 9223372036854775807) (h : RdAt w p b 0 0) :
    Calls Try.prog 30 #[.pointer (some ⟨p, 0, none⟩), .int .i64 m] w fun e w' => (∃ v, e = .returned v ∧ ListNew w.heap.size w' v (lV b.data.toList m).length (cellsOf intC (lV b.data.toList m))) ∧ RdAt w' p b (lK b.data.toList m) (lE b.data.toList m) ∧ But p w w' := by
  have := Ints_any p b 0 0 m w hs h0 h1 h
  simp only [stA0, stE0, List.drop_zero, Nat.zero_add, if_true] at this
  exact this
set_option maxRecDepth 100000 in
set_option maxHeartbeats 8000000 in
theorem law_one (b : ByteArray) (w : World) (hb : b.size ≤ 9223372036854775807) :
    Calls Try.prog 6 #[.string b] w fun e w' => e = .returned (.bool true) ∧ Below w.heap.size w w' := by
  by_cases hlen : 8192 < b.size
  · have hli : (8192 : Int) < (b.size : Int) := by omega
    go_enter Try.func6, Try.ntmps6
    go_wp2_with fail
    refine (works_any _).mono ?_
    rintro e w1 ⟨rfl, b1⟩
    go_wp2
    go_ret
    exact ⟨rfl, b1⟩
  have hli : ¬ (8192 : Int) < (b.size : Int) := by omega
  have hsz : b.size ≤ 8192 := by omega
  have hz : b.data.toList.length = b.size := (Lib.size_eq b).symm
  have HZ := Lib.hid hz
  clear hz
  go_enter Try.func6, Try.ntmps6
  go_wp2_with fail
  refine (works_any _).mono ?_
  rintro e w1 ⟨rfl, b1⟩

  go_wp2_with fail
  refine (Read_any b _).mono ?_
  rintro e w2 ⟨rfl, r2, b2⟩
  have R1 := Lib.hid r2
  have c2 := bw b1 b2
  have hp := b1.size
  clear r2
  go_wp2_with fail
  refine (number0 _ b _ (by omega) R1.out).mono ?_
  rintro e w3 ⟨rfl, r3, k3⟩
  have R3 := Lib.hid r3
  have c3 := c2.trans (k3.below (by omega) c2.size)
  clear r3 k3 c2 b2 R1
  go_upto_region 8 with fail
  go_cut [35] (fun t wx => t = .bool false ∧ Below w.heap.size w wx)
  case first =>
    by_cases hE : dE b.data.toList = 0
    · have HE := Lib.hid hE
      have hkl := dK_le b.data.toList
      rw [HZ.out] at hkl
      have hex : Hid (withB ⟨#[]⟩ _ = b.extract 0 (dK b.data.toList)) := take_eq b _ _ (one_num b.data.toList HE.out)
      rw [hE] at R3
      clear hE
      go_wp2_with fail
      refine (Err_any _ _ _ _ _ R3.out).mono ?_
      rintro e w4 ⟨rfl, rfl⟩
      have hk0 : Below w3.heap.size w3 (w3.alloc (.cells (cellsOf u64C [dV b.data.toList]).toArray 28)) := (Below.refl _ _).alloc (Nat.le_refl _) _
      go_wp2_with fail
      refine (Put_any ⟨#[]⟩ _ [dV b.data.toList] _ (listAt_news u64C [dV b.data.toList] w3 28 1 rfl) (by decide) (by simp) (fun c hc => by simp at hc; subst hc; exact dV_lt _)).mono ?_
      rw [hex.out]
      rintro e w5 ⟨rfl, k5⟩
      have k6 := hk0.trans (k5.mono (by simp))
      have R5 := Lib.hid (R3.out.below k6)
      have c5 := bw c3 k6
      clear k5 hk0 k6
      go_wp2_with fail
      refine (At_any _ _ _ _ _ R5.out).mono ?_
      rintro e w6 ⟨rfl, rfl⟩
      generalize dK b.data.toList = K at *
      have hkl2 : (K : Int) ≤ (b.size : Int) := by omega
      go_wp2
      go_meet
      exact ⟨rfl, c5⟩
    · have hd : (dE b.data.toList == 0) = false := by simpa using hE
      generalize hEE : dE b.data.toList = E at *
      clear hEE
      go_wp2_with fail
      refine (Err_any _ _ _ _ _ R3.out).mono ?_
      rintro e w4 ⟨rfl, rfl⟩
      go_wp2
      go_meet
      exact ⟨rfl, c3⟩
  case rest =>
  obtain ⟨rfl, b1⟩ := hcut

  go_wp2_with fail
  refine (Read_any b _).mono ?_
  rintro e w2 ⟨rfl, r2, b2⟩
  have R1 := Lib.hid r2
  have c2 := bw b1 b2
  have hp := b1.size
  clear r2
  go_wp2_with fail
  refine (int0 _ b _ (by omega) R1.out).mono ?_
  rintro e w3 ⟨rfl, r3, k3⟩
  have R3 := Lib.hid r3
  have c3 := c2.trans (k3.below (by omega) c2.size)
  clear r3 k3 c2 b2 R1
  go_upto_region 12 with fail
  go_cut [52] (fun t wx => t = .bool false ∧ Below w.heap.size w wx)
  case first =>
    by_cases hE : dE b.data.toList = 0
    · have HE := Lib.hid hE
      have hkl := dK_le b.data.toList
      rw [HZ.out] at hkl
      have hex : Hid (withB ⟨#[]⟩ _ = b.extract 0 (dK b.data.toList)) := take_eq b _ _ (one_int b.data.toList HE.out)
      rw [hE] at R3
      clear hE
      go_wp2_with fail
      refine (Err_any _ _ _ _ _ R3.out).mono ?_
      rintro e w4 ⟨rfl, rfl⟩
      have hk0 : Below w3.heap.size w3 (w3.alloc (.cells (cellsOf intC [Lib.unzigzag (dV b.data.toList)]).toArray 2)) := (Below.refl _ _).alloc (Nat.le_refl _) _
      go_wp2_with fail
      refine (PutInt_any ⟨#[]⟩ _ [Lib.unzigzag (dV b.data.toList)] _ (listAt_news intC [Lib.unzigzag (dV b.data.toList)] w3 2 1 rfl) (by decide) (by simp) (fun c hc => by simp at hc; subst hc; exact unz_bd _ (dV_lt _))).mono ?_
      rw [hex.out]
      rintro e w5 ⟨rfl, k5⟩
      have k6 := hk0.trans (k5.mono (by simp))
      have R5 := Lib.hid (R3.out.below k6)
      have c5 := bw c3 k6
      clear k5 hk0 k6
      go_wp2_with fail
      refine (At_any _ _ _ _ _ R5.out).mono ?_
      rintro e w6 ⟨rfl, rfl⟩
      generalize dK b.data.toList = K at *
      have hkl2 : (K : Int) ≤ (b.size : Int) := by omega
      go_wp2
      go_meet
      exact ⟨rfl, c5⟩
    · have hd : (dE b.data.toList == 0) = false := by simpa using hE
      generalize hEE : dE b.data.toList = E at *
      clear hEE
      go_wp2_with fail
      refine (Err_any _ _ _ _ _ R3.out).mono ?_
      rintro e w4 ⟨rfl, rfl⟩
      go_wp2
      go_meet
      exact ⟨rfl, c3⟩
  case rest =>
  obtain ⟨rfl, b1⟩ := hcut

  have HTS : Hid (tE b.data.toList b.size = 0 → (tV b.data.toList b.size).size ≤ 1048576) := fun h => by rw [tV_size h]; have := (tE_zero h).2.1; have := HZ.out; omega
  go_wp2_with fail
  refine (Read_any b _).mono ?_
  rintro e w2 ⟨rfl, r2, b2⟩
  have R1 := Lib.hid r2
  have c2 := bw b1 b2
  have hp := b1.size
  clear r2
  go_wp2_with fail
  refine (text0 _ b b.size _ (by omega) (by omega) (by omega) R1.out).mono ?_
  rintro e w3 ⟨rfl, r3, k3⟩
  have R3 := Lib.hid r3
  have c3 := c2.trans (k3.below (by omega) c2.size)
  clear r3 k3 c2 b2 R1
  go_upto_region 16 with fail
  go_cut [71] (fun t wx => t = .bool false ∧ Below w.heap.size w wx)
  case first =>
    by_cases hE : tE b.data.toList b.size = 0
    · have HE := Lib.hid hE
      have hkl := tK_le b.data.toList b.size
      rw [HZ.out] at hkl
      have hex : Hid (withB ⟨#[]⟩ _ = b.extract 0 (tK b.data.toList b.size)) := take_eq b _ _ (one_text b.data.toList b.size HE.out)
      rw [hE] at R3
      clear hE
      go_wp2_with fail
      refine (Err_any _ _ _ _ _ R3.out).mono ?_
      rintro e w4 ⟨rfl, rfl⟩
      have hk0 : Below w3.heap.size w3 (w3.alloc (.cells (cellsOf strC [tV b.data.toList b.size]).toArray 9)) := (Below.refl _ _).alloc (Nat.le_refl _) _
      go_wp2_with fail
      refine (PutText_any ⟨#[]⟩ _ [tV b.data.toList b.size] _ (listAt_news strC [tV b.data.toList b.size] w3 9 1 rfl) (by decide) (by simp) (fun c hc => by simp at hc; subst hc; exact HTS.out HE.out)).mono ?_
      rw [hex.out]
      rintro e w5 ⟨rfl, k5⟩
      have k6 := hk0.trans (k5.mono (by simp))
      have R5 := Lib.hid (R3.out.below k6)
      have c5 := bw c3 k6
      clear k5 hk0 k6
      go_wp2_with fail
      refine (At_any _ _ _ _ _ R5.out).mono ?_
      rintro e w6 ⟨rfl, rfl⟩
      generalize tK b.data.toList b.size = K at *
      have hkl2 : (K : Int) ≤ (b.size : Int) := by omega
      go_wp2
      go_meet
      exact ⟨rfl, c5⟩
    · have hd : (tE b.data.toList b.size == 0) = false := by simpa using hE
      generalize hEE : tE b.data.toList b.size = E at *
      clear hEE
      go_wp2_with fail
      refine (Err_any _ _ _ _ _ R3.out).mono ?_
      rintro e w4 ⟨rfl, rfl⟩
      go_wp2
      go_meet
      exact ⟨rfl, c3⟩
  case rest =>
  obtain ⟨rfl, b1⟩ := hcut

  go_wp2_with fail
  refine (Read_any b _).mono ?_
  rintro e w2 ⟨rfl, r2, b2⟩
  have R1 := Lib.hid r2
  have c2 := bw b1 b2
  have hp := b1.size
  clear r2
  go_wp2_with fail
  refine (ints0 _ b b.size _ (by omega) (by omega) (by omega) R1.out).mono ?_
  rintro e w3 ⟨⟨v, rfl, hv⟩, r3, k3⟩
  have R3 := Lib.hid r3
  have HV := Lib.hid hv.at_
  have c3 := c2.trans (k3.below (by omega) c2.size)
  obtain ⟨hl1, a1, c1, rfl, hl3⟩ := hv
  clear r3 k3 c2 b2 R1 hl3 hl1
  by_cases hE : lE b.data.toList b.size = 0
  · have HE := Lib.hid hE
    have hkl := lK_le b.data.toList b.size
    rw [HZ.out] at hkl
    have hex : Hid (withB ⟨#[]⟩ _ = b.extract 0 (lK b.data.toList b.size)) := take_eq b _ _ (one_ints b.data.toList b.size HE.out)
    rw [hE] at R3
    have hvl := lV_len b.data.toList b.size
    rw [HZ.out] at hvl
    clear hE
    go_wp2_with fail
    refine (Err_any _ _ _ _ _ R3.out).mono ?_
    rintro e w4 ⟨rfl, rfl⟩
    go_wp2_with fail
    refine (PutInts_any ⟨#[]⟩ _ (lV b.data.toList b.size) _ HV.out (by decide) (by omega) (lV_bd _ _)).mono ?_
    rw [hex.out]
    rintro e w5 ⟨rfl, k5⟩
    have R5 := Lib.hid (R3.out.below k5)
    have c5 := bw c3 k5
    clear k5
    go_wp2_with fail
    refine (At_any _ _ _ _ _ R5.out).mono ?_
    rintro e w6 ⟨rfl, rfl⟩
    generalize lK b.data.toList b.size = K at *
    have hkl2 : (K : Int) ≤ (b.size : Int) := by omega
    go_wp2
    go_ret
    exact ⟨ret_bool (by simp), c5⟩
  · have hd : (lE b.data.toList b.size != 0) = true := by simpa using hE
    generalize hEE : lE b.data.toList b.size = E at *
    clear hEE
    go_wp2_with fail
    refine (Err_any _ _ _ _ _ R3.out).mono ?_
    rintro e w4 ⟨rfl, rfl⟩
    go_wp2
    go_ret
    exact ⟨rfl, c3⟩
end Go.Proofs.Ytkcmcgmonkeajaa
