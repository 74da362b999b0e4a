/- The law: what is cut off is told: the walk. -/
import Derived.Test.YtkcmcgmonkeajaaLawOne
import Derived.Test.YtkcmcgmonkeajaaLawBack
namespace Go.Proofs.Ytkcmcgmonkeajaa
open Go.RowKit

theorem Number_cut (p : Nat) (X : ByteArray) (n c : Nat) (w : World) (hs : X.size ≤ 1099511627776) (hn : n < 18446744073709551616) (hX : X.data.toList = (Lib.uvarint n).take c) (hc : c < (Lib.uvarint n).length) (h : RdAt w p X 0 0) :
    Calls Try.prog 21 #[.pointer (some ⟨p, 0, none⟩)] w fun e w' => e = .returned (.int .u64 0) ∧ RdAt w' p X 0 20 ∧ But p w w' := by
  have hc2 := number0 p X w hs h
  have k1 := cut_num n hn c hc
  have k2 := d_none ((Lib.uvarint n).take c) (by rw [k1]; decide)
  rw [hX, k1, k2.1, k2.2] at hc2
  exact hc2
theorem Text_cut (p : Nat) (X s : ByteArray) (m : Int) (c : Nat) (w : World) (hs : X.size ≤ 1099511627776) (hss : s.size ≤ 1099511627776) (hm : m = s.size) (hX : X.data.toList = (numT s).take c) (hc : c < (numT s).length) (h : RdAt w p X 0 0) :
    Calls Try.prog 27 #[.pointer (some ⟨p, 0, none⟩), .int .i64 m] w fun e w' => e = .returned (.string ⟨#[]⟩) ∧ RdAt w' p X 0 20 ∧ But p w w' := by
  subst hm
  have hc2 := text0 p X s.size w hs (by omega) (by omega) h
  have k1 := cut_text s (by omega) s.size (by omega) c hc
  have k2 := tE_none ((numT s).take c) s.size (by rw [k1]; decide)
  rw [hX, k1, k2.1, k2.2] at hc2
  exact hc2
theorem Ints_cut (p : Nat) (X : ByteArray) (l : List Int) (m : Int) (c : Nat) (w : World) (hs : X.size ≤ 1099511627776) (hl : l.length ≤ 1099511627776) (hx : ∀ c ∈ l, -9223372036854775808 ≤ c ∧ c ≤ 9223372036854775807) (hm : m = l.length) (hX : X.data.toList = (numL l).take c) (hc : c < (numL l).length) (h : RdAt w p X 0 0) :
    Calls Try.prog 30 #[.pointer (some ⟨p, 0, none⟩), .int .i64 m] w fun e w' => (∃ a c, e = .returned (.slice a 0 c)) ∧ RdAt w' p X 0 20 ∧ But p w w' := by
  subst hm
  have hc2 := ints0 p X l.length w hs (by omega) (by omega) h
  have k1 := cut_ints l hx (by omega) l.length (by omega) c hc
  have k2 := lE_none ((numL l).take c) l.length (by rw [k1]; decide)
  rw [hX, k1, k2.1, k2.2] at hc2
  refine hc2.mono ?_
  rintro e w' ⟨⟨v, rfl, hv⟩, h1, h2⟩
  obtain ⟨_, a, cc, rfl, _⟩ := hv
  exact ⟨⟨a, cc, rfl⟩, h1, h2⟩
theorem cutX (B : ByteArray) (x : List UInt8) (hB : B.data.toList = x) (c : Nat) : (B.extract 0 c).data.toList = x.take c := by
  rw [Lib.extract_data, List.drop_zero, Nat.sub_zero, hB]

set_option maxRecDepth 100000 in
set_option maxHeartbeats 8000000 in
theorem law_cuts (n : Nat) (s : ByteArray) (v : Value) (l : List Int) (cut : Int) (w : World) (hn : n < 18446744073709551616) (hs : s.size ≤ 9223372036854775807)
    (hl : ListAt w v l.length (cellsOf intC l)) (hlm : l.length ≤ 9223372036854775807) (hlw : ∀ c ∈ l, -9223372036854775808 ≤ c ∧ c ≤ 9223372036854775807) (hcut : -9223372036854775808 ≤ cut ∧ cut ≤ 9223372036854775807) :
    Calls Try.prog 9 #[.int .u64 n, .string s, v, .int .i64 cut] w fun e w' => e = .returned (.bool true) ∧ Below w.heap.size w w' := by
  have HL := Lib.hid hl
  obtain ⟨_, aa, cap, rfl, _, _⟩ := hl
  by_cases h1 : 1000 < s.size
  · have hi1 : (1000 : Int) < (s.size : Int) := by omega
    go_enter Try.func9, Try.ntmps9
    go_wp2_with fail
    refine (works_any _).mono ?_
    rintro e w1 ⟨rfl, b1⟩
    go_wp2
    go_ret
    exact ⟨rfl, b1⟩
  have hi1 : ¬ (1000 : Int) < (s.size : Int) := by omega
  by_cases h2 : 100 < l.length
  · have hi2 : (100 : Int) < (l.length : Int) := by omega
    go_enter Try.func9, Try.ntmps9
    go_wp2_with fail
    refine (works_any _).mono ?_
    rintro e w1 ⟨rfl, b1⟩
    go_wp2
    go_ret
    exact ⟨rfl, b1⟩
  have hi2 : ¬ (100 : Int) < (l.length : Int) := by omega
  have L1 := Lib.uvarint_length64 hn
  have P1 := Lib.uvarint_pos n
  have L3 : (numT s).length ≤ 8202 ∧ 1 ≤ (numT s).length := by
    have h := Lib.uvarint_length64 (x := s.size) (by omega)
    have hp := Lib.uvarint_pos s.size
    have hz := Lib.size_eq s
    unfold numT; rw [List.length_append]; omega
  have L4 := numL_len l hlw (by omega)
  have P4 : 1 ≤ (numL l).length := by
    have hp := Lib.uvarint_pos l.length
    unfold numL; rw [List.length_append]; omega
  obtain ⟨A, hA⟩ : ∃ A, A = withB ⟨#[]⟩ (Lib.uvarint n) := ⟨_, rfl⟩
  obtain ⟨B, hB⟩ : ∃ A, A = withB ⟨#[]⟩ (numT s) := ⟨_, rfl⟩
  obtain ⟨C, hC⟩ : ∃ A, A = withB ⟨#[]⟩ (numL l) := ⟨_, rfl⟩
  have E1 : Hid (withB ⟨#[]⟩ ([n].flatMap Lib.uvarint) = A) := by show _ = _; rw [hA]; simp
  have E2 : Hid (withB ⟨#[]⟩ ([s].flatMap numT) = B) := by show _ = _; rw [hB]; simp
  have E3 : Hid (withB ⟨#[]⟩ (numL l) = C) := by show _ = _; rw [hC]
  have ZA : A.size = (Lib.uvarint n).length := by rw [hA, withB_size]; show 0 + _ = _; omega
  have ZB : B.size = (numT s).length := by rw [hB, withB_size]; show 0 + _ = _; omega
  have ZC : C.size = (numL l).length := by rw [hC, withB_size]; show 0 + _ = _; omega
  have TA : Hid (A.data.toList = Lib.uvarint n) := by show _ = _; rw [hA, withB_list]; rfl
  have TB : Hid (B.data.toList = numT s) := by show _ = _; rw [hB, withB_list]; rfl
  have TC : Hid (C.data.toList = numL l) := by show _ = _; rw [hC, withB_list]; rfl
  clear hA hB hC
  obtain ⟨ca, hca⟩ : ∃ c : Nat, min (max cut 0) ((A.size : Int) - 1) = (c : Int) := ⟨(min (max cut 0) ((A.size : Int) - 1)).toNat, by omega⟩
  obtain ⟨cb, hcb⟩ : ∃ c : Nat, min (max cut 0) ((B.size : Int) - 1) = (c : Int) := ⟨(min (max cut 0) ((B.size : Int) - 1)).toNat, by omega⟩
  obtain ⟨cc, hcc⟩ : ∃ c : Nat, min (max cut 0) ((C.size : Int) - 1) = (c : Int) := ⟨(min (max cut 0) ((C.size : Int) - 1)).toNat, by omega⟩
  have la : ca < (Lib.uvarint n).length := by omega
  have lb : cb < (numT s).length := by omega
  have lc : cc < (numL l).length := by omega
  have ia : (ca : Int) ≤ (A.size : Int) := by omega
  have ib : (cb : Int) ≤ (B.size : Int) := by omega
  have ic : (cc : Int) ≤ (C.size : Int) := by omega
  have TXA := Lib.hid (cutX A _ TA.out ca)
  have TXB := Lib.hid (cutX B _ TB.out cb)
  have TXC := Lib.hid (cutX C _ TC.out cc)
  have sxa : (A.extract 0 ca).size ≤ 1099511627776 := by rw [Lib.size_eq, TXA.out, List.length_take]; omega
  have sxb : (B.extract 0 cb).size ≤ 1099511627776 := by rw [Lib.size_eq, TXB.out, List.length_take]; omega
  have sxc : (C.extract 0 cc).size ≤ 1099511627776 := by rw [Lib.size_eq, TXC.out, List.length_take]; omega
  have zA : A.size ≤ 9000 := by omega
  have zB : B.size ≤ 9000 := by omega
  have zC : C.size ≤ 9000 := by omega
  have HZA := Lib.hid ZA
  have HZB := Lib.hid ZB
  have HZC := Lib.hid ZC
  clear ZA ZB ZC
  go_enter Try.func9, Try.ntmps9
  go_wp2_with fail
  refine (works_any _).mono ?_
  rintro e w1 ⟨rfl, b1⟩
  have HL1 := Lib.hid (HL.out.below b1)
  have hk1 : Below w1.heap.size w1 (w1.alloc (.cells (cellsOf u64C [n]).toArray 28)) := (Below.refl _ _).alloc (Nat.le_refl _) _
  go_wp2_with fail
  refine (Put_any ⟨#[]⟩ _ [n] _ (listAt_news u64C [n] w1 28 1 rfl) (by decide) (by simp) (fun c hc => by simp at hc; subst hc; exact hn)).mono ?_
  rw [E1.out]
  rintro e w2 ⟨rfl, k2⟩
  have k2' := hk1.trans (k2.mono (by simp))
  have HL2 := Lib.hid (HL1.out.below k2')
  have b2 := bw b1 k2'
  clear b1 hk1 k2 k2' HL1
  have hk1 : Below w2.heap.size w2 (w2.alloc (.cells (cellsOf strC [s]).toArray 9)) := (Below.refl _ _).alloc (Nat.le_refl _) _
  go_wp2_with fail
  refine (PutText_any _ _ [s] _ (listAt_news strC [s] w2 9 1 rfl) (by decide) (by simp) (fun c hc => by simp at hc; subst hc; omega)).mono ?_
  rw [E2.out]
  rintro e w4 ⟨rfl, k4⟩
  have k4' := hk1.trans (k4.mono (by simp))
  have HL4 := Lib.hid (HL2.out.below k4')
  have b4 := bw b2 k4'
  clear b2 hk1 k4 k4' HL2
  go_wp2_with fail
  refine (PutInts_any _ _ l _ HL4.out (by decide) (by omega) hlw).mono ?_
  rw [E3.out]
  rintro e w5 ⟨rfl, k5⟩
  have b5 := bw b4 k5
  clear b4 k5 HL4
  go_wp2_with fail
  refine (Read_any (A.extract 0 ca) _).mono ?_
  rintro e w6 ⟨rfl, r6, k6⟩
  have X6 := Lib.hid r6
  have b6 := bw b5 k6
  have h56 := b5.size
  clear r6
  go_wp2_with fail
  refine (Read_any (B.extract 0 cb) _).mono ?_
  rintro e w7 ⟨rfl, r7, k7⟩
  have Y7 := Lib.hid r7
  have X7 := Lib.hid (X6.out.below k7)
  have b7 := bw b6 k7
  have h67 := X6.out.lt
  clear r7 X6
  go_wp2_with fail
  refine (Read_any (C.extract 0 cc) _).mono ?_
  rintro e w8 ⟨rfl, r8, k8⟩
  have W8 := Lib.hid r8
  have X8 := Lib.hid (X7.out.below k8)
  have Y8 := Lib.hid (Y7.out.below k8)
  have b8 := bw b7 k8
  have h78 := Y7.out.lt
  clear r8 X7 Y7 b5 b6 b7 k6 k7 k8
  generalize hp1 : w5.heap.size = p1 at *
  generalize hp2 : w6.heap.size = p2 at *
  generalize hp3 : w7.heap.size = p3 at *
  clear hp1 hp2 hp3
  go_wp2_with fail
  refine (Number_cut _ _ n ca _ sxa hn TXA.out la X8.out).mono ?_
  rintro e w9 ⟨rfl, r9, k9⟩
  have X9 := Lib.hid r9
  have Y9 := Lib.hid (Y8.out.kept k9 (by omega))
  have W9 := Lib.hid (W8.out.kept k9 (by omega))
  have b9 := b8.trans (k9.below (by omega) b8.size)
  clear r9 k9 b8 X8 Y8 W8
  go_wp2_with fail
  refine (Text_cut _ _ s _ cb _ sxb (by omega) rfl TXB.out lb Y9.out).mono ?_
  rintro e w10 ⟨rfl, r10, k10⟩
  have Y10 := Lib.hid r10
  have X10 := Lib.hid (X9.out.kept k10 (by omega))
  have W10 := Lib.hid (W9.out.kept k10 (by omega))
  have b10 := b9.trans (k10.below (by omega) b9.size)
  clear r10 k10 b9 X9 Y9 W9
  go_wp2_with fail
  refine (Ints_cut _ _ l _ cc _ sxc (by omega) hlw rfl TXC.out lc W10.out).mono ?_
  rintro e w11 ⟨⟨a11, c11, rfl⟩, r11, k11⟩
  have W11 := Lib.hid r11
  have X11 := Lib.hid (X10.out.kept k11 (by omega))
  have Y11 := Lib.hid (Y10.out.kept k11 (by omega))
  have b11 := b10.trans (k11.below (by omega) b10.size)
  clear r11 k11 b10 X10 Y10 W10
  go_wp2_with fail
  refine (Err_any _ _ _ _ _ X11.out).mono ?_
  rintro e w12 ⟨rfl, rfl⟩
  go_wp2_with fail
  refine (At_any _ _ _ _ _ X11.out).mono ?_
  rintro e w12 ⟨rfl, rfl⟩
  go_wp2_with fail
  refine (Err_any _ _ _ _ _ Y11.out).mono ?_
  rintro e w12 ⟨rfl, rfl⟩
  go_wp2_with fail
  refine (At_any _ _ _ _ _ Y11.out).mono ?_
  rintro e w12 ⟨rfl, rfl⟩
  go_wp2_with fail
  refine (Err_any _ _ _ _ _ W11.out).mono ?_
  rintro e w12 ⟨rfl, rfl⟩
  go_wp2_with fail
  refine (At_any _ _ _ _ _ W11.out).mono ?_
  rintro e w12 ⟨rfl, rfl⟩
  go_wp2
  go_ret
  exact ⟨ret_bool (by first | rfl | simp), b11⟩
end Go.Proofs.Ytkcmcgmonkeajaa
