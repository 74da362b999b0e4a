/- The law on the order of texts: the walk. -/
import Derived.Test.YthkkphfnfggpaaaDoorWorks
import Derived.Test.YthkkphfnfggpaaaDoorApp
namespace Go.Proofs.YthkkphfnfggpaaaDoor
open Go.RowKit

set_option maxRecDepth 100000 in
set_option maxHeartbeats 16000000 in
theorem law_order (a b c : ByteArray) (w : World) (ha : a.size ≤ 9223372036854775807) (hb : b.size ≤ 9223372036854775807) (hc : c.size ≤ 9223372036854775807) (hT : Tabs w) :
    Calls Tryd.prog 5 #[.string a, .string b, .string c] w fun e w' => e = .returned (.bool true) ∧ Below w.heap.size w w' := by
  have HT := Lib.hid hT
  clear hT
  by_cases h1 : 4096 < a.size
  · have hbi : (4096 : Int) < (a.size : Int) := by omega
    go_enter Tryd.func5, Tryd.ntmps5
    go_wp2_with fail
    refine (works_any _ HT.out).mono ?_
    rintro e w1 ⟨rfl, b1⟩
    go_wp2
    go_ret
    exact ⟨rfl, b1⟩
  by_cases h2 : 4096 < b.size
  · have hbi : ¬ (4096 : Int) < (a.size : Int) := by omega
    have hbi2 : (4096 : Int) < (b.size : Int) := by omega
    go_enter Tryd.func5, Tryd.ntmps5
    go_wp2_with fail
    refine (works_any _ HT.out).mono ?_
    rintro e w1 ⟨rfl, b1⟩
    go_wp2
    go_ret
    exact ⟨rfl, b1⟩
  by_cases h3 : 4096 < c.size
  · have hbi : ¬ (4096 : Int) < (a.size : Int) := by omega
    have hbi2 : ¬ (4096 : Int) < (b.size : Int) := by omega
    have hbi3 : (4096 : Int) < (c.size : Int) := by omega
    go_enter Tryd.func5, Tryd.ntmps5
    go_wp2_with fail
    refine (works_any _ HT.out).mono ?_
    rintro e w1 ⟨rfl, b1⟩
    go_wp2
    go_ret
    exact ⟨rfl, b1⟩
  have hbi : ¬ (4096 : Int) < (a.size : Int) := by omega
  have hbi2 : ¬ (4096 : Int) < (b.size : Int) := by omega
  have hbi3 : ¬ (4096 : Int) < (c.size : Int) := by omega
  have hla := pts_len a
  have hlb := pts_len b
  have hac : (a ++ c).size = a.size + c.size := app_size a c
  have HAC : (a ++ c).size ≤ 8192 := by omega
  have HX1 := Lib.hid (cmpL_swap (pts b) (pts a))
  have HX2 := Lib.hid (cmpL_refl (pts a))
  have htr := cmpL_trans (pts a) (pts b) (pts c)
  have hxv := cmpL_vals (pts a) (pts b)
  have hyv := cmpL_vals (pts b) (pts c)
  have hzv := cmpL_vals (pts a) (pts c)
  have hx0 := cmpL_zero (pts a) (pts b)
  have C1 := Lib.hid (fun W (h : Tabs W) => cmp_any a b W (by omega) (by omega) h)
  have C2 := Lib.hid (fun W (h : Tabs W) => cmp_any b c W (by omega) (by omega) h)
  have C3 := Lib.hid (fun W (h : Tabs W) => cmp_any a c W (by omega) (by omega) h)
  have C4 := Lib.hid (fun W => refCmp_any a b W (by omega) (by omega))
  have C5 := Lib.hid (fun W (h : Tabs W) => cmp_any b a W (by omega) (by omega) h)
  rw [HX1.out] at C5
  have C6 := Lib.hid (fun W (h : Tabs W) => cmp_any a a W (by omega) (by omega) h)
  rw [HX2.out] at C6
  clear hac
  generalize cmpL (pts a) (pts b) = x at *
  generalize cmpL (pts b) (pts c) = y at *
  generalize cmpL (pts a) (pts c) = z at *
  have hx1 : -1 ≤ x := by omega
  have hx2 : x ≤ 1 := by omega
  have hy1 : -1 ≤ y := by omega
  have hy2 : y ≤ 1 := by omega
  have hz1 : -1 ≤ z := by omega
  have hz2 : z ≤ 1 := by omega
  have HTR := Lib.hid htr
  have HXZ := Lib.hid hx0
  clear hxv hyv hzv htr hx0 HX1 HX2
  have tx : (x != x) = false := by simp
  rcases Int.lt_trichotomy x 0 with hx | hx | hx
  · by_cases hy : y ≤ 0
    · have hz : z < 0 := (HTR.out (by omega) hy).2 hx
      have tx0 : (x != 0) = true := by rw [bne_iff_ne]; omega
      clear HTR
      go_enter Tryd.func5, Tryd.ntmps5
      go_wp2_with fail
      refine (works_any _ HT.out).mono ?_
      rintro e w1 ⟨rfl, b1⟩
      go_wp2_with fail
      refine (C1.out _ (HT.out.below b1)).mono ?_
      rintro e w2 ⟨rfl, b2⟩
      have c2 := bt b1 b2
      clear b1 b2
      go_wp2_with fail
      refine (C2.out _ (HT.out.below c2)).mono ?_
      rintro e w3 ⟨rfl, b3⟩
      have c3 := bt c2 b3
      clear c2 b3
      go_wp2_with fail
      refine (C3.out _ (HT.out.below c3)).mono ?_
      rintro e w4 ⟨rfl, b4⟩
      have c4 := bt c3 b4
      clear c3 b4
      go_wp2_with fail
      refine (C4.out _).mono ?_
      rintro e w5 ⟨rfl, b5⟩
      have c5 := bt c4 b5
      clear c4 b5
      go_wp2_with fail
      refine (C5.out _ (HT.out.below c5)).mono ?_
      rintro e w6 ⟨rfl, b6⟩
      have c6 := bt c5 b6
      clear c5 b6
      go_wp2_with fail
      refine (C6.out _ (HT.out.below c6)).mono ?_
      rintro e w7 ⟨rfl, b7⟩
      have c7 := bt c6 b7
      clear c6 b7
      by_cases hc0 : c.size = 0
      · have hl2 : c.toList = [] := List.isEmpty_iff.1 (toList_empty hc0)
        go_wp2
        go_ret
        exact ⟨ret_bool rfl, c7⟩
      · have hl2 := toList_more (show 0 < c.size by omega)
        go_wp2_with fail
        refine (cmp_any a (a ++ c) _ (by omega) (by omega) (HT.out.below c7)).mono ?_
        by_cases ht : cmpL (pts a) (pts (a ++ c)) = -1
        · rw [ht]
          rintro e w10 ⟨rfl, b10⟩
          have c10 := bt c7 b10
          clear ht c7 b10
          go_wp2
          go_ret
          exact ⟨ret_bool rfl, c10⟩
        · have hv : valB a = false := by
            rw [Bool.eq_false_iff]; intro e
            apply ht
            rw [pts_append a c e]
            exact cmpL_pre _ _ (pts_ne c (by omega))
          have HV := Lib.hid hv
          have hxv2 := cmpL_vals (pts a) (pts (a ++ c))
          rintro e w10 ⟨rfl, b10⟩
          have c10 := bt c7 b10
          generalize cmpL (pts a) (pts (a ++ c)) = t at *
          have tt : (t == -1) = false := by rw [beq_eq_false_iff_ne]; exact ht
          clear ht hv c7 b10 hxv2
          go_wp2_with fail
          refine (valid_any a _ (by omega) (HT.out.below c10)).mono ?_
          rw [HV.out]
          rintro e w11 ⟨rfl, b11⟩
          have c11 := bt c10 b11
          clear c10 b11
          go_wp2
          go_ret
          exact ⟨ret_bool rfl, c11⟩
    · have tx0 : (x != 0) = true := by rw [bne_iff_ne]; omega
      clear HTR
      go_enter Tryd.func5, Tryd.ntmps5
      go_wp2_with fail
      refine (works_any _ HT.out).mono ?_
      rintro e w1 ⟨rfl, b1⟩
      go_wp2_with fail
      refine (C1.out _ (HT.out.below b1)).mono ?_
      rintro e w2 ⟨rfl, b2⟩
      have c2 := bt b1 b2
      clear b1 b2
      go_wp2_with fail
      refine (C2.out _ (HT.out.below c2)).mono ?_
      rintro e w3 ⟨rfl, b3⟩
      have c3 := bt c2 b3
      clear c2 b3
      go_wp2_with fail
      refine (C3.out _ (HT.out.below c3)).mono ?_
      rintro e w4 ⟨rfl, b4⟩
      have c4 := bt c3 b4
      clear c3 b4
      go_wp2_with fail
      refine (C4.out _).mono ?_
      rintro e w5 ⟨rfl, b5⟩
      have c5 := bt c4 b5
      clear c4 b5
      go_wp2_with fail
      refine (C5.out _ (HT.out.below c5)).mono ?_
      rintro e w6 ⟨rfl, b6⟩
      have c6 := bt c5 b6
      clear c5 b6
      go_wp2_with fail
      refine (C6.out _ (HT.out.below c6)).mono ?_
      rintro e w7 ⟨rfl, b7⟩
      have c7 := bt c6 b7
      clear c6 b7
      by_cases hc0 : c.size = 0
      · have hl2 : c.toList = [] := List.isEmpty_iff.1 (toList_empty hc0)
        go_wp2
        go_ret
        exact ⟨ret_bool rfl, c7⟩
      · have hl2 := toList_more (show 0 < c.size by omega)
        go_wp2_with fail
        refine (cmp_any a (a ++ c) _ (by omega) (by omega) (HT.out.below c7)).mono ?_
        by_cases ht : cmpL (pts a) (pts (a ++ c)) = -1
        · rw [ht]
          rintro e w10 ⟨rfl, b10⟩
          have c10 := bt c7 b10
          clear ht c7 b10
          go_wp2
          go_ret
          exact ⟨ret_bool rfl, c10⟩
        · have hv : valB a = false := by
            rw [Bool.eq_false_iff]; intro e
            apply ht
            rw [pts_append a c e]
            exact cmpL_pre _ _ (pts_ne c (by omega))
          have HV := Lib.hid hv
          have hxv2 := cmpL_vals (pts a) (pts (a ++ c))
          rintro e w10 ⟨rfl, b10⟩
          have c10 := bt c7 b10
          generalize cmpL (pts a) (pts (a ++ c)) = t at *
          have tt : (t == -1) = false := by rw [beq_eq_false_iff_ne]; exact ht
          clear ht hv c7 b10 hxv2
          go_wp2_with fail
          refine (valid_any a _ (by omega) (HT.out.below c10)).mono ?_
          rw [HV.out]
          rintro e w11 ⟨rfl, b11⟩
          have c11 := bt c10 b11
          clear c10 b11
          go_wp2
          go_ret
          exact ⟨ret_bool rfl, c11⟩
  · have HEQ := Lib.hid (HXZ.out hx)
    subst hx
    by_cases hy : y ≤ 0
    · have hz : z ≤ 0 := (HTR.out (by omega) hy).1
      clear HTR
      go_enter Tryd.func5, Tryd.ntmps5
      go_wp2_with fail
      refine (works_any _ HT.out).mono ?_
      rintro e w1 ⟨rfl, b1⟩
      go_wp2_with fail
      refine (C1.out _ (HT.out.below b1)).mono ?_
      rintro e w2 ⟨rfl, b2⟩
      have c2 := bt b1 b2
      clear b1 b2
      go_wp2_with fail
      refine (C2.out _ (HT.out.below c2)).mono ?_
      rintro e w3 ⟨rfl, b3⟩
      have c3 := bt c2 b3
      clear c2 b3
      go_wp2_with fail
      refine (C3.out _ (HT.out.below c3)).mono ?_
      rintro e w4 ⟨rfl, b4⟩
      have c4 := bt c3 b4
      clear c3 b4
      go_wp2_with fail
      refine (C4.out _).mono ?_
      rintro e w5 ⟨rfl, b5⟩
      have c5 := bt c4 b5
      clear c4 b5
      go_wp2_with fail
      refine (C5.out _ (HT.out.below c5)).mono ?_
      rintro e w6 ⟨rfl, b6⟩
      have c6 := bt c5 b6
      clear c5 b6
      go_wp2_with fail
      refine (C6.out _ (HT.out.below c6)).mono ?_
      rintro e w7 ⟨rfl, b7⟩
      have c7 := bt c6 b7
      clear c6 b7
      go_wp2_with fail
      refine (count_any a _ (by omega)).mono ?_
      rintro e w8 ⟨rfl, b8⟩
      have c8 := bt c7 b8
      clear c7 b8
      go_wp2_with fail
      refine (count_any b _ (by omega)).mono ?_
      rw [HEQ.out]
      rintro e w9 ⟨rfl, b9⟩
      have c7 := bt c8 b9
      clear c8 b9
      have tlen : (((pts b).length : Int) == ((pts b).length : Int)) = true := by simp
      by_cases hc0 : c.size = 0
      · have hl2 : c.toList = [] := List.isEmpty_iff.1 (toList_empty hc0)
        go_wp2
        go_ret
        exact ⟨ret_bool rfl, c7⟩
      · have hl2 := toList_more (show 0 < c.size by omega)
        go_wp2_with fail
        refine (cmp_any a (a ++ c) _ (by omega) (by omega) (HT.out.below c7)).mono ?_
        by_cases ht : cmpL (pts a) (pts (a ++ c)) = -1
        · rw [ht]
          rintro e w10 ⟨rfl, b10⟩
          have c10 := bt c7 b10
          clear ht c7 b10
          go_wp2
          go_ret
          exact ⟨ret_bool rfl, c10⟩
        · have hv : valB a = false := by
            rw [Bool.eq_false_iff]; intro e
            apply ht
            rw [pts_append a c e]
            exact cmpL_pre _ _ (pts_ne c (by omega))
          have HV := Lib.hid hv
          have hxv2 := cmpL_vals (pts a) (pts (a ++ c))
          rintro e w10 ⟨rfl, b10⟩
          have c10 := bt c7 b10
          generalize cmpL (pts a) (pts (a ++ c)) = t at *
          have tt : (t == -1) = false := by rw [beq_eq_false_iff_ne]; exact ht
          clear ht hv c7 b10 hxv2
          go_wp2_with fail
          refine (valid_any a _ (by omega) (HT.out.below c10)).mono ?_
          rw [HV.out]
          rintro e w11 ⟨rfl, b11⟩
          have c11 := bt c10 b11
          clear c10 b11
          go_wp2
          go_ret
          exact ⟨ret_bool rfl, c11⟩
    · clear HTR
      go_enter Tryd.func5, Tryd.ntmps5
      go_wp2_with fail
      refine (works_any _ HT.out).mono ?_
      rintro e w1 ⟨rfl, b1⟩
      go_wp2_with fail
      refine (C1.out _ (HT.out.below b1)).mono ?_
      rintro e w2 ⟨rfl, b2⟩
      have c2 := bt b1 b2
      clear b1 b2
      go_wp2_with fail
      refine (C2.out _ (HT.out.below c2)).mono ?_
      rintro e w3 ⟨rfl, b3⟩
      have c3 := bt c2 b3
      clear c2 b3
      go_wp2_with fail
      refine (C3.out _ (HT.out.below c3)).mono ?_
      rintro e w4 ⟨rfl, b4⟩
      have c4 := bt c3 b4
      clear c3 b4
      go_wp2_with fail
      refine (C4.out _).mono ?_
      rintro e w5 ⟨rfl, b5⟩
      have c5 := bt c4 b5
      clear c4 b5
      go_wp2_with fail
      refine (C5.out _ (HT.out.below c5)).mono ?_
      rintro e w6 ⟨rfl, b6⟩
      have c6 := bt c5 b6
      clear c5 b6
      go_wp2_with fail
      refine (C6.out _ (HT.out.below c6)).mono ?_
      rintro e w7 ⟨rfl, b7⟩
      have c7 := bt c6 b7
      clear c6 b7
      go_wp2_with fail
      refine (count_any a _ (by omega)).mono ?_
      rintro e w8 ⟨rfl, b8⟩
      have c8 := bt c7 b8
      clear c7 b8
      go_wp2_with fail
      refine (count_any b _ (by omega)).mono ?_
      rw [HEQ.out]
      rintro e w9 ⟨rfl, b9⟩
      have c7 := bt c8 b9
      clear c8 b9
      have tlen : (((pts b).length : Int) == ((pts b).length : Int)) = true := by simp
      by_cases hc0 : c.size = 0
      · have hl2 : c.toList = [] := List.isEmpty_iff.1 (toList_empty hc0)
        go_wp2
        go_ret
        exact ⟨ret_bool rfl, c7⟩
      · have hl2 := toList_more (show 0 < c.size by omega)
        go_wp2_with fail
        refine (cmp_any a (a ++ c) _ (by omega) (by omega) (HT.out.below c7)).mono ?_
        by_cases ht : cmpL (pts a) (pts (a ++ c)) = -1
        · rw [ht]
          rintro e w10 ⟨rfl, b10⟩
          have c10 := bt c7 b10
          clear ht c7 b10
          go_wp2
          go_ret
          exact ⟨ret_bool rfl, c10⟩
        · have hv : valB a = false := by
            rw [Bool.eq_false_iff]; intro e
            apply ht
            rw [pts_append a c e]
            exact cmpL_pre _ _ (pts_ne c (by omega))
          have HV := Lib.hid hv
          have hxv2 := cmpL_vals (pts a) (pts (a ++ c))
          rintro e w10 ⟨rfl, b10⟩
          have c10 := bt c7 b10
          generalize cmpL (pts a) (pts (a ++ c)) = t at *
          have tt : (t == -1) = false := by rw [beq_eq_false_iff_ne]; exact ht
          clear ht hv c7 b10 hxv2
          go_wp2_with fail
          refine (valid_any a _ (by omega) (HT.out.below c10)).mono ?_
          rw [HV.out]
          rintro e w11 ⟨rfl, b11⟩
          have c11 := bt c10 b11
          clear c10 b11
          go_wp2
          go_ret
          exact ⟨ret_bool rfl, c11⟩
  · have tx0 : (x != 0) = true := by rw [bne_iff_ne]; omega
    clear HTR
    go_enter Tryd.func5, Tryd.ntmps5
    go_wp2_with fail
    refine (works_any _ HT.out).mono ?_
    rintro e w1 ⟨rfl, b1⟩
    go_wp2_with fail
    refine (C1.out _ (HT.out.below b1)).mono ?_
    rintro e w2 ⟨rfl, b2⟩
    have c2 := bt b1 b2
    clear b1 b2
    go_wp2_with fail
    refine (C2.out _ (HT.out.below c2)).mono ?_
    rintro e w3 ⟨rfl, b3⟩
    have c3 := bt c2 b3
    clear c2 b3
    go_wp2_with fail
    refine (C3.out _ (HT.out.below c3)).mono ?_
    rintro e w4 ⟨rfl, b4⟩
    have c4 := bt c3 b4
    clear c3 b4
    go_wp2_with fail
    refine (C4.out _).mono ?_
    rintro e w5 ⟨rfl, b5⟩
    have c5 := bt c4 b5
    clear c4 b5
    go_wp2_with fail
    refine (C5.out _ (HT.out.below c5)).mono ?_
    rintro e w6 ⟨rfl, b6⟩
    have c6 := bt c5 b6
    clear c5 b6
    go_wp2_with fail
    refine (C6.out _ (HT.out.below c6)).mono ?_
    rintro e w7 ⟨rfl, b7⟩
    have c7 := bt c6 b7
    clear c6 b7
    by_cases hc0 : c.size = 0
    · have hl2 : c.toList = [] := List.isEmpty_iff.1 (toList_empty hc0)
      go_wp2
      go_ret
      exact ⟨ret_bool rfl, c7⟩
    · have hl2 := toList_more (show 0 < c.size by omega)
      go_wp2_with fail
      refine (cmp_any a (a ++ c) _ (by omega) (by omega) (HT.out.below c7)).mono ?_
      by_cases ht : cmpL (pts a) (pts (a ++ c)) = -1
      · rw [ht]
        rintro e w10 ⟨rfl, b10⟩
        have c10 := bt c7 b10
        clear ht c7 b10
        go_wp2
        go_ret
        exact ⟨ret_bool rfl, c10⟩
      · have hv : valB a = false := by
          rw [Bool.eq_false_iff]; intro e
          apply ht
          rw [pts_append a c e]
          exact cmpL_pre _ _ (pts_ne c (by omega))
        have HV := Lib.hid hv
        have hxv2 := cmpL_vals (pts a) (pts (a ++ c))
        rintro e w10 ⟨rfl, b10⟩
        have c10 := bt c7 b10
        generalize cmpL (pts a) (pts (a ++ c)) = t at *
        have tt : (t == -1) = false := by rw [beq_eq_false_iff_ne]; exact ht
        clear ht hv c7 b10 hxv2
        go_wp2_with fail
        refine (valid_any a _ (by omega) (HT.out.below c10)).mono ?_
        rw [HV.out]
        rintro e w11 ⟨rfl, b11⟩
        have c11 := bt c10 b11
        clear c10 b11
        go_wp2
        go_ret
        exact ⟨ret_bool rfl, c11⟩
end Go.Proofs.YthkkphfnfggpaaaDoor
