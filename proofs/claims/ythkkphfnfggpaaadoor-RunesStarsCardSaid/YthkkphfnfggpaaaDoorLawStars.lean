/- The law on stars: the walk. -/
import Derived.Test.YthkkphfnfggpaaaDoorWorks
import Derived.Test.YthkkphfnfggpaaaDoorStars2
namespace Go.Proofs.YthkkphfnfggpaaaDoor
open Go.RowKit

set_option maxRecDepth 100000 in
set_option maxHeartbeats 16000000 in
theorem law_stars (p a b : ByteArray) (w : World) (hp : p.size ≤ 9223372036854775807) (ha : a.size ≤ 9223372036854775807) (hb : b.size ≤ 9223372036854775807) (hT : Tabs w) :
    Calls Tryd.prog 8 #[.string p, .string a, .string b] w fun e w' => e = .returned (.bool true) ∧ Below w.heap.size w w' := by
  have HT := Lib.hid hT
  clear hT
  by_cases h1 : 100 < p.size
  · have hbi : (100 : Int) < (p.size : Int) := by omega
    go_enter Tryd.func8, Tryd.ntmps8
    go_wp2_with fail
    refine (works_any _ HT.out).mono ?_
    rintro e w1 ⟨rfl, b1⟩
    go_wp2
    go_ret
    exact ⟨rfl, b1⟩
  by_cases h2 : 100 < a.size
  · have hbi : ¬ (100 : Int) < (p.size : Int) := by omega
    have hbi2 : (100 : Int) < (a.size : Int) := by omega
    go_enter Tryd.func8, Tryd.ntmps8
    go_wp2_with fail
    refine (works_any _ HT.out).mono ?_
    rintro e w1 ⟨rfl, b1⟩
    go_wp2
    go_ret
    exact ⟨rfl, b1⟩
  by_cases h3 : 100 < b.size
  · have hbi : ¬ (100 : Int) < (p.size : Int) := by omega
    have hbi2 : ¬ (100 : Int) < (a.size : Int) := by omega
    have hbi3 : (100 : Int) < (b.size : Int) := by omega
    go_enter Tryd.func8, Tryd.ntmps8
    go_wp2_with fail
    refine (works_any _ HT.out).mono ?_
    rintro e w1 ⟨rfl, b1⟩
    go_wp2
    go_ret
    exact ⟨rfl, b1⟩
  have hbi : ¬ (100 : Int) < (p.size : Int) := by omega
  have hbi2 : ¬ (100 : Int) < (a.size : Int) := by omega
  have hbi3 : ¬ (100 : Int) < (b.size : Int) := by omega
  go_enter Tryd.func8, Tryd.ntmps8
  go_wp2_with fail
  refine (works_any _ HT.out).mono ?_
  rintro e w1 ⟨rfl, b1⟩
  go_wp2
  have HZ := Lib.hid (escB_zero b)
  go_loopw [8, 9] (fun x i wr => ∃ k : Nat, k ≤ b.size ∧ i = .int .i64 k ∧ x = .string (escB b k) ∧ wr = w1) (fun _ i _ => b.size - (intOf i).toNat)
  case atStart => exact ⟨0, by omega, rfl, by rw [HZ.out], rfl⟩
  case round =>
    obtain ⟨k, hk, rfl, rfl, rfl⟩ := hrel
    by_cases hlt : k < b.size
    · have HB := Lib.hid (byt_get b hlt)
      have HS := Lib.hid (escB_step b k hlt)
      have hz := escB_size b k
      have hk1 : (k : Int) + 1 ≤ (b.size : Int) := by omega
      by_cases hsg : signB (byt b k) = true
      · have HG := Lib.hid hsg
        clear hsg
        go_wp2
        all_goals first
          | (refine ⟨⟨k + 1, ?_, ?_, ?_, trivial⟩, ?_⟩
             · omega
             · go_num
             · rw [HS.out, if_pos HG.out]
             · simp [intOf]; omega)
          | (exfalso
             have h := HG.out
             have hn : ((((b[k].toNat : Int) == 42) = false ∧ ((b[k].toNat : Int) == 63) = false) ∧ ((b[k].toNat : Int) == 91) = false) ∧ ((b[k].toNat : Int) == 92) = false := by assumption
             rw [HB.out] at h
             unfold signB at h
             rw [decide_eq_true_iff] at h
             simp only [beq_eq_false_iff_ne] at hn
             omega)
      · have hsf : signB (byt b k) = false := by simpa using hsg
        have HG := Lib.hid hsg
        have HN : Hid (¬ ((b[k].toNat : Int) = 42 ∨ (b[k].toNat : Int) = 63 ∨ (b[k].toNat : Int) = 91 ∨ (b[k].toNat : Int) = 92)) := by
          show ¬ _
          rw [← HB.out]; unfold signB at hsf; exact of_decide_eq_false hsf
        have g1 : ((b[k].toNat : Int) == 42) = false := by rw [beq_eq_false_iff_ne]; have := HN.out; omega
        have g2 : ((b[k].toNat : Int) == 63) = false := by rw [beq_eq_false_iff_ne]; have := HN.out; omega
        have g3 : ((b[k].toNat : Int) == 91) = false := by rw [beq_eq_false_iff_ne]; have := HN.out; omega
        have g4 : ((b[k].toNat : Int) == 92) = false := by rw [beq_eq_false_iff_ne]; have := HN.out; omega
        clear hsg hsf
        go_wp2
        exact ⟨⟨k + 1, by omega, by go_num, by rw [HS.out, if_neg HG.out], trivial⟩, by simp [intOf]; omega⟩
    · obtain rfl : k = b.size := by omega
      have hz := escB_size b b.size
      have HE := Lib.hid (esc_all b)
      cases hvb : valB b
      · have HVB := Lib.hid hvb
        clear HE
        cases hva : valB a
        · have HVA := Lib.hid hva
          clear hva hvb
          go_wp2_with fail
          refine (valid_any a _ (by omega) (HT.out.below b1)).mono ?_
          rw [HVA.out]
          rintro e w2 ⟨rfl, b2⟩
          have c2 := bt b1 b2
          clear b1 b2
          go_wp2_with fail
          refine (match_any _ a _ (by decide) (by omega)).mono ?_
          rw [one_star]
          rintro e w3 ⟨rfl, b3⟩
          have c3 := bt c2 b3
          clear c2 b3
          go_wp2_with fail
          refine (match_any _ a _ (by decide) (by omega)).mono ?_
          rw [two_stars]
          rintro e w4 ⟨rfl, b4⟩
          have c4 := bt c3 b4
          clear c3 b4
          go_wp2_with fail
          refine (valid_any b _ (by omega) (HT.out.below c4)).mono ?_
          rw [HVB.out]
          rintro e w5 ⟨rfl, b5⟩
          have c5 := bt c4 b5
          clear c4 b5
          go_wp2_with fail
          refine (match_any p b _ (by omega) (by omega)).mono ?_
          rintro e w6 ⟨rfl, b6⟩
          have c6 := bt c5 b6
          clear c5 b6
          generalize matchB p b = inn at *
          go_wp2_with fail
          refine (match_any _ a _ (by decide) (by omega)).mono ?_
          rintro e w7 ⟨rfl, b7⟩
          have c7 := bt c6 b7
          clear c6 b7
          go_wp2_with fail
          refine (match_any _ a _ (by decide) (by omega)).mono ?_
          rintro e w8 ⟨rfl, b8⟩
          have c8 := bt c7 b8
          clear c7 b8
          obtain ⟨hq1, hq2⟩ := cls_facts a
          generalize matchB ⟨#[91, 120, 45, 122, 97, 93]⟩ a = q at *
          generalize matchB ⟨#[91, 94, 120, 45, 122, 97, 93]⟩ a = r at *
          by_cases hN : (pts a).length = 1
          · have hqr := hq1 hN
            have HN : Hid (((pts a).length : Int) = 1) := by show _ = _; omega
            have hcase : q = true ∧ r = false ∨ q = false ∧ r = true := by revert hqr; cases q <;> cases r <;> simp
            clear hq1 hq2 hN hqr
            rcases hcase with ⟨rfl, rfl⟩ | ⟨rfl, rfl⟩
            · go_wp2_with fail
              refine (count_any a _ (by omega)).mono ?_
              rw [HN.out]
              rintro e w9 ⟨rfl, b9⟩
              have c9 := bt c8 b9
              clear c8 b9
              go_wp2
              go_ret
              exact ⟨ret_bool rfl, c9⟩
            · go_wp2_with fail
              refine (count_any a _ (by omega)).mono ?_
              rw [HN.out]
              rintro e w9 ⟨rfl, b9⟩
              have c9 := bt c8 b9
              clear c8 b9
              go_wp2
              go_ret
              exact ⟨ret_bool rfl, c9⟩
          · obtain ⟨rfl, rfl⟩ := hq2 hN
            clear hq1 hq2
            have hn1 : (((pts a).length : Nat) : Int) ≠ 1 := by omega
            go_wp2_with fail
            refine (count_any a _ (by omega)).mono ?_
            rintro e w9 ⟨rfl, b9⟩
            have c9 := bt c8 b9
            clear c8 b9
            go_wp2_with fail
            refine (count_any a _ (by omega)).mono ?_
            rintro e w10 ⟨rfl, b10⟩
            have c10 := bt c9 b10
            clear c9 b10
            go_wp2
            go_ret
            exact ⟨ret_bool (by rw [bne_iff_ne]; omega), c10⟩
        · have HVA := Lib.hid hva
          clear hva hvb
          go_wp2_with fail
          refine (valid_any a _ (by omega) (HT.out.below b1)).mono ?_
          rw [HVA.out]
          rintro e w2 ⟨rfl, b2⟩
          have c2 := bt b1 b2
          clear b1 b2
          go_wp2_with fail
          refine (valid_any b _ (by omega) (HT.out.below c2)).mono ?_
          rw [HVB.out]
          rintro e w3 ⟨rfl, b3⟩
          have c3 := bt c2 b3
          clear c2 b3
          go_wp2_with fail
          refine (match_any _ a _ (by decide) (by omega)).mono ?_
          rw [one_star]
          rintro e w4 ⟨rfl, b4⟩
          have c4 := bt c3 b4
          clear c3 b4
          go_wp2_with fail
          refine (match_any _ a _ (by decide) (by omega)).mono ?_
          rw [two_stars]
          rintro e w5 ⟨rfl, b5⟩
          have c5 := bt c4 b5
          clear c4 b5
          go_wp2_with fail
          refine (valid_any b _ (by omega) (HT.out.below c5)).mono ?_
          rw [HVB.out]
          rintro e w6 ⟨rfl, b6⟩
          have c6 := bt c5 b6
          clear c5 b6
          go_wp2_with fail
          refine (match_any p b _ (by omega) (by omega)).mono ?_
          rintro e w7 ⟨rfl, b7⟩
          have c7 := bt c6 b7
          clear c6 b7
          generalize matchB p b = inn at *
          go_wp2_with fail
          refine (match_any _ a _ (by decide) (by omega)).mono ?_
          rintro e w8 ⟨rfl, b8⟩
          have c8 := bt c7 b8
          clear c7 b8
          go_wp2_with fail
          refine (match_any _ a _ (by decide) (by omega)).mono ?_
          rintro e w9 ⟨rfl, b9⟩
          have c9 := bt c8 b9
          clear c8 b9
          obtain ⟨hq1, hq2⟩ := cls_facts a
          generalize matchB ⟨#[91, 120, 45, 122, 97, 93]⟩ a = q at *
          generalize matchB ⟨#[91, 94, 120, 45, 122, 97, 93]⟩ a = r at *
          by_cases hN : (pts a).length = 1
          · have hqr := hq1 hN
            have HN : Hid (((pts a).length : Int) = 1) := by show _ = _; omega
            have hcase : q = true ∧ r = false ∨ q = false ∧ r = true := by revert hqr; cases q <;> cases r <;> simp
            clear hq1 hq2 hN hqr
            rcases hcase with ⟨rfl, rfl⟩ | ⟨rfl, rfl⟩
            · go_wp2_with fail
              refine (count_any a _ (by omega)).mono ?_
              rw [HN.out]
              rintro e w10 ⟨rfl, b10⟩
              have c10 := bt c9 b10
              clear c9 b10
              go_wp2
              go_ret
              exact ⟨ret_bool rfl, c10⟩
            · go_wp2_with fail
              refine (count_any a _ (by omega)).mono ?_
              rw [HN.out]
              rintro e w10 ⟨rfl, b10⟩
              have c10 := bt c9 b10
              clear c9 b10
              go_wp2
              go_ret
              exact ⟨ret_bool rfl, c10⟩
          · obtain ⟨rfl, rfl⟩ := hq2 hN
            clear hq1 hq2
            have hn1 : (((pts a).length : Nat) : Int) ≠ 1 := by omega
            go_wp2_with fail
            refine (count_any a _ (by omega)).mono ?_
            rintro e w10 ⟨rfl, b10⟩
            have c10 := bt c9 b10
            clear c9 b10
            go_wp2_with fail
            refine (count_any a _ (by omega)).mono ?_
            rintro e w11 ⟨rfl, b11⟩
            have c11 := bt c10 b11
            clear c10 b11
            go_wp2
            go_ret
            exact ⟨ret_bool (by rw [bne_iff_ne]; omega), c11⟩
      · have HVB := Lib.hid hvb
        have HM := Lib.hid (HE.out hvb)
        cases hva : valB a
        · have HVA := Lib.hid hva
          clear hva hvb
          go_wp2_with fail
          refine (valid_any a _ (by omega) (HT.out.below b1)).mono ?_
          rw [HVA.out]
          rintro e w2 ⟨rfl, b2⟩
          have c2 := bt b1 b2
          clear b1 b2
          go_wp2_with fail
          refine (match_any _ a _ (by decide) (by omega)).mono ?_
          rw [one_star]
          rintro e w3 ⟨rfl, b3⟩
          have c3 := bt c2 b3
          clear c2 b3
          go_wp2_with fail
          refine (match_any _ a _ (by decide) (by omega)).mono ?_
          rw [two_stars]
          rintro e w4 ⟨rfl, b4⟩
          have c4 := bt c3 b4
          clear c3 b4
          go_wp2_with fail
          refine (valid_any b _ (by omega) (HT.out.below c4)).mono ?_
          rw [HVB.out]
          rintro e w5 ⟨rfl, b5⟩
          have c5 := bt c4 b5
          clear c4 b5
          go_wp2_with fail
          refine (match_any (escB b b.size) b _ (by omega) (by omega)).mono ?_
          rw [HM.out]
          rintro e w6 ⟨rfl, b6⟩
          have c6 := bt c5 b6
          clear c5 b6
          go_wp2_with fail
          refine (match_any p b _ (by omega) (by omega)).mono ?_
          rintro e w7 ⟨rfl, b7⟩
          have c7 := bt c6 b7
          clear c6 b7
          generalize matchB p b = inn at *
          go_wp2_with fail
          refine (match_any _ a _ (by decide) (by omega)).mono ?_
          rintro e w8 ⟨rfl, b8⟩
          have c8 := bt c7 b8
          clear c7 b8
          go_wp2_with fail
          refine (match_any _ a _ (by decide) (by omega)).mono ?_
          rintro e w9 ⟨rfl, b9⟩
          have c9 := bt c8 b9
          clear c8 b9
          obtain ⟨hq1, hq2⟩ := cls_facts a
          generalize matchB ⟨#[91, 120, 45, 122, 97, 93]⟩ a = q at *
          generalize matchB ⟨#[91, 94, 120, 45, 122, 97, 93]⟩ a = r at *
          by_cases hN : (pts a).length = 1
          · have hqr := hq1 hN
            have HN : Hid (((pts a).length : Int) = 1) := by show _ = _; omega
            have hcase : q = true ∧ r = false ∨ q = false ∧ r = true := by revert hqr; cases q <;> cases r <;> simp
            clear hq1 hq2 hN hqr
            rcases hcase with ⟨rfl, rfl⟩ | ⟨rfl, rfl⟩
            · go_wp2_with fail
              refine (count_any a _ (by omega)).mono ?_
              rw [HN.out]
              rintro e w10 ⟨rfl, b10⟩
              have c10 := bt c9 b10
              clear c9 b10
              go_wp2
              go_ret
              exact ⟨ret_bool rfl, c10⟩
            · go_wp2_with fail
              refine (count_any a _ (by omega)).mono ?_
              rw [HN.out]
              rintro e w10 ⟨rfl, b10⟩
              have c10 := bt c9 b10
              clear c9 b10
              go_wp2
              go_ret
              exact ⟨ret_bool rfl, c10⟩
          · obtain ⟨rfl, rfl⟩ := hq2 hN
            clear hq1 hq2
            have hn1 : (((pts a).length : Nat) : Int) ≠ 1 := by omega
            go_wp2_with fail
            refine (count_any a _ (by omega)).mono ?_
            rintro e w10 ⟨rfl, b10⟩
            have c10 := bt c9 b10
            clear c9 b10
            go_wp2_with fail
            refine (count_any a _ (by omega)).mono ?_
            rintro e w11 ⟨rfl, b11⟩
            have c11 := bt c10 b11
            clear c10 b11
            go_wp2
            go_ret
            exact ⟨ret_bool (by rw [bne_iff_ne]; omega), c11⟩
        cases hvp : valB p
        · have HVA := Lib.hid hva
          have HVP := Lib.hid hvp
          clear hva hvb hvp
          go_wp2_with fail
          refine (valid_any a _ (by omega) (HT.out.below b1)).mono ?_
          rw [HVA.out]
          rintro e w2 ⟨rfl, b2⟩
          have c2 := bt b1 b2
          clear b1 b2
          go_wp2_with fail
          refine (valid_any b _ (by omega) (HT.out.below c2)).mono ?_
          rw [HVB.out]
          rintro e w3 ⟨rfl, b3⟩
          have c3 := bt c2 b3
          clear c2 b3
          go_wp2_with fail
          refine (valid_any p _ (by omega) (HT.out.below c3)).mono ?_
          rw [HVP.out]
          rintro e w4 ⟨rfl, b4⟩
          have c4 := bt c3 b4
          clear c3 b4
          go_wp2_with fail
          refine (match_any _ a _ (by decide) (by omega)).mono ?_
          rw [one_star]
          rintro e w5 ⟨rfl, b5⟩
          have c5 := bt c4 b5
          clear c4 b5
          go_wp2_with fail
          refine (match_any _ a _ (by decide) (by omega)).mono ?_
          rw [two_stars]
          rintro e w6 ⟨rfl, b6⟩
          have c6 := bt c5 b6
          clear c5 b6
          go_wp2_with fail
          refine (valid_any b _ (by omega) (HT.out.below c6)).mono ?_
          rw [HVB.out]
          rintro e w7 ⟨rfl, b7⟩
          have c7 := bt c6 b7
          clear c6 b7
          go_wp2_with fail
          refine (match_any (escB b b.size) b _ (by omega) (by omega)).mono ?_
          rw [HM.out]
          rintro e w8 ⟨rfl, b8⟩
          have c8 := bt c7 b8
          clear c7 b8
          go_wp2_with fail
          refine (match_any p b _ (by omega) (by omega)).mono ?_
          rintro e w9 ⟨rfl, b9⟩
          have c9 := bt c8 b9
          clear c8 b9
          generalize matchB p b = inn at *
          go_wp2_with fail
          refine (match_any _ a _ (by decide) (by omega)).mono ?_
          rintro e w10 ⟨rfl, b10⟩
          have c10 := bt c9 b10
          clear c9 b10
          go_wp2_with fail
          refine (match_any _ a _ (by decide) (by omega)).mono ?_
          rintro e w11 ⟨rfl, b11⟩
          have c11 := bt c10 b11
          clear c10 b11
          obtain ⟨hq1, hq2⟩ := cls_facts a
          generalize matchB ⟨#[91, 120, 45, 122, 97, 93]⟩ a = q at *
          generalize matchB ⟨#[91, 94, 120, 45, 122, 97, 93]⟩ a = r at *
          by_cases hN : (pts a).length = 1
          · have hqr := hq1 hN
            have HN : Hid (((pts a).length : Int) = 1) := by show _ = _; omega
            have hcase : q = true ∧ r = false ∨ q = false ∧ r = true := by revert hqr; cases q <;> cases r <;> simp
            clear hq1 hq2 hN hqr
            rcases hcase with ⟨rfl, rfl⟩ | ⟨rfl, rfl⟩
            · go_wp2_with fail
              refine (count_any a _ (by omega)).mono ?_
              rw [HN.out]
              rintro e w12 ⟨rfl, b12⟩
              have c12 := bt c11 b12
              clear c11 b12
              go_wp2
              go_ret
              exact ⟨ret_bool rfl, c12⟩
            · go_wp2_with fail
              refine (count_any a _ (by omega)).mono ?_
              rw [HN.out]
              rintro e w12 ⟨rfl, b12⟩
              have c12 := bt c11 b12
              clear c11 b12
              go_wp2
              go_ret
              exact ⟨ret_bool rfl, c12⟩
          · obtain ⟨rfl, rfl⟩ := hq2 hN
            clear hq1 hq2
            have hn1 : (((pts a).length : Nat) : Int) ≠ 1 := by omega
            go_wp2_with fail
            refine (count_any a _ (by omega)).mono ?_
            rintro e w12 ⟨rfl, b12⟩
            have c12 := bt c11 b12
            clear c11 b12
            go_wp2_with fail
            refine (count_any a _ (by omega)).mono ?_
            rintro e w13 ⟨rfl, b13⟩
            have c13 := bt c12 b13
            clear c12 b13
            go_wp2
            go_ret
            exact ⟨ret_bool (by rw [bne_iff_ne]; omega), c13⟩
        cases hi : matchB p b
        · have HVA := Lib.hid hva
          have HVP := Lib.hid hvp
          have HI := Lib.hid hi
          clear hva hvb hvp hi
          go_wp2_with fail
          refine (valid_any a _ (by omega) (HT.out.below b1)).mono ?_
          rw [HVA.out]
          rintro e w2 ⟨rfl, b2⟩
          have c2 := bt b1 b2
          clear b1 b2
          go_wp2_with fail
          refine (valid_any b _ (by omega) (HT.out.below c2)).mono ?_
          rw [HVB.out]
          rintro e w3 ⟨rfl, b3⟩
          have c3 := bt c2 b3
          clear c2 b3
          go_wp2_with fail
          refine (valid_any p _ (by omega) (HT.out.below c3)).mono ?_
          rw [HVP.out]
          rintro e w4 ⟨rfl, b4⟩
          have c4 := bt c3 b4
          clear c3 b4
          go_wp2_with fail
          refine (match_any _ a _ (by decide) (by omega)).mono ?_
          rw [one_star]
          rintro e w5 ⟨rfl, b5⟩
          have c5 := bt c4 b5
          clear c4 b5
          go_wp2_with fail
          refine (match_any _ a _ (by decide) (by omega)).mono ?_
          rw [two_stars]
          rintro e w6 ⟨rfl, b6⟩
          have c6 := bt c5 b6
          clear c5 b6
          go_wp2_with fail
          refine (valid_any b _ (by omega) (HT.out.below c6)).mono ?_
          rw [HVB.out]
          rintro e w7 ⟨rfl, b7⟩
          have c7 := bt c6 b7
          clear c6 b7
          go_wp2_with fail
          refine (match_any (escB b b.size) b _ (by omega) (by omega)).mono ?_
          rw [HM.out]
          rintro e w8 ⟨rfl, b8⟩
          have c8 := bt c7 b8
          clear c7 b8
          go_wp2_with fail
          refine (match_any p b _ (by omega) (by omega)).mono ?_
          rw [HI.out]
          rintro e w9 ⟨rfl, b9⟩
          have c9 := bt c8 b9
          clear c8 b9
          go_wp2_with fail
          refine (match_any _ a _ (by decide) (by omega)).mono ?_
          rintro e w10 ⟨rfl, b10⟩
          have c10 := bt c9 b10
          clear c9 b10
          go_wp2_with fail
          refine (match_any _ a _ (by decide) (by omega)).mono ?_
          rintro e w11 ⟨rfl, b11⟩
          have c11 := bt c10 b11
          clear c10 b11
          obtain ⟨hq1, hq2⟩ := cls_facts a
          generalize matchB ⟨#[91, 120, 45, 122, 97, 93]⟩ a = q at *
          generalize matchB ⟨#[91, 94, 120, 45, 122, 97, 93]⟩ a = r at *
          by_cases hN : (pts a).length = 1
          · have hqr := hq1 hN
            have HN : Hid (((pts a).length : Int) = 1) := by show _ = _; omega
            have hcase : q = true ∧ r = false ∨ q = false ∧ r = true := by revert hqr; cases q <;> cases r <;> simp
            clear hq1 hq2 hN hqr
            rcases hcase with ⟨rfl, rfl⟩ | ⟨rfl, rfl⟩
            · go_wp2_with fail
              refine (count_any a _ (by omega)).mono ?_
              rw [HN.out]
              rintro e w12 ⟨rfl, b12⟩
              have c12 := bt c11 b12
              clear c11 b12
              go_wp2
              go_ret
              exact ⟨ret_bool rfl, c12⟩
            · go_wp2_with fail
              refine (count_any a _ (by omega)).mono ?_
              rw [HN.out]
              rintro e w12 ⟨rfl, b12⟩
              have c12 := bt c11 b12
              clear c11 b12
              go_wp2
              go_ret
              exact ⟨ret_bool rfl, c12⟩
          · obtain ⟨rfl, rfl⟩ := hq2 hN
            clear hq1 hq2
            have hn1 : (((pts a).length : Nat) : Int) ≠ 1 := by omega
            go_wp2_with fail
            refine (count_any a _ (by omega)).mono ?_
            rintro e w12 ⟨rfl, b12⟩
            have c12 := bt c11 b12
            clear c11 b12
            go_wp2_with fail
            refine (count_any a _ (by omega)).mono ?_
            rintro e w13 ⟨rfl, b13⟩
            have c13 := bt c12 b13
            clear c12 b13
            go_wp2
            go_ret
            exact ⟨ret_bool (by rw [bne_iff_ne]; omega), c13⟩
        have HVA := Lib.hid hva
        have HVP := Lib.hid hvp
        have HI := Lib.hid hi
        obtain ⟨hw1, hw2, hw3⟩ := wrap_match p a b hvp hva hvb hi
        have HW1 := Lib.hid hw1
        have HW2 := Lib.hid hw2
        have HW3 := Lib.hid hw3
        have z1 : (⟨#[42]⟩ ++ p ++ ⟨#[42]⟩ : ByteArray).size = p.size + 2 := by rw [app_size, app_size]; show 1 + p.size + 1 = _; omega
        have z2 : (p ++ ⟨#[42]⟩ : ByteArray).size = p.size + 1 := by rw [app_size]; rfl
        have z3 : (⟨#[42]⟩ ++ p : ByteArray).size = p.size + 1 := by rw [app_size]; show 1 + p.size = _; omega
        have z4 : (a ++ b ++ a).size = a.size + b.size + a.size := by rw [app_size, app_size]
        have z5 : (b ++ a).size = b.size + a.size := app_size b a
        have z6 : (a ++ b).size = a.size + b.size := app_size a b
        clear hva hvb hvp hi hw1 hw2 hw3
        go_wp2_with fail
        refine (valid_any a _ (by omega) (HT.out.below b1)).mono ?_
        rw [HVA.out]
        rintro e w2 ⟨rfl, b2⟩
        have c2 := bt b1 b2
        clear b1 b2
        go_wp2_with fail
        refine (valid_any b _ (by omega) (HT.out.below c2)).mono ?_
        rw [HVB.out]
        rintro e w3 ⟨rfl, b3⟩
        have c3 := bt c2 b3
        clear c2 b3
        go_wp2_with fail
        refine (valid_any p _ (by omega) (HT.out.below c3)).mono ?_
        rw [HVP.out]
        rintro e w4 ⟨rfl, b4⟩
        have c4 := bt c3 b4
        clear c3 b4
        go_wp2_with fail
        refine (match_any _ a _ (by decide) (by omega)).mono ?_
        rw [one_star]
        rintro e w5 ⟨rfl, b5⟩
        have c5 := bt c4 b5
        clear c4 b5
        go_wp2_with fail
        refine (match_any _ a _ (by decide) (by omega)).mono ?_
        rw [two_stars]
        rintro e w6 ⟨rfl, b6⟩
        have c6 := bt c5 b6
        clear c5 b6
        go_wp2_with fail
        refine (valid_any b _ (by omega) (HT.out.below c6)).mono ?_
        rw [HVB.out]
        rintro e w7 ⟨rfl, b7⟩
        have c7 := bt c6 b7
        clear c6 b7
        go_wp2_with fail
        refine (match_any (escB b b.size) b _ (by omega) (by omega)).mono ?_
        rw [HM.out]
        rintro e w8 ⟨rfl, b8⟩
        have c8 := bt c7 b8
        clear c7 b8
        go_wp2_with fail
        refine (match_any p b _ (by omega) (by omega)).mono ?_
        rw [HI.out]
        rintro e w9 ⟨rfl, b9⟩
        have c9 := bt c8 b9
        clear c8 b9
        go_wp2_with fail
        refine (match_any (⟨#[42]⟩ ++ p ++ ⟨#[42]⟩) (a ++ b ++ a) _ (by omega) (by omega)).mono ?_
        rw [HW1.out]
        rintro e w10 ⟨rfl, b10⟩
        have c10 := bt c9 b10
        clear c9 b10
        go_wp2_with fail
        refine (match_any (p ++ ⟨#[42]⟩) (b ++ a) _ (by omega) (by omega)).mono ?_
        rw [HW2.out]
        rintro e w11 ⟨rfl, b11⟩
        have c11 := bt c10 b11
        clear c10 b11
        go_wp2_with fail
        refine (match_any (⟨#[42]⟩ ++ p) (a ++ b) _ (by omega) (by omega)).mono ?_
        rw [HW3.out]
        rintro e w12 ⟨rfl, b12⟩
        have c12 := bt c11 b12
        clear c11 b12
        go_wp2_with fail
        refine (match_any _ a _ (by decide) (by omega)).mono ?_
        rintro e w13 ⟨rfl, b13⟩
        have c13 := bt c12 b13
        clear c12 b13
        go_wp2_with fail
        refine (match_any _ a _ (by decide) (by omega)).mono ?_
        rintro e w14 ⟨rfl, b14⟩
        have c14 := bt c13 b14
        clear c13 b14
        obtain ⟨hq1, hq2⟩ := cls_facts a
        generalize matchB ⟨#[91, 120, 45, 122, 97, 93]⟩ a = q at *
        generalize matchB ⟨#[91, 94, 120, 45, 122, 97, 93]⟩ a = r at *
        by_cases hN : (pts a).length = 1
        · have hqr := hq1 hN
          have HN : Hid (((pts a).length : Int) = 1) := by show _ = _; omega
          have hcase : q = true ∧ r = false ∨ q = false ∧ r = true := by revert hqr; cases q <;> cases r <;> simp
          clear hq1 hq2 hN hqr
          rcases hcase with ⟨rfl, rfl⟩ | ⟨rfl, rfl⟩
          · go_wp2_with fail
            refine (count_any a _ (by omega)).mono ?_
            rw [HN.out]
            rintro e w15 ⟨rfl, b15⟩
            have c15 := bt c14 b15
            clear c14 b15
            go_wp2
            go_ret
            exact ⟨ret_bool rfl, c15⟩
          · go_wp2_with fail
            refine (count_any a _ (by omega)).mono ?_
            rw [HN.out]
            rintro e w15 ⟨rfl, b15⟩
            have c15 := bt c14 b15
            clear c14 b15
            go_wp2
            go_ret
            exact ⟨ret_bool rfl, c15⟩
        · obtain ⟨rfl, rfl⟩ := hq2 hN
          clear hq1 hq2
          have hn1 : (((pts a).length : Nat) : Int) ≠ 1 := by omega
          go_wp2_with fail
          refine (count_any a _ (by omega)).mono ?_
          rintro e w15 ⟨rfl, b15⟩
          have c15 := bt c14 b15
          clear c14 b15
          go_wp2_with fail
          refine (count_any a _ (by omega)).mono ?_
          rintro e w16 ⟨rfl, b16⟩
          have c16 := bt c15 b16
          clear c15 b16
          go_wp2
          go_ret
          exact ⟨ret_bool (by rw [bne_iff_ne]; omega), c16⟩

end Go.Proofs.YthkkphfnfggpaaaDoor
