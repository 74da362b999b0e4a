/- THE LAW ClockLess: what holds of longer ticks holds of their beginning, of a shorter lease, of a longer wait, and of fewer servers. -/
import Derived.Test.YtckbbakajabhmaaLawKit7
namespace Go.Proofs.Ytckbbakajabhmaa
open Go.RowKit Go.Maps

set_option maxRecDepth 100000 in
set_option maxHeartbeats 8000000 in
theorem ClockLess_law {w : World} {lv : Value} {l : List Int} {ms sv wt le cut : Int} (h : Run (fun k => k < w.heap.size) w lv l.length (intsC l)) (hi64 : ∀ x ∈ l, I64 x) (hl : l.length ≤ 9223372036854775807) (hcut : I64 cut) :
    Calls Try.prog 8 #[lv, .int .i64 ms, .int .i64 sv, .int .i64 wt, .int .i64 le, .int .i64 cut] w fun e w' => e = .returned (.bool true) ∧ Below w.heap.size w w' := by
  have HW := Lib.hid (works_any w)
  have H := Lib.hid h
  have H64 := Lib.hid hi64
  have hc1 := hcut.1
  have hc2 := hcut.2
  obtain ⟨a, c, rfl, hac⟩ := h.slice
  clear h hi64 hcut
  go_enter Try.func8, Try.ntmps8
  go_wp2_with fail
  refine HW.out.mono ?_
  rintro e w1 ⟨rfl, b1⟩
  have HB1 := Lib.hid b1
  clear b1
  go_upto_region 4 with fail
  go_cut [53] (fun t wx => (∃ b, t = .bool b ∧ (b = false → (l.length : Int) ≤ 300 ∧ 0 ≤ ms ∧ ms ≤ 20 ∧ 0 ≤ sv ∧ sv ≤ 20 ∧ -1000 ≤ wt ∧ wt ≤ 1000 ∧ -1000 ≤ le ∧ le ≤ 1000)) ∧ wx = w1)
  case first =>
    go_wp2
    all_goals
      go_meet
      refine ⟨⟨_, rfl, fun hb => ?_⟩, rfl⟩
      (simp at hb) <;> omega
  obtain ⟨⟨b, rfl, hb⟩, rfl⟩ := hcut
  cases b with
  | true =>
    clear hb
    go_wp2
    go_ret
    exact ⟨rfl, HB1.out⟩
  | false =>
    obtain ⟨g1, g2, g3, g4, g5, g6, g7, g8, g9⟩ := hb rfl
    clear hb
    have hl3 : l.length ≤ 1048576 := by omega
    have IM : I64 ms := ⟨by omega, by omega⟩
    have IW : I64 wt := ⟨by omega, by omega⟩
    have IL : I64 le := ⟨by omega, by omega⟩
    have IL1 : I64 (le - 1) := ⟨by omega, by omega⟩
    have IW1 : I64 (wt + 1) := ⟨by omega, by omega⟩
    go_wp2_with fail
    refine (Drift_any (sv := sv) (H.out.now HB1.out) H64.out hl3 IM IW IL).mono ?_
    rintro e w2 ⟨⟨b, rfl, hb⟩, b2⟩
    have HB2 := Lib.hid (bw HB1.out b2)
    clear b2
    cases b with
    | false =>
      clear hb
      go_wp2
      go_ret
      exact ⟨rfl, HB2.out⟩
    | true =>
      have HST := Lib.hid (hb.1 rfl)
      clear hb
      go_upto_region 9 with fail
      go_cut [15] (fun t wx => (∃ N : Nat, t = .int .i64 (N : Int) ∧ N ≤ l.length) ∧ wx = w2)
      case first =>
        go_wp2
        all_goals
          go_meet
          first
          | exact ⟨⟨l.length, rfl, Nat.le_refl _⟩, rfl⟩
          | exact ⟨⟨0, rfl, Nat.zero_le _⟩, rfl⟩
          | exact ⟨⟨cut.toNat, by rw [Int.toNat_of_nonneg (by omega)], by first | omega | (split at * <;> omega)⟩, rfl⟩
      obtain ⟨⟨N, rfl, hN⟩, rfl⟩ := hcut
      obtain ⟨VN, r1, r2, rn⟩ := slice_to7 H.out N hN
      have RN := Lib.hid rn
      clear rn
      go_wp2_with fail
      refine (drift_true (RN.out.now HB2.out) (fun x hx => H64.out x (List.mem_of_mem_take hx)) (by rw [List.length_take]; omega) IM IW IL (steady_take HST.out _)).mono ?_
      rintro e w3 ⟨rfl, b3⟩
      have HB3 := Lib.hid (bw HB2.out b3)
      clear b3
      go_wp2_with fail
      refine (drift_true (H.out.now HB3.out) H64.out hl3 IM IW IL1 (steady_less HST.out (by omega))).mono ?_
      rintro e w4 ⟨rfl, b4⟩
      have HB4 := Lib.hid (bw HB3.out b4)
      clear b4
      go_wp2_with fail
      refine (drift_true (H.out.now HB4.out) H64.out hl3 IM IW1 IL (steady_wait HST.out (by omega))).mono ?_
      rintro e w5 ⟨rfl, b5⟩
      have HB5 := Lib.hid (bw HB4.out b5)
      clear b5
      go_wp2_with fail
      refine (drift_true (H.out.now HB5.out) H64.out hl3 IM IW IL (steady_fewer HST.out (by omega))).mono ?_
      rintro e w6 ⟨rfl, b6⟩
      have HB6 := Lib.hid (bw HB5.out b6)
      clear b6
      go_wp2_with fail
      all_goals
        refine (drift_true (H.out.now HB6.out) H64.out hl3 IM IW IL (steady_fewer HST.out (by omega))).mono ?_
        rintro e w7 ⟨rfl, b7⟩
        have HB7 := Lib.hid (bw HB6.out b7)
        clear b7
        go_wp2
        go_ret
        exact ⟨rfl, HB7.out⟩
end Go.Proofs.Ytckbbakajabhmaa
