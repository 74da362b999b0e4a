/- THE LAW ClockDrift: whether clocks ticked as they should is just what the document says. -/
import Derived.Test.YtckbbakajabhmaaRDrift
namespace Go.Proofs.Ytckbbakajabhmaa
open Go.RowKit Go.Maps

set_option maxRecDepth 100000 in
set_option maxHeartbeats 8000000 in
theorem ClockDrift_law {w : World} {lv : Value} {l : List Int} {ms sv wt le : Int} (h : Run (fun k => k < w.heap.size) w lv l.length (intsC l)) (hi64 : ∀ x ∈ l, I64 x) (hl : l.length ≤ 9223372036854775807) (hms : I64 ms) (_hsv : I64 sv) (hwt : I64 wt) (hle : I64 le) :
    Calls Try.prog 4 #[lv, .int .i64 ms, .int .i64 sv, .int .i64 wt, .int .i64 le] w fun e w' => e = .returned (.bool true) ∧ Below w.heap.size w w' := by
  have HW := Lib.hid (works_any w)
  have H := Lib.hid h
  have H64 := Lib.hid hi64
  obtain ⟨a, c, rfl, hac⟩ := h.slice
  clear h hi64
  go_enter Try.func4, Try.ntmps4
  go_wp2_with fail
  refine HW.out.mono ?_
  rintro e w1 ⟨rfl, b1⟩
  have HB1 := Lib.hid b1
  clear b1
  go_upto_region 4 with fail
  go_cut [31] (fun t wx => (∃ b, t = .bool b ∧ (b = false → (l.length : Int) ≤ 300 ∧ ms ≤ 20 ∧ sv ≤ 20 ∧ -20 ≤ ms)) ∧ wx = w1)
  case first =>
    go_wp2
    all_goals
      go_meet
      refine ⟨⟨_, rfl, fun hb => ?_⟩, rfl⟩
      (simp at hb) <;> omega
  obtain ⟨⟨b, rfl, hb⟩, rfl⟩ := hcut
  cases b with
  | true =>
    clear hb
    go_wp2
    go_ret
    exact ⟨rfl, HB1.out⟩
  | false =>
    obtain ⟨g1, g2, g3, g4⟩ := hb rfl
    clear hb
    have hl3 : l.length ≤ 1048576 := by omega
    go_wp2_with fail
    refine (Drift_any (sv := sv) (H.out.now HB1.out) H64.out hl3 hms hwt hle).mono ?_
    rintro e w2 ⟨⟨b, rfl, hb⟩, b2⟩
    have HB2 := Lib.hid (bw HB1.out b2)
    have HQ1 := Lib.hid hb
    clear b2 hb
    go_wp2_with fail
    refine (rDrift_any (ms := ms) (sv := sv) (le := le) (H.out.now HB2.out) hl3 (by omega) (by omega) (by omega) hwt).mono ?_
    rintro e w3 ⟨⟨b', rfl, hb⟩, b3⟩
    have HB3 := Lib.hid (bw HB2.out b3)
    obtain rfl : b' = b := by
      have hq := HQ1.out
      cases b <;> cases b' <;> simp_all
    clear b3 hb
    go_wp2
    go_ret
    exact ⟨by simp, HB3.out⟩
end Go.Proofs.Ytckbbakajabhmaa
