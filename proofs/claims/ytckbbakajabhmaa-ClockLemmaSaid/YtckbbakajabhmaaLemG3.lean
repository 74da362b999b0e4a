/- ClockLemma's guard: the conditions 9 to 12, one by one. -/
import Derived.Test.YtckbbakajabhmaaWorks7
namespace Go.Proofs.Ytckbbakajabhmaa
open Go.RowKit Go.Maps

set_option maxRecDepth 100000 in
set_option maxHeartbeats 8000000 in
theorem lemma_g8 {w : World} {lv : Value} {l : List Int} {ms sv m s fr la wt le : Int} (h : Run (fun k => k < w.heap.size) w lv l.length (intsC l)) (q0 : ¬ 300 < (l.length : Int)) (q1 : ¬ ms < 1) (q2 : ¬ 20 < ms) (q3 : ¬ sv < 1) (q4 : ¬ 20 < sv) (q5 : ¬ m < 0) (q6 : ¬ ms ≤ m) (q7 : ¬ s < 0) (q8 : sv ≤ s) :
    Calls Try.prog 7 #[lv, .int .i64 ms, .int .i64 sv, .int .i64 m, .int .i64 s, .int .i64 fr, .int .i64 la, .int .i64 wt, .int .i64 le] w fun e w' => e = .returned (.bool true) ∧ Below w.heap.size w w' := by
  have HW := Lib.hid (works_any w)
  obtain ⟨a, c, rfl, hac⟩ := h.slice
  clear h
  have d0 : decide (300 < (l.length : Int)) = false := decide_eq_false q0
  have d1 : decide (ms < 1) = false := decide_eq_false q1
  have d2 : decide (20 < ms) = false := decide_eq_false q2
  have d3 : decide (sv < 1) = false := decide_eq_false q3
  have d4 : decide (20 < sv) = false := decide_eq_false q4
  have d5 : decide (m < 0) = false := decide_eq_false q5
  have d6 : decide (ms ≤ m) = false := decide_eq_false q6
  have d7 : decide (s < 0) = false := decide_eq_false q7
  have d8 : decide (sv ≤ s) = true := decide_eq_true q8
  clear q0 q1 q2 q3 q4 q5 q6 q7 q8
  go_enter Try.func7, Try.ntmps7
  go_wp2_with fail
  refine HW.out.mono ?_
  rintro e w1 ⟨rfl, b1⟩
  have HB1 := Lib.hid b1
  clear b1
  go_wp2
  go_ret
  exact ⟨rfl, HB1.out⟩
set_option maxRecDepth 100000 in
set_option maxHeartbeats 8000000 in
theorem lemma_g9 {w : World} {lv : Value} {l : List Int} {ms sv m s fr la wt le : Int} (h : Run (fun k => k < w.heap.size) w lv l.length (intsC l)) (q0 : ¬ 300 < (l.length : Int)) (q1 : ¬ ms < 1) (q2 : ¬ 20 < ms) (q3 : ¬ sv < 1) (q4 : ¬ 20 < sv) (q5 : ¬ m < 0) (q6 : ¬ ms ≤ m) (q7 : ¬ s < 0) (q8 : ¬ sv ≤ s) (q9 : fr < 0) :
    Calls Try.prog 7 #[lv, .int .i64 ms, .int .i64 sv, .int .i64 m, .int .i64 s, .int .i64 fr, .int .i64 la, .int .i64 wt, .int .i64 le] w fun e w' => e = .returned (.bool true) ∧ Below w.heap.size w w' := by
  have HW := Lib.hid (works_any w)
  obtain ⟨a, c, rfl, hac⟩ := h.slice
  clear h
  have d0 : decide (300 < (l.length : Int)) = false := decide_eq_false q0
  have d1 : decide (ms < 1) = false := decide_eq_false q1
  have d2 : decide (20 < ms) = false := decide_eq_false q2
  have d3 : decide (sv < 1) = false := decide_eq_false q3
  have d4 : decide (20 < sv) = false := decide_eq_false q4
  have d5 : decide (m < 0) = false := decide_eq_false q5
  have d6 : decide (ms ≤ m) = false := decide_eq_false q6
  have d7 : decide (s < 0) = false := decide_eq_false q7
  have d8 : decide (sv ≤ s) = false := decide_eq_false q8
  have d9 : decide (fr < 0) = true := decide_eq_true q9
  clear q0 q1 q2 q3 q4 q5 q6 q7 q8 q9
  go_enter Try.func7, Try.ntmps7
  go_wp2_with fail
  refine HW.out.mono ?_
  rintro e w1 ⟨rfl, b1⟩
  have HB1 := Lib.hid b1
  clear b1
  go_wp2
  go_ret
  exact ⟨rfl, HB1.out⟩
set_option maxRecDepth 100000 in
set_option maxHeartbeats 8000000 in
theorem lemma_g10 {w : World} {lv : Value} {l : List Int} {ms sv m s fr la wt le : Int} (h : Run (fun k => k < w.heap.size) w lv l.length (intsC l)) (q0 : ¬ 300 < (l.length : Int)) (q1 : ¬ ms < 1) (q2 : ¬ 20 < ms) (q3 : ¬ sv < 1) (q4 : ¬ 20 < sv) (q5 : ¬ m < 0) (q6 : ¬ ms ≤ m) (q7 : ¬ s < 0) (q8 : ¬ sv ≤ s) (q9 : ¬ fr < 0) (q10 : la < fr) :
    Calls Try.prog 7 #[lv, .int .i64 ms, .int .i64 sv, .int .i64 m, .int .i64 s, .int .i64 fr, .int .i64 la, .int .i64 wt, .int .i64 le] w fun e w' => e = .returned (.bool true) ∧ Below w.heap.size w w' := by
  have HW := Lib.hid (works_any w)
  obtain ⟨a, c, rfl, hac⟩ := h.slice
  clear h
  have d0 : decide (300 < (l.length : Int)) = false := decide_eq_false q0
  have d1 : decide (ms < 1) = false := decide_eq_false q1
  have d2 : decide (20 < ms) = false := decide_eq_false q2
  have d3 : decide (sv < 1) = false := decide_eq_false q3
  have d4 : decide (20 < sv) = false := decide_eq_false q4
  have d5 : decide (m < 0) = false := decide_eq_false q5
  have d6 : decide (ms ≤ m) = false := decide_eq_false q6
  have d7 : decide (s < 0) = false := decide_eq_false q7
  have d8 : decide (sv ≤ s) = false := decide_eq_false q8
  have d9 : decide (fr < 0) = false := decide_eq_false q9
  have d10 : decide (la < fr) = true := decide_eq_true q10
  clear q0 q1 q2 q3 q4 q5 q6 q7 q8 q9 q10
  go_enter Try.func7, Try.ntmps7
  go_wp2_with fail
  refine HW.out.mono ?_
  rintro e w1 ⟨rfl, b1⟩
  have HB1 := Lib.hid b1
  clear b1
  go_wp2
  go_ret
  exact ⟨rfl, HB1.out⟩
set_option maxRecDepth 100000 in
set_option maxHeartbeats 8000000 in
theorem lemma_g11 {w : World} {lv : Value} {l : List Int} {ms sv m s fr la wt le : Int} (h : Run (fun k => k < w.heap.size) w lv l.length (intsC l)) (q0 : ¬ 300 < (l.length : Int)) (q1 : ¬ ms < 1) (q2 : ¬ 20 < ms) (q3 : ¬ sv < 1) (q4 : ¬ 20 < sv) (q5 : ¬ m < 0) (q6 : ¬ ms ≤ m) (q7 : ¬ s < 0) (q8 : ¬ sv ≤ s) (q9 : ¬ fr < 0) (q10 : ¬ la < fr) (q11 : (l.length : Int) < la) :
    Calls Try.prog 7 #[lv, .int .i64 ms, .int .i64 sv, .int .i64 m, .int .i64 s, .int .i64 fr, .int .i64 la, .int .i64 wt, .int .i64 le] w fun e w' => e = .returned (.bool true) ∧ Below w.heap.size w w' := by
  have HW := Lib.hid (works_any w)
  obtain ⟨a, c, rfl, hac⟩ := h.slice
  clear h
  have d0 : decide (300 < (l.length : Int)) = false := decide_eq_false q0
  have d1 : decide (ms < 1) = false := decide_eq_false q1
  have d2 : decide (20 < ms) = false := decide_eq_false q2
  have d3 : decide (sv < 1) = false := decide_eq_false q3
  have d4 : decide (20 < sv) = false := decide_eq_false q4
  have d5 : decide (m < 0) = false := decide_eq_false q5
  have d6 : decide (ms ≤ m) = false := decide_eq_false q6
  have d7 : decide (s < 0) = false := decide_eq_false q7
  have d8 : decide (sv ≤ s) = false := decide_eq_false q8
  have d9 : decide (fr < 0) = false := decide_eq_false q9
  have d10 : decide (la < fr) = false := decide_eq_false q10
  have d11 : decide ((l.length : Int) < la) = true := decide_eq_true q11
  clear q0 q1 q2 q3 q4 q5 q6 q7 q8 q9 q10 q11
  go_enter Try.func7, Try.ntmps7
  go_wp2_with fail
  refine HW.out.mono ?_
  rintro e w1 ⟨rfl, b1⟩
  have HB1 := Lib.hid b1
  clear b1
  go_wp2
  go_ret
  exact ⟨rfl, HB1.out⟩
end Go.Proofs.Ytckbbakajabhmaa
