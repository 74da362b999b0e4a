/- ClockLemma's guard: the conditions 5 to 8, one by one. -/
import Derived.Test.YtckbbakajabhmaaWorks7
namespace Go.Proofs.Ytckbbakajabhmaa
open Go.RowKit Go.Maps

set_option maxRecDepth 100000 in
set_option maxHeartbeats 8000000 in
theorem lemma_g4 {w : World} {lv : Value} {l : List Int} {ms sv m s fr la wt le : Int} (h : Run (fun k => k < w.heap.size) w lv l.length (intsC l)) (q0 : ¬ 300 < (l.length : Int)) (q1 : ¬ ms < 1) (q2 : ¬ 20 < ms) (q3 : ¬ sv < 1) (q4 : 20 < sv) :
    Calls Try.prog 7 #[lv, .int .i64 ms, .int .i64 sv, .int .i64 m, .int .i64 s, .int .i64 fr, .int .i64 la, .int .i64 wt, .int .i64 le] w fun e w' => e = .returned (.bool true) ∧ Below w.heap.size w w' := by
  have HW := Lib.hid (works_any w)
  obtain ⟨a, c, rfl, hac⟩ := h.slice
  clear h
  have d0 : decide (300 < (l.length : Int)) = false := decide_eq_false q0
  have d1 : decide (ms < 1) = false := decide_eq_false q1
  have d2 : decide (20 < ms) = false := decide_eq_false q2
  have d3 : decide (sv < 1) = false := decide_eq_false q3
  have d4 : decide (20 < sv) = true := decide_eq_true q4
  clear q0 q1 q2 q3 q4
  go_enter Try.func7, Try.ntmps7
  go_wp2_with fail
  refine HW.out.mono ?_
  rintro e w1 ⟨rfl, b1⟩
  have HB1 := Lib.hid b1
  clear b1
  go_wp2
  go_ret
  exact ⟨rfl, HB1.out⟩
set_option maxRecDepth 100000 in
set_option maxHeartbeats 8000000 in
theorem lemma_g5 {w : World} {lv : Value} {l : List Int} {ms sv m s fr la wt le : Int} (h : Run (fun k => k < w.heap.size) w lv l.length (intsC l)) (q0 : ¬ 300 < (l.length : Int)) (q1 : ¬ ms < 1) (q2 : ¬ 20 < ms) (q3 : ¬ sv < 1) (q4 : ¬ 20 < sv) (q5 : m < 0) :
    Calls Try.prog 7 #[lv, .int .i64 ms, .int .i64 sv, .int .i64 m, .int .i64 s, .int .i64 fr, .int .i64 la, .int .i64 wt, .int .i64 le] w fun e w' => e = .returned (.bool true) ∧ Below w.heap.size w w' := by
  have HW := Lib.hid (works_any w)
  obtain ⟨a, c, rfl, hac⟩ := h.slice
  clear h
  have d0 : decide (300 < (l.length : Int)) = false := decide_eq_false q0
  have d1 : decide (ms < 1) = false := decide_eq_false q1
  have d2 : decide (20 < ms) = false := decide_eq_false q2
  have d3 : decide (sv < 1) = false := decide_eq_false q3
  have d4 : decide (20 < sv) = false := decide_eq_false q4
  have d5 : decide (m < 0) = true := decide_eq_true q5
  clear q0 q1 q2 q3 q4 q5
  go_enter Try.func7, Try.ntmps7
  go_wp2_with fail
  refine HW.out.mono ?_
  rintro e w1 ⟨rfl, b1⟩
  have HB1 := Lib.hid b1
  clear b1
  go_wp2
  go_ret
  exact ⟨rfl, HB1.out⟩
set_option maxRecDepth 100000 in
set_option maxHeartbeats 8000000 in
theorem lemma_g6 {w : World} {lv : Value} {l : List Int} {ms sv m s fr la wt le : Int} (h : Run (fun k => k < w.heap.size) w lv l.length (intsC l)) (q0 : ¬ 300 < (l.length : Int)) (q1 : ¬ ms < 1) (q2 : ¬ 20 < ms) (q3 : ¬ sv < 1) (q4 : ¬ 20 < sv) (q5 : ¬ m < 0) (q6 : ms ≤ m) :
    Calls Try.prog 7 #[lv, .int .i64 ms, .int .i64 sv, .int .i64 m, .int .i64 s, .int .i64 fr, .int .i64 la, .int .i64 wt, .int .i64 le] w fun e w' => e = .returned (.bool true) ∧ Below w.heap.size w w' := by
  have HW := Lib.hid (works_any w)
  obtain ⟨a, c, rfl, hac⟩ := h.slice
  clear h
  have d0 : decide (300 < (l.length : Int)) = false := decide_eq_false q0
  have d1 : decide (ms < 1) = false := decide_eq_false q1
  have d2 : decide (20 < ms) = false := decide_eq_false q2
  have d3 : decide (sv < 1) = false := decide_eq_false q3
  have d4 : decide (20 < sv) = false := decide_eq_false q4
  have d5 : decide (m < 0) = false := decide_eq_false q5
  have d6 : decide (ms ≤ m) = true := decide_eq_true q6
  clear q0 q1 q2 q3 q4 q5 q6
  go_enter Try.func7, Try.ntmps7
  go_wp2_with fail
  refine HW.out.mono ?_
  rintro e w1 ⟨rfl, b1⟩
  have HB1 := Lib.hid b1
  clear b1
  go_wp2
  go_ret
  exact ⟨rfl, HB1.out⟩
set_option maxRecDepth 100000 in
set_option maxHeartbeats 8000000 in
theorem lemma_g7 {w : World} {lv : Value} {l : List Int} {ms sv m s fr la wt le : Int} (h : Run (fun k => k < w.heap.size) w lv l.length (intsC l)) (q0 : ¬ 300 < (l.length : Int)) (q1 : ¬ ms < 1) (q2 : ¬ 20 < ms) (q3 : ¬ sv < 1) (q4 : ¬ 20 < sv) (q5 : ¬ m < 0) (q6 : ¬ ms ≤ m) (q7 : s < 0) :
    Calls Try.prog 7 #[lv, .int .i64 ms, .int .i64 sv, .int .i64 m, .int .i64 s, .int .i64 fr, .int .i64 la, .int .i64 wt, .int .i64 le] w fun e w' => e = .returned (.bool true) ∧ Below w.heap.size w w' := by
  have HW := Lib.hid (works_any w)
  obtain ⟨a, c, rfl, hac⟩ := h.slice
  clear h
  have d0 : decide (300 < (l.length : Int)) = false := decide_eq_false q0
  have d1 : decide (ms < 1) = false := decide_eq_false q1
  have d2 : decide (20 < ms) = false := decide_eq_false q2
  have d3 : decide (sv < 1) = false := decide_eq_false q3
  have d4 : decide (20 < sv) = false := decide_eq_false q4
  have d5 : decide (m < 0) = false := decide_eq_false q5
  have d6 : decide (ms ≤ m) = false := decide_eq_false q6
  have d7 : decide (s < 0) = true := decide_eq_true q7
  clear q0 q1 q2 q3 q4 q5 q6 q7
  go_enter Try.func7, Try.ntmps7
  go_wp2_with fail
  refine HW.out.mono ?_
  rintro e w1 ⟨rfl, b1⟩
  have HB1 := Lib.hid b1
  clear b1
  go_wp2
  go_ret
  exact ⟨rfl, HB1.out⟩
end Go.Proofs.Ytckbbakajabhmaa
