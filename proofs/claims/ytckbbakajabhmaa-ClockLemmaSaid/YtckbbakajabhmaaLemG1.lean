/- ClockLemma's guard: the conditions 1 to 4, one by one. -/
import Derived.Test.YtckbbakajabhmaaWorks7
namespace Go.Proofs.Ytckbbakajabhmaa
open Go.RowKit Go.Maps

set_option maxRecDepth 100000 in
set_option maxHeartbeats 8000000 in
theorem lemma_g0 {w : World} {lv : Value} {l : List Int} {ms sv m s fr la wt le : Int} (h : Run (fun k => k < w.heap.size) w lv l.length (intsC l))  (q0 : 300 < (l.length : Int)) :
    Calls Try.prog 7 #[lv, .int .i64 ms, .int .i64 sv, .int .i64 m, .int .i64 s, .int .i64 fr, .int .i64 la, .int .i64 wt, .int .i64 le] w fun e w' => e = .returned (.bool true) ∧ Below w.heap.size w w' := by
  have HW := Lib.hid (works_any w)
  obtain ⟨a, c, rfl, hac⟩ := h.slice
  clear h
  have d0 : decide (300 < (l.length : Int)) = true := decide_eq_true q0
  clear q0
  go_enter Try.func7, Try.ntmps7
  go_wp2_with fail
  refine HW.out.mono ?_
  rintro e w1 ⟨rfl, b1⟩
  have HB1 := Lib.hid b1
  clear b1
  go_wp2
  go_ret
  exact ⟨rfl, HB1.out⟩
set_option maxRecDepth 100000 in
set_option maxHeartbeats 8000000 in
theorem lemma_g1 {w : World} {lv : Value} {l : List Int} {ms sv m s fr la wt le : Int} (h : Run (fun k => k < w.heap.size) w lv l.length (intsC l)) (q0 : ¬ 300 < (l.length : Int)) (q1 : ms < 1) :
    Calls Try.prog 7 #[lv, .int .i64 ms, .int .i64 sv, .int .i64 m, .int .i64 s, .int .i64 fr, .int .i64 la, .int .i64 wt, .int .i64 le] w fun e w' => e = .returned (.bool true) ∧ Below w.heap.size w w' := by
  have HW := Lib.hid (works_any w)
  obtain ⟨a, c, rfl, hac⟩ := h.slice
  clear h
  have d0 : decide (300 < (l.length : Int)) = false := decide_eq_false q0
  have d1 : decide (ms < 1) = true := decide_eq_true q1
  clear q0 q1
  go_enter Try.func7, Try.ntmps7
  go_wp2_with fail
  refine HW.out.mono ?_
  rintro e w1 ⟨rfl, b1⟩
  have HB1 := Lib.hid b1
  clear b1
  go_wp2
  go_ret
  exact ⟨rfl, HB1.out⟩
set_option maxRecDepth 100000 in
set_option maxHeartbeats 8000000 in
theorem lemma_g2 {w : World} {lv : Value} {l : List Int} {ms sv m s fr la wt le : Int} (h : Run (fun k => k < w.heap.size) w lv l.length (intsC l)) (q0 : ¬ 300 < (l.length : Int)) (q1 : ¬ ms < 1) (q2 : 20 < ms) :
    Calls Try.prog 7 #[lv, .int .i64 ms, .int .i64 sv, .int .i64 m, .int .i64 s, .int .i64 fr, .int .i64 la, .int .i64 wt, .int .i64 le] w fun e w' => e = .returned (.bool true) ∧ Below w.heap.size w w' := by
  have HW := Lib.hid (works_any w)
  obtain ⟨a, c, rfl, hac⟩ := h.slice
  clear h
  have d0 : decide (300 < (l.length : Int)) = false := decide_eq_false q0
  have d1 : decide (ms < 1) = false := decide_eq_false q1
  have d2 : decide (20 < ms) = true := decide_eq_true q2
  clear q0 q1 q2
  go_enter Try.func7, Try.ntmps7
  go_wp2_with fail
  refine HW.out.mono ?_
  rintro e w1 ⟨rfl, b1⟩
  have HB1 := Lib.hid b1
  clear b1
  go_wp2
  go_ret
  exact ⟨rfl, HB1.out⟩
set_option maxRecDepth 100000 in
set_option maxHeartbeats 8000000 in
theorem lemma_g3 {w : World} {lv : Value} {l : List Int} {ms sv m s fr la wt le : Int} (h : Run (fun k => k < w.heap.size) w lv l.length (intsC l)) (q0 : ¬ 300 < (l.length : Int)) (q1 : ¬ ms < 1) (q2 : ¬ 20 < ms) (q3 : sv < 1) :
    Calls Try.prog 7 #[lv, .int .i64 ms, .int .i64 sv, .int .i64 m, .int .i64 s, .int .i64 fr, .int .i64 la, .int .i64 wt, .int .i64 le] w fun e w' => e = .returned (.bool true) ∧ Below w.heap.size w w' := by
  have HW := Lib.hid (works_any w)
  obtain ⟨a, c, rfl, hac⟩ := h.slice
  clear h
  have d0 : decide (300 < (l.length : Int)) = false := decide_eq_false q0
  have d1 : decide (ms < 1) = false := decide_eq_false q1
  have d2 : decide (20 < ms) = false := decide_eq_false q2
  have d3 : decide (sv < 1) = true := decide_eq_true q3
  clear q0 q1 q2 q3
  go_enter Try.func7, Try.ntmps7
  go_wp2_with fail
  refine HW.out.mono ?_
  rintro e w1 ⟨rfl, b1⟩
  have HB1 := Lib.hid b1
  clear b1
  go_wp2
  go_ret
  exact ⟨rfl, HB1.out⟩
end Go.Proofs.Ytckbbakajabhmaa
