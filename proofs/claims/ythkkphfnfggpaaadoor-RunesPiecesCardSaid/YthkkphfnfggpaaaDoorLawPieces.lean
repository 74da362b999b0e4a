/- The law on pieces: the walk. -/
import Derived.Test.YthkkphfnfggpaaaDoorWorks
namespace Go.Proofs.YthkkphfnfggpaaaDoor
open Go.RowKit

theorem len_of_list {w : World} {v : Value} {n : Nat} {xs : List Value} (h : ListAt w v n xs) : ∃ a c, v = .slice a n c := by
  obtain ⟨_, a, c, rfl, _⟩ := h; exact ⟨a, c, rfl⟩

set_option maxRecDepth 100000 in
set_option maxHeartbeats 4000000 in
theorem law_pieces (s : ByteArray) (n : Int) (v : Value) (l : List Int) (w : World) (hs : s.size ≤ 9223372036854775807) (hn : n ≤ 9223372036854775807) (hl : ListAt w v l.length (i32s l)) (hll : l.length ≤ 9223372036854775807)
    (hwf : ∀ c ∈ l, -2147483648 ≤ c ∧ c ≤ 2147483647) (hT : Tabs w) :
    Calls Tryd.prog 3 #[.string s, .int .i64 n, v] w fun e w' => e = .returned (.bool true) ∧ Below w.heap.size w w' := by
  have HT := Lib.hid hT
  have HW := Lib.hid hwf
  have HL := Lib.hid hl
  obtain ⟨va, vc, rfl⟩ := len_of_list hl
  clear hT hwf hl
  by_cases hb : 4096 < s.size
  · have hbi : (4096 : Int) < (s.size : Int) := by omega
    go_enter Tryd.func3, Tryd.ntmps3
    go_wp2_with fail
    refine (works_any _ HT.out).mono ?_
    rintro e w1 ⟨rfl, b1⟩
    go_wp2
    go_ret
    exact ⟨rfl, b1⟩
  by_cases hb2 : 4096 < l.length
  · have hbi : ¬ (4096 : Int) < (s.size : Int) := by omega
    have hbi2 : (4096 : Int) < (l.length : Int) := by omega
    go_enter Tryd.func3, Tryd.ntmps3
    go_wp2_with fail
    refine (works_any _ HT.out).mono ?_
    rintro e w1 ⟨rfl, b1⟩
    go_wp2
    go_ret
    exact ⟨rfl, b1⟩
  have hps := pts_len s
  have hbi : ¬ (4096 : Int) < (s.size : Int) := by omega
  have hbi2 : ¬ (4096 : Int) < (l.length : Int) := by omega
  go_enter Tryd.func3, Tryd.ntmps3
  go_wp2_with fail
  refine (works_any _ HT.out).mono ?_
  rintro e w1 ⟨rfl, b1⟩
  go_wp2_with fail
  refine (points_any s _ (by omega)).mono ?_
  rintro e w2 ⟨v1, rfl, o1, b2⟩
  have c2 := bt b1 b2
  go_wp2_with fail
  refine (refPoints_any s _ (by omega)).mono ?_
  rintro e w3 ⟨v2, rfl, o2, b3⟩
  have c3 := bt c2 b3
  have L1 := Lib.hid ((ListAt.of_own o1).below b3)
  have L2 := Lib.hid (ListAt.of_own o2)
  obtain ⟨x1, y1, rfl⟩ := slice_of_own o1
  obtain ⟨x2, y2, rfl⟩ := slice_of_own o2
  clear b1 b2 b3 c2 o1 o2
  go_wp2_with fail
  refine (same_any _ _ (pts s) (pts s) _ L1.out L2.out (by omega) (by omega)).mono ?_
  rw [decide_eq_true (rfl : pts s = pts s)]
  rintro e w4 ⟨rfl, b4⟩
  have c4 := bt c3 b4
  clear c3 b4
  go_wp2_with fail
  refine (valid_any s _ (by omega) (HT.out.below c4)).mono ?_
  rintro e w5 ⟨rfl, b5⟩
  have c5 := bt c4 b5
  clear c4 b5
  go_wp2_with fail
  refine (refValid_any s _ (by omega)).mono ?_
  rintro e w6 ⟨rfl, rfl⟩
  go_wp2_with fail
  refine (count_any s _ (by omega)).mono ?_
  rintro e w7 ⟨rfl, b7⟩
  have c7 := bt c5 b7
  clear c5 b7
  have hv : (valB s == valB s) = true := by simp
  generalize valB s = vb at *
  go_wp2_with fail
  refine (cut_any s n _ (by omega) hn).mono ?_
  rintro e w8 ⟨rfl, b8⟩
  have c8 := bt c7 b8
  clear c7 b8
  go_wp2_with fail
  refine (refCut_any s n _ (by omega) hn).mono ?_
  rintro e w9 ⟨rfl, rfl⟩
  generalize cutS s n = cs at *
  go_wp2_with fail
  refine (text_any _ l _ (HL.out.below c8) (by omega) HW.out).mono ?_
  rintro e w10 ⟨rfl, b10⟩
  have c10 := bt c8 b10
  clear c8 b10
  go_wp2_with fail
  refine (refText_any _ l _ (HL.out.below c10) (by omega) HW.out).mono ?_
  rintro e w11 ⟨rfl, b11⟩
  have c11 := bt c10 b11
  clear c10 b11
  generalize textS l = tx at *
  go_wp2
  go_ret
  exact ⟨ret_bool (by simp), c11⟩
end Go.Proofs.YthkkphfnfggpaaaDoor
