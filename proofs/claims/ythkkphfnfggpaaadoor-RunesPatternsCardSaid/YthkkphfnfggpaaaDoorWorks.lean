/- The document's examples. -/
import Derived.Test.YthkkphfnfggpaaaDoorMatch
import Derived.KernelRfl
namespace Go.Proofs.YthkkphfnfggpaaaDoor
open Go.RowKit

theorem w_pattern (w : World) : Calls Tryd.prog 26 #[.string ⟨#[97, 91]⟩] w fun e w' => e = .returned (.tuple #[.int .i64 12, .int .i64 1]) ∧ Below w.heap.size w w' := by
  have h := pattern_any ⟨#[97, 91]⟩ w (by decide)
  have e1 : patE ⟨#[97, 91]⟩ = 12 := by kernel_rfl
  have e2 : patK ⟨#[97, 91]⟩ = 1 := by kernel_rfl
  rw [e1, e2] at h; exact h
theorem w_count (w : World) : Calls Tryd.prog 17 #[.string ⟨#[97, 195, 169, 226, 130, 172]⟩] w fun e w' => e = .returned (.int .i64 3) ∧ Below w.heap.size w w' := by
  have h := count_any ⟨#[97, 195, 169, 226, 130, 172]⟩ w (by decide)
  have e1 : ((pts ⟨#[97, 195, 169, 226, 130, 172]⟩).length : Int) = 3 := by kernel_rfl
  rw [e1] at h; exact h
theorem w_cmp (w : World) (hT : Tabs w) : Calls Tryd.prog 22 #[.string ⟨#[97]⟩, .string ⟨#[97, 98]⟩] w fun e w' => e = .returned (.int .i64 (-1)) ∧ Below w.heap.size w w' := by
  have h := cmp_any ⟨#[97]⟩ ⟨#[97, 98]⟩ w (by decide) (by decide) hT
  have e1 : cmpL (pts ⟨#[97]⟩) (pts ⟨#[97, 98]⟩) = -1 := by kernel_rfl
  rw [e1] at h; exact h
theorem w_name (w : World) : Calls Tryd.prog 24 #[.string ⟨#[46, 120]⟩] w fun e w' => e = .returned (.int .i64 10) ∧ Below w.heap.size w w' := by
  have h := name_any ⟨#[46, 120]⟩ w (by decide)
  have e1 : nameL (pts ⟨#[46, 120]⟩) = 10 := by kernel_rfl
  rw [e1] at h; exact h
theorem w_match (w : World) : Calls Tryd.prog 28 #[.string ⟨#[42, 46, 91, 97, 45, 99, 63, 93]⟩, .string ⟨#[120, 46, 98]⟩] w fun e w' => e = .returned (.bool true) ∧ Below w.heap.size w w' := by
  have h := match_any ⟨#[42, 46, 91, 97, 45, 99, 63, 93]⟩ ⟨#[120, 46, 98]⟩ w (by decide) (by decide)
  have e1 : matchB ⟨#[42, 46, 91, 97, 45, 99, 63, 93]⟩ ⟨#[120, 46, 98]⟩ = true := by kernel_rfl
  rw [e1] at h; exact h
theorem w_cut (w : World) : Calls Tryd.prog 18 #[.string ⟨#[195, 169, 98]⟩, .int .i64 1] w fun e w' => e = .returned (.string ⟨#[195, 169]⟩) ∧ Below w.heap.size w w' := by
  have h := cut_any ⟨#[195, 169, 98]⟩ 1 w (by decide) (by decide)
  have e1 : cutS ⟨#[195, 169, 98]⟩ 1 = ⟨#[195, 169]⟩ := by kernel_rfl
  rw [e1] at h; exact h
theorem w_points (w : World) : Calls Tryd.prog 12 #[.string ⟨#[97, 98]⟩] w fun e w' => ∃ a c, e = .returned (.slice a 2 c) ∧ Below w.heap.size w w' := by
  refine (points_any ⟨#[97, 98]⟩ w (by decide)).mono ?_
  have e1 : (pts ⟨#[97, 98]⟩).length = 2 := by kernel_rfl
  rintro e w' ⟨v, rfl, ho, hb⟩
  rw [e1] at ho
  obtain ⟨a, c, rfl⟩ := slice_of_own ho
  exact ⟨a, c, rfl, hb⟩
theorem w_text (w : World) : Calls Tryd.prog 20 #[.slice (some ⟨w.heap.size, 0, none⟩) 2 2] (w.alloc (.cells #[.int .i32 97, .int .i32 8364] 21)) fun e w' => e = .returned (.string ⟨#[97, 226, 130, 172]⟩) ∧ Below (w.alloc (.cells #[.int .i32 97, .int .i32 8364] 21)).heap.size (w.alloc (.cells #[.int .i32 97, .int .i32 8364] 21)) w' := by
  have hl : ListAt (w.alloc (.cells #[.int .i32 97, .int .i32 8364] 21)) (.slice (some ⟨w.heap.size, 0, none⟩) 2 2) [(97 : Int), 8364].length (i32s [97, 8364]) := by
    refine ⟨rfl, _, _, rfl, Nat.le_refl _, .inr ⟨_, _, rfl, by simp, fun j u hu => ?_⟩⟩
    have := newsL w 21 [.int .i32 97, .int .i32 8364] j u hu
    have e : (⟨w.heap.size, 0, none⟩ : Addr).add j = ⟨w.heap.size, 0 + j, none⟩ := by unfold Addr.add; split <;> simp_all
    rw [e] at this; exact this
  have h := text_any _ [97, 8364] _ hl (by decide) (by intro c hc; simp at hc; rcases hc with rfl | rfl <;> decide)
  have e1 : textS [97, 8364] = ⟨#[97, 226, 130, 172]⟩ := by kernel_rfl
  rw [e1] at h; exact h
theorem w_valid (w : World) (hT : Tabs w) : Calls Tryd.prog 15 #[.string ⟨#[97]⟩] w fun e w' => e = .returned (.bool true) ∧ Below w.heap.size w w' := by
  have h := valid_any ⟨#[97]⟩ w (by decide) hT
  have e1 : valB ⟨#[97]⟩ = true := by kernel_rfl
  rw [e1] at h; exact h
theorem w_wrong (w : World) (hT : Tabs w) : Calls Tryd.prog 15 #[.string ⟨#[255]⟩] w fun e w' => e = .returned (.bool false) ∧ Below w.heap.size w w' := by
  have h := valid_any ⟨#[255]⟩ w (by decide) hT
  have e1 : valB ⟨#[255]⟩ = false := by kernel_rfl
  rw [e1] at h; exact h

set_option maxRecDepth 100000 in
set_option maxHeartbeats 4000000 in
theorem works_any (w : World) (hT : Tabs w) : Calls Tryd.prog 11 #[] w fun e w' => e = .returned (.bool true) ∧ Below w.heap.size w w' := by
  have HT := Lib.hid hT
  clear hT
  go_enter Tryd.func11, Tryd.ntmps11
  go_wp2_with fail
  refine (w_pattern _).mono ?_
  rintro e w1 ⟨rfl, b1⟩
  go_wp2_with fail
  refine (w_count _).mono ?_
  rintro e w2 ⟨rfl, b2⟩
  have c2 := bt b1 b2
  go_wp2_with fail
  refine (w_cmp _ (HT.out.below c2)).mono ?_
  rintro e w3 ⟨rfl, b3⟩
  have c3 := bt c2 b3
  go_wp2_with fail
  refine (w_name _).mono ?_
  rintro e w4 ⟨rfl, b4⟩
  have c4 := bt c3 b4
  go_wp2_with fail
  refine (w_match _).mono ?_
  rintro e w5 ⟨rfl, b5⟩
  have c5 := bt c4 b5
  go_wp2_with fail
  refine (w_cut _).mono ?_
  rintro e w6 ⟨rfl, b6⟩
  have c6 := bt c5 b6
  go_wp2_with fail
  refine (w_points _).mono ?_
  rintro e w7 ⟨a, c, rfl, b7⟩
  have c7 := bt c6 b7
  go_wp2_with fail
  refine (w_text _).mono ?_
  rintro e w8 ⟨rfl, b8⟩
  have c8 := bt (c7.alloc c7.size _) b8
  go_wp2_with fail
  refine (w_valid _ (HT.out.below c8)).mono ?_
  rintro e w9 ⟨rfl, b9⟩
  have c9 := bt c8 b9
  go_wp2_with fail
  refine (w_wrong _ (HT.out.below c9)).mono ?_
  rintro e w10 ⟨rfl, b10⟩
  have c10 := bt c9 b10
  clear b1 b2 b3 b4 b5 b6 b7 b8 b9 b10 c2 c3 c4 c5 c6 c7 c8 c9
  go_wp2
  go_ret
  exact ⟨rfl, c10⟩
end Go.Proofs.YthkkphfnfggpaaaDoor
