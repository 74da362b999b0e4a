/- The reference's item of one code point. -/
import Derived.Test.YthkkphfnfggpaaaDoorWorks
namespace Go.Proofs.YthkkphfnfggpaaaDoor
open Go.RowKit

/-- a row of one number, new -/
theorem own_one (w : World) (B n : Nat) (c : Int) (hB : B ≤ w.heap.size) (hn : n = w.heap.size) : (w.alloc (.cells #[.int .i32 c] 21)).ownsRow B 21 1 (.slice (some ⟨n, 0, none⟩) 1 1) 1 [.int .i32 c] := by
  subst hn
  exact World.ownsRow_lit w #[.int .i32 c] 1 hB (by unfold maxLen; omega) rfl
theorem alloc_size (w : World) (o : Obj) : (w.alloc o).heap.size = w.heap.size + 1 := Array.size_push _
set_option maxRecDepth 100000 in
set_option maxHeartbeats 4000000 in
theorem one_any (x : Int) (w : World) :
    Calls Tryd.prog 51 #[.int .i32 x] w fun e w' => ∃ lo hi, e = .returned (.agg #[.bool false, .bool false, lo, hi]) ∧ w'.ownsRow w.heap.size 21 1 lo 1 [.int .i32 x] ∧ w'.ownsRow w.heap.size 21 1 hi 1 [.int .i32 x] ∧ Below w.heap.size w w' := by
  go_enter Tryd.func51, Tryd.ntmps51
  go_wp2
  refine bodyPost_ret (v := .agg #[.bool false, .bool false, .slice (some ⟨w.heap.size + 1, 0, none⟩) 1 1, .slice (some ⟨w.heap.size + 1 + 1, 0, none⟩) 1 1]) ?_ rfl ?_
  · simp [results, Tryd.results51, go_sem]
  · refine ⟨_, _, rfl, ?_, ?_, ?_⟩
    · exact (own_one (w.alloc _) w.heap.size _ x (by rw [alloc_size]; omega) (by rw [alloc_size])).alloc _
    · exact own_one ((w.alloc _).alloc _) w.heap.size _ x (by rw [alloc_size, alloc_size]; omega) (by rw [alloc_size, alloc_size])
    · exact (((Below.refl _ _).alloc (Nat.le_refl _) _).alloc (by rw [alloc_size]; omega) _).alloc (by rw [alloc_size, alloc_size]; omega) _
end Go.Proofs.YthkkphfnfggpaaaDoor
