/- The law on names: the walk. -/
import Derived.Test.YthkkphfnfggpaaaDoorWorks
namespace Go.Proofs.YthkkphfnfggpaaaDoor
open Go.RowKit

set_option maxHeartbeats 4000000 in
theorem law_names (s : ByteArray) (w : World) (hs : s.size ≤ 9223372036854775807) (hT : Tabs w) :
    Calls Tryd.prog 6 #[.string s] w fun e w' => e = .returned (.bool true) ∧ Below w.heap.size w w' := by
  have HT := Lib.hid hT
  clear hT
  by_cases hb : 4096 < s.size
  · have hbi : (4096 : Int) < (s.size : Int) := by omega
    go_enter Tryd.func6, Tryd.ntmps6
    go_wp2_with fail
    refine (works_any _ HT.out).mono ?_
    rintro e w1 ⟨rfl, b1⟩
    go_wp2
    go_ret
    exact ⟨rfl, b1⟩
  · have hbi : ¬ (4096 : Int) < (s.size : Int) := by omega
    go_enter Tryd.func6, Tryd.ntmps6
    go_wp2_with fail
    refine (works_any _ HT.out).mono ?_
    rintro e w1 ⟨rfl, b1⟩
    go_wp2_with fail
    refine (name_any s _ (by omega)).mono ?_
    rintro e w2 ⟨rfl, b2⟩
    have c2 := bt b1 b2
    clear b1 b2
    go_wp2_with fail
    refine (refName_any s _ (by omega)).mono ?_
    rintro e w3 ⟨rfl, b3⟩
    have c3 := bt c2 b3
    clear c2 b3
    generalize nameL (pts s) = x at *
    go_wp2
    go_ret
    exact ⟨ret_bool (by simp), c3⟩
end Go.Proofs.YthkkphfnfggpaaaDoor
