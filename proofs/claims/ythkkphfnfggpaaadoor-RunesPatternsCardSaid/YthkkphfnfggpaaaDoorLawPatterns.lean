/- The law on patterns: the walk. -/
import Derived.Test.YthkkphfnfggpaaaDoorWorks
import Derived.Test.YthkkphfnfggpaaaDoorRMatch
namespace Go.Proofs.YthkkphfnfggpaaaDoor
open Go.RowKit

set_option maxRecDepth 100000 in
set_option maxHeartbeats 4000000 in
theorem law_patterns (p s : ByteArray) (w : World) (hp : p.size ≤ 9223372036854775807) (hs : s.size ≤ 9223372036854775807) (hT : Tabs w) :
    Calls Tryd.prog 7 #[.string p, .string s] w fun e w' => e = .returned (.bool true) ∧ Below w.heap.size w w' := by
  have HT := Lib.hid hT
  clear hT
  by_cases hb : 200 < p.size
  · have hbi : (200 : Int) < (p.size : Int) := by omega
    go_enter Tryd.func7, Tryd.ntmps7
    go_wp2_with fail
    refine (works_any _ HT.out).mono ?_
    rintro e w1 ⟨rfl, b1⟩
    go_wp2
    go_ret
    exact ⟨rfl, b1⟩
  by_cases hb2 : 200 < s.size
  · have hbi : ¬ (200 : Int) < (p.size : Int) := by omega
    have hbi2 : (200 : Int) < (s.size : Int) := by omega
    go_enter Tryd.func7, Tryd.ntmps7
    go_wp2_with fail
    refine (works_any _ HT.out).mono ?_
    rintro e w1 ⟨rfl, b1⟩
    go_wp2
    go_ret
    exact ⟨rfl, b1⟩
  have hbi : ¬ (200 : Int) < (p.size : Int) := by omega
  have hbi2 : ¬ (200 : Int) < (s.size : Int) := by omega
  go_enter Tryd.func7, Tryd.ntmps7
  go_wp2_with fail
  refine (works_any _ HT.out).mono ?_
  rintro e w1 ⟨rfl, b1⟩
  go_wp2_with fail
  refine (pattern_any p _ (by omega)).mono ?_
  rintro e w2 ⟨rfl, b2⟩
  have c2 := bt b1 b2
  clear b1 b2
  go_wp2_with fail
  refine (refPattern p _ (by omega)).mono ?_
  rintro e w3 ⟨rfl, b3⟩
  have c3 := bt c2 b3
  clear c2 b3
  go_wp2_with fail
  refine (match_any p s _ (by omega) (by omega)).mono ?_
  rintro e w4 ⟨rfl, b4⟩
  have c4 := bt c3 b4
  clear c3 b4
  go_wp2_with fail
  refine (refMatch p s _ (by omega) (by omega)).mono ?_
  rintro e w5 ⟨rfl, b5⟩
  have c5 := bt c4 b5
  clear c4 b5
  generalize patE p = pe at *
  generalize patK p = pk at *
  generalize matchB p s = mb at *
  have he : (pe == pe) = true := by simp
  have hk : (pk == pk) = true := by simp
  have hm : (mb == mb) = true := by simp
  go_wp2
  go_ret
  exact ⟨ret_bool (by simp), c5⟩
end Go.Proofs.YthkkphfnfggpaaaDoor
