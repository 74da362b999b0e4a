/- The law on checks: the walk. -/
import Derived.Test.YtafpbnkkhgmicaaWorks
namespace Go.Proofs.Ytafpbnkkhgmicaa
open Go.RowKit

set_option maxHeartbeats 1000000 in
theorem law_sums (b : ByteArray) (w : World) (hb : b.size ≤ 9223372036854775807) :
    Calls Try.prog 3 #[.string b] w fun e w' => e = .returned (.bool true) ∧ Below w.heap.size w w' := by
  by_cases h : 4096 < b.size
  · have hi : (4096 : Int) < (b.size : Int) := by omega
    go_enter Try.func3, Try.ntmps3
    go_wp2_with fail
    refine (works_any _).mono ?_
    rintro e w1 ⟨rfl, b1⟩
    go_wp2
    go_ret
    exact ⟨rfl, b1⟩
  · have hi : ¬ (4096 : Int) < (b.size : Int) := by omega
    have h1 := fun w' => Sum_any b w' hb
    have h2 := fun w' => refSum_any b w' (by omega)
    generalize sumL (bs b) = S at *
    go_enter Try.func3, Try.ntmps3
    go_wp2_with fail
    refine (works_any _).mono ?_
    rintro e w1 ⟨rfl, b1⟩
    go_wp2_with fail
    refine (h1 _).mono ?_
    rintro e w2 ⟨rfl, b2⟩
    go_wp2_with fail
    refine (h2 _).mono ?_
    rintro e w3 ⟨rfl, rfl⟩
    go_wp2
    go_ret
    exact ⟨ret_bool (by first | rfl | simp), bw b1 b2⟩
end Go.Proofs.Ytafpbnkkhgmicaa
