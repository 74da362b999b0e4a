/- Count. -/
import Derived.Test.YthkkphfnfggpaaaDoorChecked
import Derived.Test.YthkkphfnfggpaaaDoorPlain
import Derived.WalkSpells
import Derived.WalkLawsBesides
import Derived.Deep.LoopGhost
import Derived.Lib.Hide
namespace Go.Proofs.YthkkphfnfggpaaaDoor
open Go.RowKit
theorem ret_int {k : IntKind} {a b : Int} (h : a = b) : Ending.returned (.int k a) = .returned (.int k b) := by rw [h]
theorem ret_bool {a b : Bool} (h : a = b) : Ending.returned (.bool a) = .returned (.bool b) := by rw [h]
set_option maxHeartbeats 400000 in
theorem count_any (s : ByteArray) (w : World) (hs : s.size ≤ 1099511627776) :
    Calls Tryd.prog 17 #[.string s] w fun e w' => e = .returned (.int .i64 (pts s).length) ∧ Below w.heap.size w w' := by
  go_enter Tryd.func17, Tryd.ntmps17
  go_wp2
  go_loopg [3] s.size (fun g n wx => ∃ k p : Nat, k + (ptsAt s p).length = (pts s).length ∧ s.size - p ≤ g ∧ n = .int .i64 k ∧ wx = w.iter s p)
  case atStart => exact ⟨0, 0, by simp [pts], by omega, rfl, rfl⟩
  case round =>
    obtain ⟨k, p, h2, h3, rfl, rfl⟩ := hrel
    by_cases hp : p < s.size
    · have hw := Lib.decode_width_pos s p hp
      have hl := pts_len s
      have hnx := fun ty => run_next_any (P := Tryd.prog) w s p ty hp
      rw [ptsAt_step s p hp, List.length_cons] at h2
      have H2 := Lib.hid h2
      have h2' : k + 1 ≤ s.size := by omega
      clear h2
      go_wp2
      go_roundg (gk - 1)
      case measure => omega
      case rel => exact ⟨k + 1, p + (Utf8.decode s p).2, by have := H2.out; omega, by omega, by go_num, rfl⟩
    · have hnx := run_next_end (P := Tryd.prog) w s p
      rw [ptsAt_end s p hp] at h2
      obtain rfl : k = (pts s).length := by simpa using h2
      clear h2
      go_wp2
      go_ret
      exact ⟨rfl, (Below.refl _ _).alloc (Nat.le_refl _) _⟩
end Go.Proofs.YthkkphfnfggpaaaDoor
