/- Points, Valid, Cut of the reference; Points, Cut of the code. -/
import Derived.Test.YthkkphfnfggpaaaDoorKit
namespace Go.Proofs.YthkkphfnfggpaaaDoor
open Go.RowKit

set_option maxHeartbeats 1000000 in
theorem refPoints_any (s : ByteArray) (w : World) (hs : s.size ≤ 1099511627776) :
    Calls Tryd.prog 13 #[.string s] w fun e w' => ∃ v, e = .returned v ∧ w'.ownsRow w.heap.size 21 1 v (pts s).length (i32s (pts s)) ∧ Below w.heap.size w w' := by
  obtain ⟨i0, hi, hz0, hz1, hz2⟩ := info_parts info_i32
  go_enter Tryd.func13, Tryd.ntmps13
  go_wp2
  go_loopw [3, 4] (fun v i wr => ∃ (p : Nat) (xs : List Int), p ≤ s.size ∧ i = .int .i64 p ∧ xs ++ ptsAt s p = pts s ∧ wr.ownsRow w.heap.size 21 1 v xs.length (i32s xs) ∧ Below w.heap.size w wr)
    (fun _ i _ => s.size - (intOf i).toNat)
  case atStart => exact ⟨0, [], by omega, rfl, rfl, World.ownsRow_nil _ _ _ _, Below.refl _ _⟩
  case round =>
    obtain ⟨p, xs, hp, rfl, hx, hown, hb⟩ := hrel
    have hl := pts_len s
    have hxl : xs.length ≤ s.size := by rw [← hx] at hl; simp at hl; omega
    have HX := Lib.hid hx
    clear hx hl
    by_cases hlt : p < s.size
    · have hw := Lib.decode_width_pos s p hlt
      have hz := size_le_dec s p hlt
      have hst := ptsAt_step s p hlt
      have HS := Lib.hid hst
      have hxl2 : xs.length + 1 ≤ s.size := by
        have := HX.out; rw [hst] at this; have l := pts_len s; rw [← this] at l; simp at l; omega
      clear hst
      go_wp2_with (first
        | (go_at_call 30; refine (piece_any s p _ hs hlt).mono ?_; rintro e w' ⟨rfl, rfl⟩)
        | (at_builtin; refine wpList_append_own _ rfl _ _ 22 rfl w.heap.size 21 i0 (.int .i32 0) 1 4 Tryd.underlying22 hi hz0 hz1 hz2 rfl (by decide) _ _ _ rfl (hown.alloc _) ⟨wr.heap.size, 0, none⟩ 1 1 [.int .i32 (Utf8.decode s p).1] rfl rfl ?c1 ?c2 ?c3 ?c4 ?c5 ?_))
      case c1 =>
        intro j u hj
        match j, hj with
        | 0, hj => simp at hj; subst hj; simp [Addr.add]
      case c2 => intro u hu; simp at hu; subst hu; rfl
      case c3 => unfold maxLen; omega
      case c4 => omega
      case c5 => have := hb.size; simp; omega
      intro v' w1 hown' hgrow _
      have hb1 : Below w.heap.size w w1 := (hb.alloc hb.size _).grown hgrow (by have := hb.size; simp; omega) (fun k hk => (hown.lt k hk).1)
      clear hown hgrow hb
      go_wp2
      go_roundw
      case rel => exact ⟨p + (Utf8.decode s p).2, xs ++ [((Utf8.decode s p).1 : Int)], by omega, by go_num, by rw [List.append_assoc, List.singleton_append, ← HS.out]; exact HX.out, by simpa using hown', hb1⟩
      case measure => simp [intOf]; omega
    · have he := ptsAt_end s p hlt
      have HS := Lib.hid he
      clear he
      go_wp2
      go_ret
      refine ⟨_, rfl, ?_, hb⟩
      have : xs = pts s := by rw [← HX.out, HS.out]; simp
      rw [← this]; exact hown
end Go.Proofs.YthkkphfnfggpaaaDoor
