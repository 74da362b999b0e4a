/- Valid and Cut of both sides; Points of the code. -/
import Derived.Test.YthkkphfnfggpaaaDoorPoints
import Derived.Lib.TrimUEq
import Derived.Lib.ValidLaws
import Derived.Lib.RuneCountTail
namespace Go.Proofs.YthkkphfnfggpaaaDoor
open Go.RowKit

/-- are all pieces from a place on code points'? -/
def valAt (s : ByteArray) (p : Nat) : Bool := Lib.validD (s.data.toList.drop p)
def valB (s : ByteArray) : Bool := valAt s 0
theorem okAt_iff (s : ByteArray) (p : Nat) : okAt s p = true ↔ ¬ ((Utf8.decode s p).1 = 65533 ∧ (Utf8.decode s p).2 = 1) := by
  have hb := byt_bd s p
  unfold okAt
  rw [decide_eq_true_iff]
  by_cases c1 : byt s p < 128
  · rw [dec_low s p c1]; simp [c1]; omega
  by_cases c2 : byt s p < 192 ∨ 248 ≤ byt s p
  · rw [dec_none s p (by omega) c2]; simp; omega
  by_cases c3 : byt s p < 224
  · by_cases hw : wholeP s p 2 (byt s p - 192) 128
    · rw [(dec_2 s p (by omega) c3).1 hw]; simp
    · rw [(dec_2 s p (by omega) c3).2 hw]; simp; omega
  by_cases c4 : byt s p < 240
  · by_cases hw : wholeP s p 3 (byt s p - 224) 2048
    · rw [(dec_3 s p (by omega) c4).1 hw]; simp
    · rw [(dec_3 s p (by omega) c4).2 hw]; simp; omega
  · by_cases hw : wholeP s p 4 (byt s p - 240) 65536
    · rw [(dec_4 s p (by omega) (by omega)).1 hw]; simp
    · rw [(dec_4 s p (by omega) (by omega)).2 hw]; simp; omega
theorem valAt_end (s : ByteArray) (p : Nat) (h : ¬ p < s.size) : valAt s p = true := by
  unfold valAt
  rw [List.drop_eq_nil_of_le (by rw [← Lib.size_eq]; omega)]; rfl
theorem valAt_step (s : ByteArray) (p : Nat) (h : p < s.size) : valAt s p = (okAt s p && valAt s (p + (Utf8.decode s p).2)) := by
  unfold valAt
  rw [Lib.validD_step _ (by intro e; have := congrArg List.length e; rw [List.length_drop, ← Lib.size_eq] at this; simp at this; omega), Lib.decodeL_drop, List.drop_drop]
  have := okAt_iff s p
  cases ho : okAt s p
  · rw [ho] at this; rw [if_pos (by simpa using this)]; simp
  · rw [if_neg (this.1 ho)]; simp
/-- the place behind so many pieces -/
def skipP (s : ByteArray) : Nat → Nat → Nat
  | 0, p => p
  | k + 1, p => if p < s.size then skipP s k (p + (Utf8.decode s p).2) else p
def cutS (s : ByteArray) (n : Int) : ByteArray := s.extract 0 (skipP s n.toNat 0)
theorem skipP_end (s : ByteArray) (k p : Nat) (h : ¬ p < s.size) : skipP s k p = p := by cases k <;> simp [skipP, h]

set_option maxHeartbeats 1000000 in
theorem refValid_any (s : ByteArray) (w : World) (hs : s.size ≤ 1099511627776) :
    Calls Tryd.prog 16 #[.string s] w fun e w' => e = .returned (.bool (valB s)) ∧ w = w' := by
  go_enter Tryd.func16, Tryd.ntmps16
  go_wp2
  go_loop [3] (fun i => ∃ (p : Nat), p ≤ s.size ∧ i = .int .i64 p ∧ valAt s p = valB s) (fun i => s.size - (intOf i).toNat)
  case atStart => exact ⟨0, by omega, rfl, rfl⟩
  case round =>
    obtain ⟨p, hp, rfl, hx⟩ := hrel
    have HX := Lib.hid hx
    clear hx
    by_cases hlt : p < s.size
    · have hw := Lib.decode_width_pos s p hlt
      have hz := size_le_dec s p hlt
      have HS := Lib.hid (valAt_step s p hlt)
      cases ho : okAt s p
      · have HO := Lib.hid ho
        clear ho
        go_wp2_with (go_at_call 30; refine (piece_any s p _ hs hlt).mono ?_; rw [HO.out]; rintro e w' ⟨rfl, rfl⟩)
        go_ret
        exact ⟨ret_bool (by rw [← HX.out, HS.out, HO.out]; rfl), rfl⟩
      · have HO := Lib.hid ho
        clear ho
        go_wp2_with (go_at_call 30; refine (piece_any s p _ hs hlt).mono ?_; rw [HO.out]; rintro e w' ⟨rfl, rfl⟩)
        go_round
        case rel => exact ⟨p + (Utf8.decode s p).2, hz, by go_num, by rw [← HX.out, HS.out, HO.out]; simp⟩
        case measure => simp [intOf]; omega
    · have HS := Lib.hid (valAt_end s p hlt)
      go_wp2
      go_ret
      exact ⟨ret_bool (by rw [← HX.out, HS.out]), rfl⟩

set_option maxHeartbeats 1000000 in
theorem refCut_any (s : ByteArray) (n : Int) (w : World) (hs : s.size ≤ 1099511627776) (hn : n ≤ 9223372036854775807) :
    Calls Tryd.prog 19 #[.string s, .int .i64 n] w fun e w' => e = .returned (.string (cutS s n)) ∧ w = w' := by
  go_enter Tryd.func19, Tryd.ntmps19
  go_wp2
  go_loop [5, 6] (fun at' i => ∃ (k p : Nat), p ≤ s.size ∧ k ≤ p ∧ (k : Int) ≤ max n 0 ∧ i = .int .i64 k ∧ at' = .int .i64 p ∧ skipP s (n.toNat - k) p = skipP s n.toNat 0) (fun at' _ => s.size - (intOf at').toNat)
  case atStart => exact ⟨0, 0, by omega, by omega, by omega, rfl, rfl, rfl⟩
  case round =>
    obtain ⟨k, p, hp, hkp, hkn, rfl, rfl, hx⟩ := hrel
    have HX := Lib.hid hx
    clear hx
    by_cases hk : (k : Int) < n
    · by_cases hlt : p < s.size
      · have hw := Lib.decode_width_pos s p hlt
        have hz := size_le_dec s p hlt
        have HS : Hid (skipP s (n.toNat - (k + 1)) (p + (Utf8.decode s p).2) = skipP s (n.toNat - k) p) := by
          show _ = _
          rw [show n.toNat - k = (n.toNat - (k + 1)) + 1 from by omega, skipP, if_pos hlt]
        go_wp2_with (go_at_call 30; refine (piece_any s p _ hs hlt).mono ?_; rintro e w' ⟨rfl, rfl⟩)
        go_round
        case rel => exact ⟨k + 1, p + (Utf8.decode s p).2, hz, by omega, by omega, by go_num, by go_num, by rw [HS.out]; exact HX.out⟩
        case measure => simp [intOf]; omega
      · have HS := Lib.hid (skipP_end s (n.toNat - k) p hlt)
        go_wp2
        go_ret
        exact ⟨by unfold cutS; rw [← HX.out, HS.out]; rfl, rfl⟩
    · have HS : Hid (n.toNat - k = 0) := by show _ = _; omega
      go_wp2
      go_ret
      exact ⟨by unfold cutS; rw [← HX.out, HS.out]; rfl, rfl⟩

set_option maxHeartbeats 1000000 in
theorem cut_any (s : ByteArray) (n : Int) (w : World) (hs : s.size ≤ 1099511627776) (hn : n ≤ 9223372036854775807) :
    Calls Tryd.prog 18 #[.string s, .int .i64 n] w fun e w' => e = .returned (.string (cutS s n)) ∧ Below w.heap.size w w' := by
  by_cases h1 : n < 1
  · have HS : Hid (cutS s n = ⟨#[]⟩) := by
      show _ = _
      unfold cutS; rw [show n.toNat = 0 from by omega]; simp [skipP]; rfl
    go_enter Tryd.func18, Tryd.ntmps18
    go_wp2
    go_ret
    exact ⟨by rw [HS.out]; rfl, Below.refl _ _⟩
  · go_enter Tryd.func18, Tryd.ntmps18
    go_wp2
    go_loopg [1] s.size (fun g n' wx => ∃ m p : Nat, p ≤ s.size ∧ s.size - p ≤ g ∧ (m : Int) ≤ n ∧ n' = .int .i64 m ∧ wx = w.iter s p ∧ skipP s m p = skipP s n.toNat 0)
    case atStart => exact ⟨n.toNat, 0, by omega, by omega, by omega, by rw [Int.toNat_of_nonneg (by omega)], rfl, rfl⟩
    case round =>
      obtain ⟨m, p, hp, hg, hm, rfl, rfl, hx⟩ := hrel
      have HX := Lib.hid hx
      clear hx
      by_cases hlt : p < s.size
      · have hw := Lib.decode_width_pos s p hlt
        have hz := size_le_dec s p hlt
        have hnx := fun ty => run_next_any (P := Tryd.prog) w s p ty hlt
        by_cases hm0 : m = 0
        · subst hm0
          go_wp2
          go_ret
          exact ⟨by unfold cutS; rw [← HX.out]; rfl, (Below.refl _ _).alloc (Nat.le_refl _) _⟩
        · have HS : Hid (skipP s (m - 1) (p + (Utf8.decode s p).2) = skipP s m p) := by
            show _ = _
            obtain ⟨q, rfl⟩ : ∃ q, m = q + 1 := ⟨m - 1, by omega⟩
            simp [skipP, hlt]
          have hmf : ((m : Int) == 0) = false := by rw [beq_eq_false_iff_ne]; omega
          go_wp2
          go_roundg (gk - 1)
          case measure => omega
          case rel => exact ⟨m - 1, p + (Utf8.decode s p).2, hz, by omega, by omega, by rw [show ((m - 1 : Nat) : Int) = (m : Int) - 1 from by omega], rfl, by rw [HS.out]; exact HX.out⟩
      · have hnx := run_next_end (P := Tryd.prog) w s p
        have HS := Lib.hid (skipP_end s m p hlt)
        have hps : p = s.size := by omega
        subst hps
        go_wp2
        go_ret
        exact ⟨by unfold cutS; rw [← HX.out, HS.out]; simp, (Below.refl _ _).alloc (Nat.le_refl _) _⟩

set_option maxHeartbeats 2000000 in
theorem points_any (s : ByteArray) (w : World) (hs : s.size ≤ 1099511627776) :
    Calls Tryd.prog 12 #[.string s] w fun e w' => ∃ v, e = .returned v ∧ w'.ownsRow w.heap.size 21 1 v (pts s).length (i32s (pts s)) ∧ Below w.heap.size w w' := by
  obtain ⟨i0, hi, hz0, hz1, hz2⟩ := info_parts info_i32
  have hl := pts_len s
  go_enter Tryd.func12, Tryd.ntmps12
  go_wp2_with fail
  refine (count_any s _ hs).mono ?_
  rintro e w1 ⟨rfl, hb⟩
  go_wp2_with (at_make; go_loud (refine wpList_make_own _ rfl _ _ 22 rfl w.heap.size 21 i0 (.int .i32 0) 1 Tryd.underlying22 hi hz0 hz1 .i64 .i64 _ (pts s).length rfl rfl (by omega) (by rw [hz2]; omega) (by unfold maxLen; omega) hb.size ?_); intro w0 hown0 hgrow0)
  have hb0 : Below w.heap.size w w0 := hb.grown hgrow0 hb.size (fun k h => by cases h)
  clear hgrow0 hb
  generalize Value.slice (some ⟨w1.heap.size, 0, none⟩) 0 (pts s).length = v0 at *
  go_wp2
  go_loopg [3] s.size (fun g v wr => ∃ (p : Nat) (xs : List Int), p ≤ s.size ∧ s.size - p ≤ g ∧ xs ++ ptsAt s p = pts s ∧ wr.ownsRow w.heap.size 21 1 v xs.length (i32s xs) ∧ wr.heap[w0.heap.size]? = some (.stringIter s p) ∧ Below w.heap.size w wr)
  case atStart => exact ⟨0, [], by omega, by omega, rfl, hown0.alloc _, World.iter_heap _ _ _, hb0.alloc hb0.size _⟩
  case round =>
    obtain ⟨p, xs, hp, hg, hx, hown, hit, hb⟩ := hrel
    have hB := hb0.size
    have hxl : xs.length ≤ s.size := by rw [← hx] at hl; simp at hl; omega
    have HX := Lib.hid hx
    clear hx hl hb0 hown0
    by_cases hlt : p < s.size
    · have hw := Lib.decode_width_pos s p hlt
      have hz := size_le_dec s p hlt
      have hst := ptsAt_step s p hlt
      have HS := Lib.hid hst
      have hxl2 : xs.length + 1 ≤ s.size := by
        have := HX.out; rw [hst] at this; have l := pts_len s; rw [← this] at l; simp at l; omega
      clear hst
      have hnx := fun ty => Lib.run_next_any_at (P := Tryd.prog) wr w0.heap.size s p ty hit hlt
      have hownI := own_iterAt hown hit (p + (Utf8.decode s p).2)
      have hitI := Lib.iterAt_heap wr w0.heap.size s p (p + (Utf8.decode s p).2) hit
      have hbI := Lib.below_iterAt hb hB s (p + (Utf8.decode s p).2)
      have HI := Lib.hid hitI
      clear hitI hown hb
      generalize hwi : wr.iterAt w0.heap.size s (p + (Utf8.decode s p).2) = wi at *
      clear hit hwi
      go_wp2_with (at_builtin; go_loud (refine wpList_append_own _ rfl _ _ 22 rfl w.heap.size 21 i0 (.int .i32 0) 1 4 Tryd.underlying22 hi hz0 hz1 hz2 rfl (by decide) _ _ _ rfl (hownI.alloc _) ⟨wi.heap.size, 0, none⟩ 1 1 [.int .i32 (Utf8.decode s p).1] rfl rfl ?c1 ?c2 ?c3 ?c4 ?c5 ?_))
      case c1 =>
        intro j u hj
        match j, hj with
        | 0, hj => simp at hj; subst hj; simp [Addr.add]
      case c2 => intro u hu; simp at hu; subst hu; rfl
      case c3 => unfold maxLen; omega
      case c4 => omega
      case c5 => have := hbI.size; simp; omega
      intro v' w2 hown' hgrow _
      have hb1 : Below w.heap.size w w2 := (hbI.alloc hbI.size _).grown hgrow (by have := hbI.size; simp; omega) (fun k hk => (hownI.lt k hk).1)
      have HI2 := Lib.hid (iter_grown hownI HI.out hgrow)
      clear hownI hgrow hbI hnx
      go_wp2
      go_roundg (gk - 1)
      case measure => omega
      case rel => exact ⟨p + (Utf8.decode s p).2, xs ++ [((Utf8.decode s p).1 : Int)], by omega, by omega, by rw [List.append_assoc, List.singleton_append, ← HS.out]; exact HX.out, by simpa using hown', HI2.out, hb1⟩
    · have hnx := fun ty => Lib.run_next_end_at (P := Tryd.prog) wr w0.heap.size s p ty hit hlt
      have HS := Lib.hid (ptsAt_end s p hlt)
      clear hit
      go_wp2
      go_ret
      refine ⟨_, rfl, ?_, hb⟩
      have : xs = pts s := by rw [← HX.out, HS.out]; simp
      rw [← this]; exact hown
end Go.Proofs.YthkkphfnfggpaaaDoor
