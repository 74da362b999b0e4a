/- What writes numbers behind a slice of bytes; how integers are numbers. -/
import Derived.Test.YtkcmcgmonkeajaaChecked
import Derived.Test.YtkcmcgmonkeajaaBuf
import Derived.Test.YtkcmcgmonkeajaaNum
import Derived.WalkKit
import Derived.WalkSpells
import Derived.WalkLawsBesides
import Derived.IntWalk
import Derived.Laws.Bits64b
import Derived.Lib.Zigzag
import Derived.Outline
namespace Go.Proofs.Ytkcmcgmonkeajaa
open Go.RowKit

theorem info_u8 : (Try.prog.info? 5).map (fun i => (i.zero, i.size, i.bytes)) = some (some (.int .u8 0), 1, 1) := by kernel_rfl
theorem u64_or1 (x : Nat) (hx : 2 * x < 18446744073709551616) : bits .or .u64 ((2 * x : Nat) : Int) 1 = ((2 * x + 1 : Nat) : Int) := by
  have h := u64_or_nat (2 * x) 1 hx (by decide)
  rw [show ((1 : Nat) : Int) = 1 from rfl] at h
  rw [h]
  congr 1
  have e := Nat.two_pow_add_eq_or_of_lt (i := 1) (b := 1) (by decide) x
  rw [show 2 ^ 1 = 2 from rfl] at e
  omega

theorem ret_int {k : IntKind} {a b : Int} (h : a = b) : Ending.returned (.int k a) = .returned (.int k b) := by rw [h]
theorem not_u64 (n : Int) (h0 : -9223372036854775808 ≤ n) (hn : n < 0) : bits .xor .u64 IntKind.u64.max (IntKind.u64.wrap n) = ((-n - 1).toNat : Nat) := by
  have e1 : IntKind.u64.wrap n = (((n + 18446744073709551616).toNat : Nat) : Int) := by rw [IntKind.wrap_u64]; omega
  have e2 : IntKind.u64.max = ((2 ^ 64 - 1 : Nat) : Int) := by decide
  rw [e1, e2, bits_xor_u64_nat _ _ (by decide) (by omega), Lib.xor_ones64 _ (by omega)]
  omega
set_option maxHeartbeats 1000000 in
theorem fold_any (n : Int) (w : World) (h0 : -9223372036854775808 ≤ n) (h1 : n ≤ 9223372036854775807) :
    Calls Try.prog 62 #[.int .i64 n] w fun e w' => e = .returned (.int .u64 (Lib.zigzag n : Nat)) ∧ w = w' := by
  by_cases hn : n < 0
  · go_enter Try.func62, Try.ntmps62
    go_wp2
    go_ret
    refine ⟨ret_int ?_, rfl⟩
    rw [not_u64 n h0 hn, IntWalk.u64_in _ ⟨by omega, by omega⟩]
    have := u64_or1 (-n - 1).toNat (by omega)
    rw [show (((-n - 1).toNat : Nat) : Int) * 2 = ((2 * (-n - 1).toNat : Nat) : Int) by omega, this]
    unfold Lib.zigzag
    rw [if_neg (by omega)]; omega
  · go_enter Try.func62, Try.ntmps62
    go_wp2
    go_ret
    exact ⟨ret_int (Lib.zigzag_nonneg (by omega)).symm, rfl⟩
set_option maxHeartbeats 1000000 in
theorem unfold_any (n : Nat) (w : World) (h1 : n < 18446744073709551616) :
    Calls Try.prog 63 #[.int .u64 n] w fun e w' => e = .returned (.int .i64 (Lib.unzigzag n)) ∧ w = w' := by
  have ha := Lib.u64_and1 (n : Int) (by omega) (by omega)
  by_cases h : n % 2 = 1
  · have hb : (bits .and .u64 (n : Int) 1 == 1) = true := by rw [ha]; simp; omega
    clear ha
    go_enter Try.func63, Try.ntmps63
    go_wp2
    go_ret
    refine ⟨ret_int ?_, rfl⟩
    rw [show ((n : Int) / 2) = ((n / 2 : Nat) : Int) by omega, Lib.i64_not _ (by omega)]
    unfold Lib.unzigzag
    rw [if_neg (by omega)]
  · have hb : (bits .and .u64 (n : Int) 1 == 1) = false := by rw [ha]; simp; omega
    clear ha
    go_enter Try.func63, Try.ntmps63
    go_wp2
    go_ret
    refine ⟨ret_int ?_, rfl⟩
    unfold Lib.unzigzag
    rw [if_pos (by omega)]
    omega

set_option maxHeartbeats 4000000 in
set_option maxRecDepth 100000 in
theorem writeNumber_any (B : Nat) (v : Value) (bs : List UInt8) (x : Nat) (w : World) (hx : x < 18446744073709551616) (hv : Buf B w v bs) (hB : B ≤ w.heap.size) (hlim : bs.length + 10 ≤ 140737488355328) :
    Calls Try.prog 39 #[v, .int .u64 x] w fun e w' => ∃ v', e = .returned v' ∧ Buf B w' v' (bs ++ Lib.uvarint x) ∧ Below B w w' := by
  obtain ⟨i0, hi, hz0, hz1, hz2⟩ := info_parts info_u8
  have hlen := Lib.uvarint_length64 hx
  go_enter Try.func39, Try.ntmps39
  go_wp2
  go_loopw [0, 1] (fun vb vx wr => ∃ (y : Nat) (pre : List UInt8), vx = .int .u64 y ∧ y ≤ x ∧ Lib.uvarint x = pre ++ Lib.uvarint y ∧ Buf B wr vb (bs ++ pre) ∧ Below B w wr)
    (fun _ vx _ => (intOf vx).toNat)
  case atStart => exact ⟨x, [], rfl, Nat.le_refl _, rfl, by simpa using hv, Below.refl _ _⟩
  case round =>
    obtain ⟨y, pre, rfl, hy, hsplit, hb1, hbel⟩ := hrel
    have hpl : pre.length + (Lib.uvarint y).length ≤ 10 := by
      have h2 := congrArg List.length hsplit
      rw [List.length_append] at h2
      omega
    have hyp := Lib.uvarint_pos y
    have hBw := hbel.size
    have HS := Lib.hid hsplit
    clear hsplit
    by_cases h128 : 128 ≤ y
    · have hand : bits .and .u64 (y : Int) 127 = ((y % 128 : Nat) : Int) := by
        have := bits_mask .u64 64 (by decide) (fun n h0 h1 => IntWalk.u64_in n ⟨h0, by omega⟩) 7 (by decide) (y : Int) (by omega) (by omega)
        rw [show (127 : Int) = 2 ^ 7 - 1 by decide, this]; omega
      have hor : bits .or .u8 (((y % 128 : Nat) : Int)) 128 = ((y % 128 + 128 : Nat) : Int) := by
        rw [Lib.u8_or128_any _ (by omega) (by omega)]
        omega
      generalize hz : y % 128 = z at *
      have hzl : z < 128 := by omega
      obtain ⟨zb, hzb⟩ : ∃ zb : UInt8, zb = (z + 128).toUInt8 := ⟨_, rfl⟩
      have HZ : Hid (Lib.uvarint y = zb :: Lib.uvarint (y / 128)) := by
        show _ = _
        rw [hzb, ← hz]; exact Lib.uvarint_big h128
      have hzn : ((z + 128 : Nat) : Int) = zb.toNat := by rw [hzb, Lib.toUInt8_toNat (by omega)]
      have HN := Lib.hid hzn
      clear hz hzb hzn
      go_wp2_with (at_builtin; refine wpList_append_buf _ rfl _ _ 59 59 rfl 5 i0 Try.underlying59 hi hz0 hz1 hz2 B _ _ rfl (hb1.alloc _) _ rfl [zb] (src_one Try.underlying59 _ _ _ _ _ HN.out) (by simp; omega) (by simp; omega) ?_)
      intro v' w1 hb2 hbel2
      have hbel3 := (hbel.alloc (by omega) _).trans hbel2
      clear hb1 hbel hbel2
      go_wp2
      go_roundw
      case rel => exact ⟨y / 128, pre ++ [zb], by go_num, by omega, by rw [HS.out, HZ.out]; simp, by simpa using hb2, hbel3⟩
      case measure => simp [intOf]; omega
    · obtain ⟨zb, hzb⟩ : ∃ zb : UInt8, zb = y.toUInt8 := ⟨_, rfl⟩
      have HZ : Hid (Lib.uvarint y = [zb]) := by
        show _ = _
        rw [hzb]; exact Lib.uvarint_small (by omega)
      have hzn : (y : Int) = zb.toNat := by rw [hzb, Lib.toUInt8_toNat (by omega)]
      have HN := Lib.hid hzn
      clear hzb hzn
      go_wp2_with (at_builtin; refine wpList_append_buf _ rfl _ _ 59 59 rfl 5 i0 Try.underlying59 hi hz0 hz1 hz2 B _ _ rfl (hb1.alloc _) _ rfl [zb] (src_one Try.underlying59 _ _ _ _ _ HN.out) (by simp; omega) (by simp; omega) ?_)
      intro v' w1 hb2 hbel2
      have hbel3 := (hbel.alloc (by omega) _).trans hbel2
      clear hb1 hbel hbel2
      go_wp2
      go_ret
      exact ⟨v', rfl, by rw [HS.out, HZ.out]; simpa using hb2, hbel3⟩
end Go.Proofs.Ytkcmcgmonkeajaa
