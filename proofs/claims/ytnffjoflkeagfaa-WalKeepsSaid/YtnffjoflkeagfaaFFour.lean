/- Four bytes as a number, and a number as four bytes. -/
import Derived.Test.YtnffjoflkeagfaaFSumD
namespace Go.Proofs.Ytnffjoflkeagfaa.Fr
open Go.RowKit

theorem getD_byte (s : ByteArray) (k : Nat) (h : k < s.size) : (bs s).getD k 0 = s[k] := by
  have h2 : k < s.data.toList.length := by rw [← Lib.size_eq]; exact h
  simp only [List.getD, List.getElem?_eq_getElem h2, Option.getD_some]
  rfl
/-- the first k of them -/
def numP (l : List UInt8) : Nat → Nat
  | 0 => 0
  | k + 1 => numP l k + 256 ^ k * (l.getD k 0).toNat
theorem numP_four (l : List UInt8) : numP l 4 = num4 l := by
  unfold num4; simp only [numP]; omega
theorem numP_lt (l : List UInt8) : ∀ k, numP l k < 256 ^ k
  | 0 => by simp [numP]
  | k + 1 => by
    have := numP_lt l k
    have h := (l.getD k 0).toNat_lt
    simp only [numP, Nat.pow_succ]
    have : 256 ^ k * (l.getD k 0).toNat ≤ 256 ^ k * 255 := Nat.mul_le_mul_left _ (by omega)
    omega
theorem or_step (c k b : Nat) (hk : k < 4) (hc : c < 256 ^ k) (hb : b < 256) :
    bits .or .u32 (c : Int) ((b : Int) % 4294967296 * 2 ^ (8 * k) % 4294967296) = ((c + 256 ^ k * b : Nat) : Int) := by
  have e : (b : Int) % 4294967296 * 2 ^ (8 * k) % 4294967296 = ((256 ^ k * b : Nat) : Int) := by
    obtain rfl | rfl | rfl | rfl : k = 0 ∨ k = 1 ∨ k = 2 ∨ k = 3 := by omega
    all_goals (simp; omega)
  have hm : 256 ^ k * b < 4294967296 ∧ c < 4294967296 := by
    obtain rfl | rfl | rfl | rfl : k = 0 ∨ k = 1 ∨ k = 2 ∨ k = 3 := by omega
    all_goals (simp at hc ⊢; omega)
  rw [e, u32_or_nat _ _ hm.2 hm.1, Nat.or_comm, nat_join (8 * k) (256 ^ k * b) c, Nat.add_comm]
  · rw [Nat.pow_mul]; exact Nat.mul_mod_right _ _
  · rw [Nat.pow_mul]; exact hc
set_option maxHeartbeats 4000000 in
theorem number_any (s : ByteArray) (w : World) (h4 : 4 ≤ s.size) (hs : s.size ≤ 9223372036854775807) :
    Calls Try.prog 90 #[.string s] w fun e w' => e = .returned (.int .u32 (num4 (bs s) : Nat)) ∧ w = w' := by
  go_enter Try.func90, Try.ntmps90
  go_wp2
  go_loop [3, 5] (fun n i => ∃ k c : Nat, k ≤ 4 ∧ i = .int .i64 k ∧ n = .int .u32 c ∧ Hid (c = numP (bs s) k)) (fun _ i => 4 - (intOf i).toNat)
  case atStart => exact ⟨0, 0, by omega, rfl, rfl, by rfl⟩
  case round =>
    obtain ⟨k, c, hk, rfl, rfl, hc⟩ := hrel
    by_cases hlt : k < 4
    · have hki : (k : Int) < 4 := by omega
      have hks : (k : Int) < (s.size : Int) := by omega
      have hks2 : k < s.size := by omega
      have hor := or_step c k s[k].toNat hlt (by rw [hc]; exact numP_lt _ _) s[k].toNat_lt
      have HC : Hid (c + 256 ^ k * s[k].toNat = numP (bs s) (k + 1)) := by
        show _ = _
        simp only [numP]
        rw [getD_byte s k hks2, ← hc]
      clear hc
      generalize c + 256 ^ k * s[k].toNat = C at *
      go_wp2
      go_round
      case rel => exact ⟨k + 1, C, by omega, by go_num, rfl, HC⟩
      case measure => simp [intOf]; omega
    · obtain rfl : k = 4 := by omega
      go_wp2
      go_ret
      exact ⟨ret_int (by rw [hc, numP_four]), rfl⟩
/-- the first k of a number's four bytes, in an array of four -/
def fourC (n k : Nat) : Array Value := ((List.range 4).map fun i => Value.int .u8 ((if i < k then n / 256 ^ i % 256 else 0 : Nat) : Int)).toArray
theorem fourC_size (n k : Nat) : (fourC n k).size = 4 := by unfold fourC; simp
theorem fourC_zero (n : Nat) : fourC n 0 = Array.replicate 4 (.int .u8 0) := rfl
theorem fourC_set (n k : Nat) (hk : k < 4) : (fourC n k).setIfInBounds k (.int .u8 (n / 256 ^ k % 256 : Nat)) = fourC n (k + 1) := by
  obtain rfl | rfl | rfl | rfl : k = 0 ∨ k = 1 ∨ k = 2 ∨ k = 3 := by omega
  all_goals rfl
theorem fourC_four (n j : Nat) (hj : j < (four n).length) : (fourC n 4)[j]? = some (.int .u8 ((four n)[j].toNat : Nat)) := by
  have h : j < 4 := hj
  obtain rfl | rfl | rfl | rfl : j = 0 ∨ j = 1 ∨ j = 2 ∨ j = 3 := by omega
  · show some (Value.int .u8 ((n / 1 % 256 : Nat) : Int)) = some (Value.int .u8 (((n % 256).toUInt8).toNat : Nat))
    rw [toUInt8_nat (by omega), Nat.div_one]
  · show some (Value.int .u8 ((n / 256 % 256 : Nat) : Int)) = some (Value.int .u8 (((n / 256 % 256).toUInt8).toNat : Nat))
    rw [toUInt8_nat (by omega)]
  · show some (Value.int .u8 ((n / 65536 % 256 : Nat) : Int)) = some (Value.int .u8 (((n / 65536 % 256).toUInt8).toNat : Nat))
    rw [toUInt8_nat (by omega)]
  · show some (Value.int .u8 ((n / 16777216 % 256 : Nat) : Int)) = some (Value.int .u8 (((n / 16777216 % 256).toUInt8).toNat : Nat))
    rw [toUInt8_nat (by omega)]
theorem infoFour : (Try.prog.info? 122).map (fun i => (i.zero, i.size)) = some (some (.agg (Array.replicate 4 (.int .u8 0))), 4) := by kernel_rfl
set_option maxHeartbeats 4000000 in
theorem fourBytes_any (n : Nat) (w : World) :
    Calls Try.prog 80 #[.int .u32 n] w fun e w' => e = .returned (.string ⟨(four n).toArray⟩) ∧ Below w.heap.size w w' := by
  obtain ⟨hz, hi⟩ := zero_of_info infoFour
  rw [← fourC_zero n] at hz
  go_enter Try.func80, Try.ntmps80
  go_wp2
  go_loopw [5] (fun i wr => ∃ k : Nat, k ≤ 4 ∧ i = .int .i64 k ∧ wr = w.alloc (.cells (fourC n k) 122)) (fun i _ => 4 - (intOf i).toNat)
  case atStart => exact ⟨0, by omega, rfl, rfl⟩
  case round =>
    obtain ⟨k, hk, rfl, rfl⟩ := hrel
    by_cases hlt : k < 4
    · have hki : (k : Int) < 4 := by omega
      have HS := Lib.hid (fourC_set n k hlt)
      have hsz := fourC_size n k
      rw [show ((n / 256 ^ k % 256 : Nat) : Int) = (n : Int) / 2 ^ (8 * k) % 256 by
        rw [show (256 : Nat) ^ k = 2 ^ (8 * k) by rw [Nat.pow_mul]]; simp] at HS
      go_wp2
      go_roundw
      case rel => exact ⟨k + 1, by omega, by go_num, by rw [← HS.out]⟩
      case measure => simp [intOf]; omega
    · obtain rfl : k = 4 := by omega
      have hcv := run_convert_bytes_back (P := Try.prog) (w.alloc (.cells (fourC n 4) 122)) 69 9 5 ⟨w.heap.size, 0, none⟩ 4 (four n) Try.underlying69 Try.underlying5 Try.underlying9 (fun j hj => by
        rw [add_zero_off, World.cell?_alloc_new]
        exact fourC_four n j hj)
      rw [four_length] at hcv
      go_wp2
      go_ret
      exact ⟨rfl, (Below.refl _ _).alloc (Nat.le_refl _) _⟩
end Go.Proofs.Ytnffjoflkeagfaa.Fr
