/- How many bytes a number takes. -/
import Derived.Test.YtkcmcgmonkeajaaKit
import Derived.Test.YtkcmcgmonkeajaaShelf
namespace Go.Proofs.Ytkcmcgmonkeajaa
open Go.RowKit

theorem or_one (n : Nat) : n ||| 1 = n + (1 - n % 2) := by
  have h1 : (n ||| 1) / 2 = n / 2 := by
    rw [Nat.or_div_two]; simp
  have h2 : (n ||| 1) % 2 = 1 := by simp
  omega
theorem bitLen_or (m : Nat) (h0 : m ≠ 0) (h : m < 18446744073709551616) : Lib.bitLen (m ||| 1) = Lib.bitLen m := by
  rw [or_one]
  by_cases hm : m % 2 = 1
  · rw [hm]; rfl
  · rw [Lib.bitLen_half m h0 (by omega), Lib.bitLen_half (m + (1 - m % 2)) (by omega) (by omega)]
    congr 2; omega
theorem bitLen_pos (m : Nat) (h0 : m ≠ 0) (h : m < 18446744073709551616) : 1 ≤ Lib.bitLen m := by
  rw [Lib.bitLen_half m h0 (by omega)]; omega
theorem size_eq : ∀ k n : Nat, n ≤ k → n < 18446744073709551616 → (Lib.bitLen (n ||| 1) + 6) / 7 = (Lib.uvarint n).length := by
  intro k
  induction k with
  | zero =>
    intro n hk hn
    obtain rfl : n = 0 := by omega
    rw [Lib.uvarint_small (by decide)]; decide
  | succ k ih =>
    intro n hk hn
    by_cases h : n < 128
    · rw [Lib.uvarint_small h]
      have ho := or_one n
      have h1 := bitLen_pos (n ||| 1) (by omega) (by omega)
      have h2 := Lib.bitLen_le (n ||| 1) 7 (by decide) (by omega)
      simp; omega
    · rw [Lib.uvarint_big (by omega), List.length_cons, ← ih (n / 128) (by omega) (by omega)]
      have ho := or_one n
      have hs := Lib.bitLen_shift 7 (n ||| 1) (by omega) (by omega)
      have hd : (n ||| 1) / 2 ^ 7 = n / 128 := by omega
      rw [hs, hd, bitLen_or (n / 128) (by omega) (by omega)]
      omega
set_option maxHeartbeats 1000000 in
theorem size_any (n : Nat) (w : World) (hn : n < 18446744073709551616) :
    Calls Try.prog 12 #[.int .u64 n] w fun e w' => e = .returned (.int .i64 ((Lib.uvarint n).length : Nat)) ∧ w = w' := by
  have ho := u64_or_nat n 1 hn (by decide)
  rw [show ((1 : Nat) : Int) = 1 from rfl] at ho
  have hlt : n ||| 1 < 18446744073709551616 := by rw [or_one]; omega
  have hs := size_eq n n (Nat.le_refl _) hn
  have hb := Lib.bitLen_le (n ||| 1) 64 (by decide) hlt
  generalize n ||| 1 = m at ho hlt hs hb
  go_enter Try.func12, Try.ntmps12
  go_wp2_with fail
  refine (Try.bits_Len64 (m : Int) _ (by omega) (by omega)).mono ?_
  rw [Int.toNat_natCast]
  rintro e w1 ⟨rfl, rfl⟩
  generalize Lib.bitLen m = q at *
  have HS := Lib.hid hs
  clear hs ho
  go_wp2
  go_ret
  exact ⟨ret_int (by rw [← HS.out]; omega), rfl⟩
set_option maxHeartbeats 1000000 in
theorem clone_any (s : ByteArray) (w : World) (hlim : s.size ≤ 281474976710656) :
    Calls Try.prog 64 #[.string s] w fun e w' => e = .returned (.string s) ∧ Below w.heap.size w w' := by
  go_enter Try.func64, Try.ntmps64
  go_wp2_with fail
  refine (Try.stringslite_Clone s _ hlim).mono ?_
  rintro e w1 ⟨rfl, h⟩
  go_wp2
  go_ret
  exact ⟨rfl, h⟩
end Go.Proofs.Ytkcmcgmonkeajaa
