/- The law on reading: the walk. -/
import Derived.Test.YtafpbnkkhgmicaaWorks
namespace Go.Proofs.Ytafpbnkkhgmicaa
open Go.RowKit

theorem bool_true {b : Bool} (h : b = true) : Ending.returned (.bool b) = .returned (.bool true) := by rw [h]
set_option maxHeartbeats 4000000 in
set_option maxRecDepth 100000 in
theorem law_reads (b : ByteArray) (a : Int) (w : World) (hb : b.size ≤ 9223372036854775807) (h0 : -9223372036854775808 ≤ a) (h1 : a ≤ 9223372036854775807) :
    Calls Try.prog 4 #[.string b, .int .i64 a] w fun e w' => e = .returned (.bool true) ∧ Below w.heap.size w w' := by
  by_cases h : 4096 < b.size
  · have hi : (4096 : Int) < (b.size : Int) := by omega
    go_enter Try.func4, Try.ntmps4
    go_wp2_with fail
    refine (works_any _).mono ?_
    rintro e w1 ⟨rfl, b1⟩
    go_wp2
    go_ret
    exact ⟨rfl, b1⟩
  · have hi : ¬ (4096 : Int) < (b.size : Int) := by omega
    have hU : ∃ (S : ByteArray) (T E : Int), (∀ w', Calls Try.prog 12 #[.string b, .int .i64 a] w' fun e w'' => e = .returned (.tuple #[.string S, .int .i64 T, .int .i64 E]) ∧ Below w'.heap.size w' w'') ∧
        (∀ w', Calls Try.prog 13 #[.string b, .int .i64 a] w' fun e w'' => e = .returned (.tuple #[.string S, .int .i64 T, .int .i64 E]) ∧ Below w'.heap.size w' w'') := by
      by_cases hbad : a < 0 ∨ (b.size : Int) < a
      · refine ⟨⟨#[]⟩, a, 1, fun w' => (Unframe_bad b a w' h0 h1 (by omega) hbad).mono ?_, fun w' => (refUnframe_bad b a w' h0 h1 (by omega) hbad).mono ?_⟩
        · rintro e w'' ⟨rfl, rfl⟩; exact ⟨rfl, Below.refl _ _⟩
        · rintro e w'' ⟨rfl, rfl⟩; exact ⟨rfl, Below.refl _ _⟩
      · obtain ⟨n, rfl⟩ : ∃ n : Nat, a = n := ⟨a.toNat, by omega⟩
        exact ⟨_, _, _, fun w' => Unframe_at b n w' (by omega) (by omega), fun w' => refUnframe_at b n w' (by omega) (by omega)⟩
    obtain ⟨S, T, E, hu1, hu2⟩ := hU
    have hs1 := fun w' => Scan_any b w' (by omega)
    have hs2 := fun w' => refScan_any b w' (by omega)
    have hlen : (scanT (bs b)).length ≤ 1099511627776 := by have := scan_len (bs b); rw [bs_size] at this; omega
    generalize scanT (bs b) = X at *
    generalize scanN (bs b) = N at *
    go_enter Try.func4, Try.ntmps4
    go_wp2_with fail
    refine (works_any _).mono ?_
    rintro e w1 ⟨rfl, b1⟩
    go_wp2_with fail
    refine (hu1 _).mono ?_
    rintro e w2 ⟨rfl, b2⟩
    have b2 := bw b1 b2
    go_wp2_with fail
    refine (hu2 _).mono ?_
    rintro e w3 ⟨rfl, b3⟩
    have b3 := bw b2 b3
    go_wp2_with fail
    refine (hs1 _).mono ?_
    rintro e w4 ⟨v, rfl, hl1, b4⟩
    have hl1 := hl1.at_
    have HL1 := Lib.hid hl1
    obtain ⟨_, va, vc, rfl, _, _⟩ := hl1
    have b4' := bw b3 b4
    go_wp2_with fail
    refine (hs2 _).mono ?_
    rintro e w5 ⟨v2, rfl, hl2, b5⟩
    have hl2 := hl2.at_
    have HL2 := Lib.hid hl2
    obtain ⟨_, va2, vc2, rfl, _, _⟩ := hl2
    have HL1' := Lib.hid (HL1.out.below b5)
    have b5' := bw b4' b5
    clear b1 b2 b3 b4 b4' b5 HL1
    go_wp2_with fail
    refine (same_any _ _ X X _ HL1'.out HL2.out hlen hlen).mono ?_
    rintro e w6 ⟨rfl, b6⟩
    have b6' := bw b5' b6
    go_wp2
    go_ret
    exact ⟨bool_true (by first | rfl | simp), b6'⟩
end Go.Proofs.Ytafpbnkkhgmicaa
