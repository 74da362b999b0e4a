/- The reference's Unframe. -/
import Derived.Test.YtafpbnkkhgmicaaRefs
namespace Go.Proofs.Ytafpbnkkhgmicaa
open Go.RowKit

set_option maxHeartbeats 1000000 in
theorem refUnframe_bad (s : ByteArray) (a : Int) (w : World) (h0 : -9223372036854775808 ≤ a) (h1 : a ≤ 9223372036854775807) (hs : s.size ≤ 1099511627776) (ha : a < 0 ∨ (s.size : Int) < a) :
    Calls Try.prog 13 #[.string s, .int .i64 a] w fun e w' => e = .returned (.tuple #[.string ⟨#[]⟩, .int .i64 a, .int .i64 1]) ∧ w = w' := by
  rcases ha with ha | ha
  · go_enter Try.func13, Try.ntmps13
    go_wp2
    go_ret3
    exact ⟨rfl, rfl⟩
  · have h2 : ¬ a < 0 := by omega
    go_enter Try.func13, Try.ntmps13
    go_wp2
    go_ret3
    exact ⟨rfl, rfl⟩
theorem fS_bad {l : List UInt8} (h : fE l ≠ 0) : fS l = ⟨#[]⟩ ∧ fK l = 0 := ⟨by unfold fS; rw [if_neg h], by unfold fK; rw [if_neg h]⟩
set_option maxHeartbeats 8000000 in
set_option maxRecDepth 100000 in
theorem refUnframe_at (s : ByteArray) (a : Nat) (w : World) (hs : s.size ≤ 1099511627776) (ha : a ≤ s.size) :
    Calls Try.prog 13 #[.string s, .int .i64 a] w fun e w' => e = .returned (.tuple #[.string (fS ((bs s).drop a)), .int .i64 ((a + fK ((bs s).drop a) : Nat) : Nat), .int .i64 (fE ((bs s).drop a))]) ∧ Below w.heap.size w w' := by
  have hai : ¬ (s.size : Int) < (a : Int) := by omega
  have ha0 : ¬ (a : Int) < 0 := by omega
  have hl : ((bs s).drop a).length = s.size - a := by rw [List.length_drop, bs_size]
  by_cases h8 : s.size - a < 8
  · have h8i : (s.size : Int) - (a : Int) < 8 := by omega
    have hE := Lib.hid (fE_short (l := (bs s).drop a) (by omega))
    have hB := Lib.hid (fS_bad (l := (bs s).drop a) (by rw [hE.out]; decide))
    clear hl
    go_enter Try.func13, Try.ntmps13
    go_wp2
    go_ret3
    exact ⟨ret3v (by rw [hB.out.1]; rfl) (by rw [hB.out.2]; rfl) (by rw [hE.out]), Below.refl _ _⟩
  have h8i : ¬ (s.size : Int) - (a : Int) < 8 := by omega
  have hnum := fun w' => refNumber_any s a w' hs (by omega)
  have hn32 := num4_lt ((bs s).drop a)
  by_cases hbig : 65536 < num4 ((bs s).drop a)
  · have hE := Lib.hid (fE_long (l := (bs s).drop a) (by omega) hbig)
    have hB := Lib.hid (fS_bad (l := (bs s).drop a) (by rw [hE.out]; decide))
    have hbi : (65536 : Int) < (num4 ((bs s).drop a) : Nat) := by omega
    clear hl
    generalize num4 ((bs s).drop a) = n at *
    go_enter Try.func13, Try.ntmps13
    go_wp2_with fail
    refine (hnum _).mono ?_
    rintro e w1 ⟨rfl, q, rfl⟩
    go_wp2
    go_ret3
    exact ⟨ret3v (by rw [hB.out.1]; rfl) (by rw [hB.out.2]; rfl) (by rw [hE.out]), below_drewN (Below.refl _ _) q⟩
  have hbi : ¬ (65536 : Int) < (num4 ((bs s).drop a) : Nat) := by omega
  by_cases hless : s.size - a - 8 < num4 ((bs s).drop a)
  · have hE := Lib.hid (fE_less (l := (bs s).drop a) (by omega) hbig (by omega))
    have hB := Lib.hid (fS_bad (l := (bs s).drop a) (by rw [hE.out]; decide))
    have hli : (s.size : Int) - (a : Int) - 8 < (num4 ((bs s).drop a) : Nat) := by omega
    clear hl hbig hless
    generalize num4 ((bs s).drop a) = n at *
    go_enter Try.func13, Try.ntmps13
    go_wp2_with fail
    refine (hnum _).mono ?_
    rintro e w1 ⟨rfl, q, rfl⟩
    go_wp2
    go_ret3
    exact ⟨ret3v (by rw [hB.out.1]; rfl) (by rw [hB.out.2]; rfl) (by rw [hE.out]), below_drewN (Below.refl _ _) q⟩
  have hli : ¬ (s.size : Int) - (a : Int) - 8 < (num4 ((bs s).drop a) : Nat) := by omega
  have hfB : bs (s.extract (a + 8) (a + 8 + num4 ((bs s).drop a))) = fB ((bs s).drop a) := by
    rw [bs_extract]; unfold fB; rw [List.drop_drop]; congr 1; omega
  have hh4 : bs (s.extract a (a + 4)) = ((bs s).drop a).take 4 := by rw [bs_extract]; congr 1; omega
  have hcp : s.extract (a + 8) (a + 8 + num4 ((bs s).drop a)) = mk (fB ((bs s).drop a)) := ba_ext (by rw [hfB]; rfl)
  have hlB : (fB ((bs s).drop a)).length ≤ num4 ((bs s).drop a) := by unfold fB; rw [List.length_take]; omega
  have hz1 : (s.extract a (a + 4)).size = 4 := by rw [← bs_size, hh4, List.length_take]; omega
  have hz2 : (s.extract (a + 8) (a + 8 + num4 ((bs s).drop a))).size ≤ 1048576 := by rw [hcp, mk_size]; omega
  have hsm := fun w' => refSum_any (s.extract a (a + 4) ++ s.extract (a + 8) (a + 8 + num4 ((bs s).drop a))) w' (by rw [app_size]; omega)
  rw [bs_append, hh4, hfB] at hsm
  have hnum4 := fun w' => refNumber_any s (a + 4) w' hs (by omega)
  rw [← List.drop_drop] at hnum4
  have HCP := Lib.hid hcp
  have hn32b := num4_lt (((bs s).drop a).drop 4)
  have hs32 := sumL_lt (((bs s).drop a).take 4 ++ fB ((bs s).drop a))
  have hl1 : (s.extract a (a + 4)).size + (s.extract (a + 8) (a + 8 + num4 ((bs s).drop a))).size ≤ 9223372036854775807 := by omega
  have wa : IntKind.i64.wrap ((a : Int) + 4) = ((a + 4 : Nat) : Int) := by rw [IntWalk.i64_in _ (by omega)]; omega
  have ta : ((a + 4 : Nat) : Int).toNat = a + 4 := by omega
  have hae : (a : Int) ≤ ((a + 4 : Nat) : Int) := by omega
  have hae2 : ((a + 4 : Nat) : Int) ≤ (s.size : Int) := by omega
  by_cases hsum : sumL (((bs s).drop a).take 4 ++ fB ((bs s).drop a)) = num4 (((bs s).drop a).drop 4)
  · have hE := Lib.hid (fE_ok (l := (bs s).drop a) (by omega) hbig (by omega) hsum)
    have hF := Lib.hid (show fS ((bs s).drop a) = mk (fB ((bs s).drop a)) ∧ fK ((bs s).drop a) = 8 + num4 ((bs s).drop a) from ⟨by unfold fS; rw [if_pos hE.out], by unfold fK; rw [if_pos hE.out]⟩)
    have hni : (((num4 (((bs s).drop a).drop 4) : Nat) : Int) != ((sumL (((bs s).drop a).take 4 ++ fB ((bs s).drop a)) : Nat) : Int)) = false := by rw [hsum]; simp
    clear hl hbig hless hsum hcp hfB hh4
    generalize num4 ((bs s).drop a) = n at *
    generalize num4 (((bs s).drop a).drop 4) = n4 at *
    generalize sumL (((bs s).drop a).take 4 ++ fB ((bs s).drop a)) = S at *
    have HZ1 := Lib.hid hz1
    have HWA := Lib.hid wa
    have HTA := Lib.hid ta
    clear hz1 wa ta
    go_enter Try.func13, Try.ntmps13
    go_wp2_with fail
    refine (hnum _).mono ?_
    rintro e w1 ⟨rfl, q, hq⟩
    have b1 : Below w.heap.size w w1 := by rw [hq]; exact below_drewN (Below.refl w.heap.size w) q
    clear hq
    go_wp2
    have wa := HWA.out
    have ta := HTA.out
    go_quiet ((first
      | (go_at_call 24; exact Calls.quiet_of (hnum4 _))
      | (go_at_call 11; exact Calls.quiet_of_same ((hsm _).mono (fun _ _ hh => ⟨hh.1, hh.2.symm⟩)))))
    clear wa ta
    go_wp2
    go_ret3
    exact ⟨ret3v (by rw [hF.out.1, ← HCP.out]; rfl) (by rw [hF.out.2]; omega) (by rw [hE.out]), below_drewN b1 _⟩
  · have hE := Lib.hid (fE_sum (l := (bs s).drop a) (by omega) hbig (by omega) hsum)
    have hB := Lib.hid (fS_bad (l := (bs s).drop a) (by rw [hE.out]; decide))
    have hni : (((num4 (((bs s).drop a).drop 4) : Nat) : Int) != ((sumL (((bs s).drop a).take 4 ++ fB ((bs s).drop a)) : Nat) : Int)) = true := by rw [bne_iff_ne]; omega
    clear hl hbig hless hsum hcp hfB hh4
    generalize num4 ((bs s).drop a) = n at *
    generalize num4 (((bs s).drop a).drop 4) = n4 at *
    generalize sumL (((bs s).drop a).take 4 ++ fB ((bs s).drop a)) = S at *
    have HZ1 := Lib.hid hz1
    have HWA := Lib.hid wa
    have HTA := Lib.hid ta
    clear hz1 wa ta
    go_enter Try.func13, Try.ntmps13
    go_wp2_with fail
    refine (hnum _).mono ?_
    rintro e w1 ⟨rfl, q, hq⟩
    have b1 : Below w.heap.size w w1 := by rw [hq]; exact below_drewN (Below.refl w.heap.size w) q
    clear hq
    go_wp2
    have wa := HWA.out
    have ta := HTA.out
    go_quiet ((first
      | (go_at_call 24; exact Calls.quiet_of (hnum4 _))
      | (go_at_call 11; exact Calls.quiet_of_same ((hsm _).mono (fun _ _ hh => ⟨hh.1, hh.2.symm⟩)))))
    clear wa ta
    go_wp2
    go_ret3
    exact ⟨ret3v (by rw [hB.out.1]; rfl) (by rw [hB.out.2]; rfl) (by rw [hE.out]), below_drewN b1 _⟩
end Go.Proofs.Ytafpbnkkhgmicaa
