/- What reads numbers. -/
import Derived.Test.YtkcmcgmonkeajaaSize
namespace Go.Proofs.Ytkcmcgmonkeajaa
open Go.RowKit

theorem getD_byte (s : ByteArray) (k : Nat) (h : k < s.size) : s.data.toList.getD k 0 = s[k] := by
  have : k < s.data.toList.length := by rw [← Lib.size_eq]; exact h
  rw [List.getD, List.getElem?_eq_getElem this]; rfl
theorem and127 (c : Nat) (h : c < 256) : bits .and .u8 (c : Int) 127 = ((c % 128 : Nat) : Int) := by
  have := bits_mask .u8 8 (by decide) wraps_u8 7 (by decide) (c : Int) (by omega) (by omega)
  rw [show (127 : Int) = 2 ^ 7 - 1 by decide, this]; omega
theorem or_step (X z k : Nat) (hk : k ≤ 9) (hX : X < 128 ^ k) (hz : z < 128) :
    ∃ Y : Nat, bits .or .u64 (X : Int) (IntKind.u64.wrap ((z : Int) * 2 ^ (7 * k))) = (Y : Int) ∧ Y < 18446744073709551616 ∧ (k ≤ 8 → Y = X + z * 128 ^ k) ∧ (z = 1 → Y = X + z * 128 ^ k) := by
  have hp : (2 : Nat) ^ (7 * k) = 128 ^ k := by rw [Nat.pow_mul]
  have hpi : ((2 : Int) ^ (7 * k)) = ((128 ^ k : Nat) : Int) := by rw [← hp]; simp
  have h9 : (128 : Nat) ^ k ≤ 128 ^ 9 := Nat.pow_le_pow_right (by decide) hk
  have e9 : (128 : Nat) ^ 9 = 9223372036854775808 := by decide
  have hW : IntKind.u64.wrap ((z : Int) * 2 ^ (7 * k)) = (((z * 128 ^ k) % 18446744073709551616 : Nat) : Int) := by
    rw [hpi, IntKind.wrap_u64]; simp
  rw [hW, u64_or_nat X _ (by omega) (Nat.mod_lt _ (by decide))]
  have hor : X ||| z * 128 ^ k = X + z * 128 ^ k := by
    have := Nat.two_pow_add_eq_or_of_lt (i := 7 * k) (b := X) (by rw [hp]; exact hX) z
    rw [hp] at this
    rw [Nat.or_comm, Nat.mul_comm z, ← this]; omega
  refine ⟨_, rfl, ?_, fun h8 => ?_, fun h1 => ?_⟩
  · exact Nat.or_lt_two_pow (n := 64) (by omega) (Nat.mod_lt _ (by decide))
  · have h8' : (128 : Nat) ^ k ≤ 128 ^ 8 := Nat.pow_le_pow_right (by decide) h8
    have e8 : (128 : Nat) ^ 8 = 72057594037927936 := by decide
    have : z * 128 ^ k ≤ 127 * 72057594037927936 := Nat.mul_le_mul (by omega) (by omega)
    rw [Nat.mod_eq_of_lt (by omega)]; exact hor
  · subst h1
    rw [Nat.mod_eq_of_lt (by omega)]; exact hor
theorem ret3 {a b c a' b' c' : Int} {x y z : IntKind} (h1 : a = a') (h2 : b = b') (h3 : c = c') : Ending.returned (.tuple #[.int x a, .int y b, .int z c]) = .returned (.tuple #[.int x a', .int y b', .int z c']) := by rw [h1, h2, h3]
theorem d_stop (l : List UInt8) (k : Nat) (hk : k < 10) (hl : k < l.length) (hb : ∀ i, i < k → 128 ≤ (l.getD i 0).toNat) (hs : (l.getD k 0).toNat < 128) : lead l 10 = k :=
  lead_eq l 10 k (by omega) (by omega) hb (.inr (.inr hs))
theorem d_ok (l : List UInt8) (k : Nat) (hk : k < 10) (hl : k < l.length) (hb : ∀ i, i < k → 128 ≤ (l.getD i 0).toNat) (hs : (l.getD k 0).toNat < 128)
    (h3 : ¬ (0 < k ∧ (l.getD k 0).toNat = 0)) (h4 : ¬ (k = 9 ∧ (l.getD k 0).toNat ≠ 1)) : dE l = 0 ∧ dV l = val (l.take (k + 1)) ∧ dK l = k + 1 := by
  have he := d_stop l k hk hl hb hs
  have hE := dE_zero l (by omega) (by omega) (by rw [he]; exact h3) (by rw [he]; exact h4)
  refine ⟨hE, ?_, ?_⟩
  · unfold dV; rw [if_pos hE, he]
  · unfold dK; rw [if_pos hE, he]
theorem d_none (l : List UInt8) (h : dE l ≠ 0) : dV l = 0 ∧ dK l = 0 := ⟨by unfold dV; rw [if_neg h], by unfold dK; rw [if_neg h]⟩
theorem d_long (l : List UInt8) (k : Nat) (hk : k < 10) (hl : k < l.length) (hb : ∀ i, i < k → 128 ≤ (l.getD i 0).toNat) (hs : (l.getD k 0).toNat < 128)
    (h3 : (0 < k ∧ (l.getD k 0).toNat = 0) ∨ (k = 9 ∧ (l.getD k 0).toNat ≠ 1)) : dE l = 21 := by
  have he := d_stop l k hk hl hb hs
  unfold dE
  rw [if_neg (by omega), if_neg (by omega), he, if_pos h3]
theorem d_short (l : List UInt8) (hl : l.length < 10) (hb : ∀ i, i < l.length → 128 ≤ (l.getD i 0).toNat) : dE l = 20 := by
  have he := lead_eq l 10 l.length (by omega) (Nat.le_refl _) hb (.inr (.inl rfl))
  unfold dE
  rw [if_neg (by omega), if_pos (by omega)]
theorem d_ten (l : List UInt8) (hl : 10 ≤ l.length) (hb : ∀ i, i < 10 → 128 ≤ (l.getD i 0).toNat) : dE l = 21 := by
  have he := lead_eq l 10 10 (Nat.le_refl _) hl hb (.inl rfl)
  unfold dE
  rw [if_pos he]
set_option maxHeartbeats 4000000 in
set_option maxRecDepth 100000 in
theorem readNumber_any (s : ByteArray) (w : World) (hs : s.size ≤ 9223372036854775807) :
    Calls Try.prog 47 #[.string s] w fun e w' => e = .returned (.tuple #[.int .u64 (dV s.data.toList : Nat), .int .i64 (dK s.data.toList : Nat), .int .i64 (dE s.data.toList)]) ∧ w = w' := by
  have hsz : s.data.toList.length = s.size := (Lib.size_eq s).symm
  have HSZ := Lib.hid hsz
  clear hsz
  go_enter Try.func47, Try.ntmps47
  go_wp2
  go_loop [5, 10] (fun n i => ∃ (k X : Nat), k ≤ s.size ∧ k ≤ 10 ∧ i = .int .i64 k ∧ n = .int .u64 X ∧ X < 18446744073709551616 ∧ (k ≤ 9 → X = val (s.data.toList.take k)) ∧ ∀ j, j < k → 128 ≤ (s.data.toList.getD j 0).toNat) (fun _ i => 10 - (intOf i).toNat)
  case atStart => exact ⟨0, 0, by omega, by omega, rfl, rfl, by decide, fun _ => rfl, fun j hj => absurd hj (Nat.not_lt_zero _)⟩
  case round =>
    obtain ⟨k, X, hk, hk10, rfl, rfl, hX, hv, hj⟩ := hrel
    have HV := Lib.hid hv
    have HJ := Lib.hid hj
    clear hv hj
    by_cases hlk : k < s.size ∧ k < 10
    · obtain ⟨hlt, hk1⟩ := hlk
      obtain ⟨c, hc⟩ : ∃ c : Nat, s[k].toNat = c := ⟨_, rfl⟩
      have hc256 : c < 256 := by rw [← hc]; exact s[k].toNat_lt
      have hand := and127 c hc256
      have hm : c % 128 < 128 := by omega
      have hmin : ((k : Int) < min (s.size : Int) 10) := by omega
      have HX : Hid (X = val (s.data.toList.take k)) := HV.out (by omega)
      obtain ⟨Y, hY, hY1, hY2, hY3⟩ := or_step X (c % 128) k (by omega) (by rw [HX.out]; exact val_take_lt _ _) hm
      have HC : Hid ((s.data.toList.getD k 0).toNat = c) := by show _ = _; rw [getD_byte s k hlt, hc]
      have HST : Hid (val (s.data.toList.take (k + 1)) = X + c % 128 * 128 ^ k) := by
        show _ = _
        rw [val_step _ k (by rw [HSZ.out]; exact hlt), ← HX.out, HC.out]
      have HMC : Hid (c % 128 = c ∨ 128 ≤ c) := by show _ ∨ _; omega
      have HY2 := Lib.hid hY2
      have HY3 := Lib.hid hY3
      clear hY2 hY3
      have HZ : Hid (∃ z, z = c % 128) := ⟨_, rfl⟩
      by_cases h128 : 128 ≤ c
      · generalize c % 128 = z at *
        go_wp2
        go_round
        case rel => exact ⟨k + 1, Y, by omega, by omega, by go_num, rfl, hY1, fun h => by rw [HST.out]; exact HY2.out (by omega), fun j hj => by
            by_cases e : j = k
            · rw [e, HC.out]; exact h128
            · exact HJ.out j (by omega)⟩
        case measure => simp [intOf]; omega
      · have hcz : c % 128 = c := by omega
        have hs : (s.data.toList.getD k 0).toNat < 128 := by rw [HC.out]; omega
        by_cases h0 : 0 < k
        · have h0i : (0 : Int) < (k : Int) := by omega
          by_cases hc0 : c = 0
          · have hd := d_long s.data.toList k (by omega) (by rw [HSZ.out]; exact hlt) HJ.out hs (.inl ⟨h0, by rw [HC.out]; exact hc0⟩)
            have hd2 := d_none s.data.toList (by rw [hd]; decide)
            have HD := Lib.hid hd
            have HD2 := Lib.hid hd2
            clear hd hd2 hs HST HC HMC HY2 HY3 HZ HV HX HJ
            generalize hzz : c % 128 = z at *
            clear hcz hzz
            subst hc0
            go_wp2
            go_ret3
            exact ⟨ret3 (by rw [HD2.out.1]; rfl) (by rw [HD2.out.2]; rfl) (by rw [HD.out]), rfl⟩
          · by_cases h9 : k = 9
            · by_cases hc1 : c = 1
              · have hd := d_ok s.data.toList k (by omega) (by rw [HSZ.out]; exact hlt) HJ.out hs (fun h => by rw [HC.out] at h; omega) (fun h => by rw [HC.out] at h; omega)
                rw [HST.out] at hd
                have hYe := HY3.out (by omega)
                rw [← hYe] at hd
                have HD := Lib.hid hd
                clear hd hs HST HC HMC HY2 HY3 HZ HV HX HJ hYe
                generalize hzz : c % 128 = z at *
                clear hcz hzz
                subst h9
                have hb1 : ((c : Int) == 0) = false := by simp; omega
                have hb2 : ((c : Int) != 1) = false := by simp; omega
                clear hc1
                rw [show (2 : Int) ^ (7 * 9) = 9223372036854775808 by decide] at hY
                go_wp2
                go_ret3
                exact ⟨ret3 (by rw [HD.out.2.1]) (by rw [HD.out.2.2]; rfl) (by rw [HD.out.1]), rfl⟩
              · have hd := d_long s.data.toList k (by omega) (by rw [HSZ.out]; exact hlt) HJ.out hs (.inr ⟨h9, by rw [HC.out]; exact hc1⟩)
                have hd2 := d_none s.data.toList (by rw [hd]; decide)
                have HD := Lib.hid hd
                have HD2 := Lib.hid hd2
                have hb1 : ((c : Int) == 0) = false := by simp; omega
                have hb2 : ((c : Int) != 1) = true := by simp; omega
                clear hd hd2 hs HST HC HMC HY2 HY3 HZ HV HX HJ
                generalize hzz : c % 128 = z at *
                clear hcz hzz
                subst h9
                rw [show (2 : Int) ^ (7 * 9) = 9223372036854775808 by decide] at hY
                go_wp2
                go_ret3
                exact ⟨ret3 (by rw [HD2.out.1]; rfl) (by rw [HD2.out.2]; rfl) (by rw [HD.out]), rfl⟩
            · have hd := d_ok s.data.toList k (by omega) (by rw [HSZ.out]; exact hlt) HJ.out hs (fun h => by rw [HC.out] at h; omega) (fun h => by omega)
              rw [HST.out] at hd
              have hYe := HY2.out (by omega)
              rw [← hYe] at hd
              have HD := Lib.hid hd
              have hb1 : ((c : Int) == 0) = false := by simp; omega
              have h9i : ¬ ((k : Int) = 9) := by omega
              clear hd hs HST HC HMC HY2 HY3 HZ HV HX HJ hYe
              generalize hzz : c % 128 = z at *
              clear hcz hzz
              go_wp2
              go_ret3
              exact ⟨ret3 (by rw [HD.out.2.1]) (by rw [HD.out.2.2]; rfl) (by rw [HD.out.1]), rfl⟩
        · have hd := d_ok s.data.toList k (by omega) (by rw [HSZ.out]; exact hlt) HJ.out hs (fun h => by omega) (fun h => by omega)
          rw [HST.out] at hd
          have hYe := HY2.out (by omega)
          rw [← hYe] at hd
          have HD := Lib.hid hd
          have h0i : ¬ (0 : Int) < (k : Int) := by omega
          have h9i : ¬ ((k : Int) = 9) := by omega
          clear hd hs HST HC HMC HY2 HY3 HZ HV HX HJ hYe
          generalize hzz : c % 128 = z at *
          clear hcz hzz
          go_wp2
          go_ret3
          exact ⟨ret3 (by rw [HD.out.2.1]) (by rw [HD.out.2.2]; rfl) (by rw [HD.out.1]), rfl⟩
    · have hmin : ¬ ((k : Int) < min (s.size : Int) 10) := by omega
      by_cases h10 : s.size < 10
      · have hk' : k = s.size := by omega
        have hd := d_short s.data.toList (by rw [HSZ.out]; exact h10) (fun j hj => HJ.out j (by rw [HSZ.out] at hj; omega))
        have hd2 := d_none s.data.toList (by rw [hd]; decide)
        have HD := Lib.hid hd
        have HD2 := Lib.hid hd2
        clear hd hd2 HV HJ hk'
        have h10i : (s.size : Int) < 10 := by omega
        go_wp2
        go_ret3
        exact ⟨ret3 (by rw [HD2.out.1]; rfl) (by rw [HD2.out.2]; rfl) (by rw [HD.out]), rfl⟩
      · have hd := d_ten s.data.toList (by rw [HSZ.out]; omega) (fun j hj => HJ.out j (by omega))
        have hd2 := d_none s.data.toList (by rw [hd]; decide)
        have HD := Lib.hid hd
        have HD2 := Lib.hid hd2
        clear hd hd2 HV HJ
        have h10i : ¬ (s.size : Int) < 10 := by omega
        go_wp2
        go_ret3
        exact ⟨ret3 (by rw [HD2.out.1]; rfl) (by rw [HD2.out.2]; rfl) (by rw [HD.out]), rfl⟩
end Go.Proofs.Ytkcmcgmonkeajaa
