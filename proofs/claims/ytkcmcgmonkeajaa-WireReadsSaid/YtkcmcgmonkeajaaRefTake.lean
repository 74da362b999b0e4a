/- The reference's take and zag. -/
import Derived.Test.YtkcmcgmonkeajaaRead2
import Derived.Test.YtkcmcgmonkeajaaRefPut
namespace Go.Proofs.Ytkcmcgmonkeajaa
open Go.RowKit

theorem getD_drop (s : ByteArray) (a k : Nat) (h : a + k < s.size) : (s.data.toList.drop a).getD k 0 = s[a + k] := by
  rw [← getD_byte s (a + k) h]
  simp [List.getD, List.getElem?_drop]
set_option maxHeartbeats 1000000 in
theorem zag_any (n : Nat) (w : World) (h1 : n < 18446744073709551616) :
    Calls Try.prog 52 #[.int .u64 n] w fun e w' => e = .returned (.int .i64 (Lib.unzigzag n)) ∧ w = w' := by
  by_cases h : n % 2 = 0
  · have hi : ((n : Int) % 2) = 0 := by omega
    have hi2 : ((n : Int) % 2 == 0) = true := by rw [hi]; rfl
    have HZ : Hid (Lib.unzigzag n = ((n : Int) / 2)) := by show _ = _; unfold Lib.unzigzag; rw [if_pos h]; omega
    clear hi
    go_enter Try.func52, Try.ntmps52
    go_wp2
    go_ret
    exact ⟨ret_int (by rw [HZ.out]), rfl⟩
  · have hi2 : ((n : Int) % 2 == 0) = false := by simp; omega
    have HZ : Hid (Lib.unzigzag n = -((n : Int) / 2) - 1) := by show _ = _; unfold Lib.unzigzag; rw [if_neg h]; omega
    go_enter Try.func52, Try.ntmps52
    go_wp2
    go_ret
    exact ⟨ret_int (by rw [HZ.out]), rfl⟩
theorem val_drop (l : List UInt8) (j : Nat) (h : j < l.length) : val (l.drop j) = (l.getD j 0).toNat % 128 + 128 * val (l.drop (j + 1)) := by
  rw [List.drop_eq_getElem_cons h]
  simp only [val, List.getD, List.getElem?_eq_getElem h, Option.getD_some]
theorem take_getD (l : List UInt8) (k j : Nat) (hj : j < k) : (l.take k).getD j 0 = l.getD j 0 := by simp [List.getD, hj]
theorem val_last (l : List UInt8) (k : Nat) (h : k < l.length) : val ((l.take (k + 1)).drop k) = (l.getD k 0).toNat % 128 := by
  rw [val_drop _ k (by rw [List.length_take]; omega), take_getD l (k + 1) k (by omega), List.drop_eq_nil_of_le (by rw [List.length_take]; omega)]
  simp [val]
theorem val_down (l : List UInt8) (k j : Nat) (hj : j ≤ k) (h : k < l.length) : val ((l.take (k + 1)).drop j) = (l.getD j 0).toNat % 128 + 128 * val ((l.take (k + 1)).drop (j + 1)) := by
  rw [val_drop _ j (by rw [List.length_take]; omega), take_getD l (k + 1) j (by omega)]
/-- what a round keeps: what stands from q on is reckoned -/
def TRel (l : List UInt8) (k : Nat) (v i : Value) : Prop := ∃ q V : Nat, q ≤ k ∧ i = .int .i64 ((q : Int) - 1) ∧ v = .int .u64 V ∧ V = val ((l.take (k + 1)).drop q)
theorem TRel.mk {l : List UInt8} {k : Nat} {v i : Value} (q V : Nat) (h1 : q ≤ k) (h2 : i = .int .i64 ((q : Int) - 1)) (h3 : v = .int .u64 V) (h4 : V = val ((l.take (k + 1)).drop q)) : TRel l k v i := ⟨q, V, h1, h2, h3, h4⟩
theorem val_drop_le : ∀ (j : Nat) (l : List UInt8), val (l.drop j) ≤ val l
  | 0, l => by simp
  | j + 1, [] => by simp
  | j + 1, b :: l => by
    have := val_drop_le j l
    rw [List.drop_succ_cons]
    have e : val (b :: l) = b.toNat % 128 + 128 * val l := rfl
    omega
theorem u64_down (V c : Nat) (h0 : 128 ≤ c) (h1 : c < 256) (h2 : c % 128 + 128 * V < 18446744073709551616) : IntKind.u64.wrap (IntKind.u64.wrap ((V : Int) * 128 + (c : Int)) - 128) = ((c % 128 + 128 * V : Nat) : Int) := by
  rw [IntKind.wrap_u64, IntKind.wrap_u64]; omega
set_option maxHeartbeats 4000000 in
set_option maxRecDepth 100000 in
theorem refTake_any (s : ByteArray) (a : Nat) (w : World) (hs : s.size ≤ 1099511627776) (ha : a ≤ s.size) :
    Calls Try.prog 48 #[.string s, .int .i64 a] w fun e w' => e = .returned (.tuple #[.int .u64 (dV (s.data.toList.drop a) : Nat), .int .i64 ((a + dK (s.data.toList.drop a) : Nat) : Nat), .int .i64 (dE (s.data.toList.drop a))]) ∧ w = w' := by
  have hsz : (s.data.toList.drop a).length = s.size - a := by rw [List.length_drop, ← Lib.size_eq]
  have HSZ := Lib.hid hsz
  clear hsz
  go_enter Try.func48, Try.ntmps48
  go_wp2
  go_loop [7] (fun n => ∃ k : Nat, k ≤ 10 ∧ a + k ≤ s.size ∧ n = .int .i64 k ∧ ∀ j, j < k → 128 ≤ ((s.data.toList.drop a).getD j 0).toNat) (fun n => 10 - (intOf n).toNat)
  case atStart => exact ⟨0, by omega, by omega, rfl, fun j hj => absurd hj (Nat.not_lt_zero _)⟩
  case round =>
    obtain ⟨k, hk, hak, rfl, hj⟩ := hrel
    have HJ := Lib.hid hj
    clear hj
    by_cases hk10 : k < 10
    · have hki : (k : Int) < 10 := by omega
      by_cases hlt : a + k < s.size
      · have hlti : (a : Int) + (k : Int) < (s.size : Int) := by omega
        obtain ⟨c, hc⟩ : ∃ c : Nat, s[a + k].toNat = c := ⟨_, rfl⟩
        have hc256 : c < 256 := by rw [← hc]; exact s[a + k].toNat_lt
        have HC : Hid (((s.data.toList.drop a).getD k 0).toNat = c) := by show _ = _; rw [getD_drop s a k hlt, hc]
        by_cases h128 : 128 ≤ c
        · go_wp2
          go_round
          case rel => exact ⟨k + 1, by omega, by omega, by go_num, fun j hj => by
            by_cases e : j = k
            · rw [e, HC.out]; exact h128
            · exact HJ.out j (by omega)⟩
          case measure => simp [intOf]; omega
        · have hs0 : ((s.data.toList.drop a).getD k 0).toNat < 128 := by rw [HC.out]; omega
          have hll : k < (s.data.toList.drop a).length := by rw [HSZ.out]; omega
          have hki9 : ¬ ((k : Int) = 10) := by omega
          have hlen : ¬ ((s.size : Int) ≤ (a : Int) + (k : Int)) := by omega
          by_cases hbad : (0 < k ∧ c = 0) ∨ (k = 9 ∧ c ≠ 1)
          · have hd := d_long (s.data.toList.drop a) k (by omega) hll HJ.out hs0 (by rw [HC.out]; exact hbad)
            have hd2 := d_none (s.data.toList.drop a) (by rw [hd]; decide)
            have HD := Lib.hid hd
            have HD2 := Lib.hid hd2
            clear hd hd2
            by_cases h0 : 0 < k ∧ c = 0
            · obtain ⟨hk0, hc0⟩ := h0
              have hk0i : (0 : Int) < (k : Int) := by omega
              clear hbad
              subst hc0
              go_wp2
              go_ret3
              exact ⟨ret3 (by rw [HD2.out.1]; rfl) (by rw [HD2.out.2]; rfl) (by rw [HD.out]), rfl⟩
            · have h9 : k = 9 ∧ c ≠ 1 := by omega
              obtain ⟨h9, hc1⟩ := h9
              have hb1 : ((c : Int) == 0) = false := by simp; omega
              have hb2 : ((c : Int) != 1) = true := by simp; omega
              clear hbad h0
              subst h9
              go_wp2
              go_ret3
              exact ⟨ret3 (by rw [HD2.out.1]; rfl) (by rw [HD2.out.2]; rfl) (by rw [HD.out]), rfl⟩
          · have hd := d_ok (s.data.toList.drop a) k (by omega) hll HJ.out hs0 (fun h => hbad (.inl (by rw [HC.out] at h; exact h))) (fun h => hbad (.inr (by rw [HC.out] at h; exact h)))
            have HD := Lib.hid hd
            have hvl := dV_lt (s.data.toList.drop a)
            rw [hd.2.1] at hvl
            have HVL := Lib.hid hvl
            have HB := Lib.hid hbad
            clear hd hbad hvl
            by_cases hk0 : 0 < k
            · have hk0i : (0 : Int) < (k : Int) := by omega
              have hb1 : ((c : Int) == 0) = false := by have := HB.out; simp; omega
              by_cases h9 : k = 9
              · have hb2 : ((c : Int) != 1) = false := by have := HB.out; simp; omega
                subst h9
                rw [show ((9 : Nat) : Int) = 9 from rfl]
                have hst : Hid (val (((s.data.toList.drop a).take (9 + 1)).drop 9) = c) := by
                  show _ = _
                  rw [val_last _ 9 hll, HC.out]; omega
                go_wp2
                try simp only [hc]
                go_loop [9, 10] (fun v i => TRel (s.data.toList.drop a) 9 v i) (fun _ i => (intOf i + 1).toNat)
                case atStart => exact TRel.mk 9 c (Nat.le_refl _) (by first | rfl | go_num) rfl hst.out.symm
                case round =>
                  obtain ⟨q, V, hq, rfl, rfl, hV⟩ := hrel
                  have HV := Lib.hid hV
                  clear hV
                  cases q with
                  | zero =>
                    rw [show ((0 : Nat) : Int) - 1 = -1 by decide]
                    go_wp2
                    go_ret3
                    exact ⟨ret3 (by rw [HD.out.2.1, HV.out]; rfl) (by rw [HD.out.2.2]; go_num) (by rw [HD.out.1]), rfl⟩
                  | succ j =>
                    rw [show ((j + 1 : Nat) : Int) - 1 = (j : Int) by omega]
                    obtain ⟨d, hd⟩ : ∃ d : Nat, s[a + j].toNat = d := ⟨_, rfl⟩
                    have hd256 : d < 256 := by rw [← hd]; exact s[a + j].toNat_lt
                    have hd128 : 128 ≤ d := by rw [← hd, ← getD_drop s a j (by omega)]; exact HJ.out j (by omega)
                    have hvs : Hid (val (((s.data.toList.drop a).take (9 + 1)).drop j) = d % 128 + 128 * V) := by
                      show _ = _
                      rw [val_down _ 9 j (by omega) hll, ← HV.out, getD_drop s a j (by omega), hd]
                    have hN : d % 128 + 128 * V < 18446744073709551616 := by
                      have h1 := val_drop_le j ((s.data.toList.drop a).take (9 + 1))
                      rw [hvs.out] at h1
                      have := HVL.out
                      omega
                    have hji : ((a : Int) + (j : Int)) < (s.size : Int) := by omega
                    have hjl : a + j < s.size := by omega
                    have hw := u64_down V d hd128 hd256 hN
                    have hvb : (V : Int) * 128 ≤ 18446744073709551615 := by omega
                    have HN := Lib.hid hN
                    clear hN
                    generalize hNN : d % 128 + 128 * V = N at *
                    clear hNN
                    go_wp2
                    go_round
                    case rel => first | exact TRel.mk j N (by omega) (by first | rfl | go_num) rfl hvs.out.symm | (refine ⟨trivial, ?_⟩; (repeat apply Exists.intro); exact ⟨TRel.mk j N (by omega) (by first | rfl | go_num) rfl hvs.out.symm, rfl⟩)
                    case measure => first | (simp [intOf]; done) | (simp [intOf]; omega)

              · have h9i : ¬ ((k : Int) = 9) := by omega
                have hst : Hid (val (((s.data.toList.drop a).take (k + 1)).drop k) = c) := by
                  show _ = _
                  rw [val_last _ k hll, HC.out]; omega
                go_wp2
                go_loop [9, 10] (fun v i => TRel (s.data.toList.drop a) k v i) (fun _ i => (intOf i + 1).toNat)
                case atStart => exact TRel.mk k c (Nat.le_refl _) (by first | rfl | go_num) rfl hst.out.symm
                case round =>
                  obtain ⟨q, V, hq, rfl, rfl, hV⟩ := hrel
                  have HV := Lib.hid hV
                  clear hV
                  cases q with
                  | zero =>
                    rw [show ((0 : Nat) : Int) - 1 = -1 by decide]
                    go_wp2
                    go_ret3
                    exact ⟨ret3 (by rw [HD.out.2.1, HV.out]; rfl) (by rw [HD.out.2.2]; go_num) (by rw [HD.out.1]), rfl⟩
                  | succ j =>
                    rw [show ((j + 1 : Nat) : Int) - 1 = (j : Int) by omega]
                    obtain ⟨d, hd⟩ : ∃ d : Nat, s[a + j].toNat = d := ⟨_, rfl⟩
                    have hd256 : d < 256 := by rw [← hd]; exact s[a + j].toNat_lt
                    have hd128 : 128 ≤ d := by rw [← hd, ← getD_drop s a j (by omega)]; exact HJ.out j (by omega)
                    have hvs : Hid (val (((s.data.toList.drop a).take (k + 1)).drop j) = d % 128 + 128 * V) := by
                      show _ = _
                      rw [val_down _ k j (by omega) hll, ← HV.out, getD_drop s a j (by omega), hd]
                    have hN : d % 128 + 128 * V < 18446744073709551616 := by
                      have h1 := val_drop_le j ((s.data.toList.drop a).take (k + 1))
                      rw [hvs.out] at h1
                      have := HVL.out
                      omega
                    have hji : ((a : Int) + (j : Int)) < (s.size : Int) := by omega
                    have hjl : a + j < s.size := by omega
                    have hw := u64_down V d hd128 hd256 hN
                    have hvb : (V : Int) * 128 ≤ 18446744073709551615 := by omega
                    have HN := Lib.hid hN
                    clear hN
                    generalize hNN : d % 128 + 128 * V = N at *
                    clear hNN
                    go_wp2
                    go_round
                    case rel => first | exact TRel.mk j N (by omega) (by first | rfl | go_num) rfl hvs.out.symm | (refine ⟨trivial, ?_⟩; (repeat apply Exists.intro); exact ⟨TRel.mk j N (by omega) (by first | rfl | go_num) rfl hvs.out.symm, rfl⟩)
                    case measure => first | (simp [intOf]; done) | (simp [intOf]; omega)

            · have hk0i : ¬ (0 : Int) < (k : Int) := by omega
              have h9i : ¬ ((k : Int) = 9) := by omega
              have hst : Hid (val (((s.data.toList.drop a).take (k + 1)).drop k) = c) := by
                show _ = _
                rw [val_last _ k hll, HC.out]; omega
              go_wp2
              go_loop [9, 10] (fun v i => TRel (s.data.toList.drop a) k v i) (fun _ i => (intOf i + 1).toNat)
              case atStart => exact TRel.mk k c (Nat.le_refl _) (by first | rfl | go_num) rfl hst.out.symm
              case round =>
                obtain ⟨q, V, hq, rfl, rfl, hV⟩ := hrel
                have HV := Lib.hid hV
                clear hV
                cases q with
                | zero =>
                  rw [show ((0 : Nat) : Int) - 1 = -1 by decide]
                  go_wp2
                  go_ret3
                  exact ⟨ret3 (by rw [HD.out.2.1, HV.out]; rfl) (by rw [HD.out.2.2]; go_num) (by rw [HD.out.1]), rfl⟩
                | succ j => exact absurd hq (by omega)
      · have hlti : ¬ ((a : Int) + (k : Int) < (s.size : Int)) := by omega
        have hki9 : ¬ ((k : Int) = 10) := by omega
        have hlen : ((s.size : Int) ≤ (a : Int) + (k : Int)) := by omega
        have hd := d_short (s.data.toList.drop a) (by rw [HSZ.out]; omega) (fun j hj => HJ.out j (by rw [HSZ.out] at hj; omega))
        have hd2 := d_none (s.data.toList.drop a) (by rw [hd]; decide)
        have HD := Lib.hid hd
        have HD2 := Lib.hid hd2
        clear hd hd2
        go_wp2
        go_ret3
        exact ⟨ret3 (by rw [HD2.out.1]; rfl) (by rw [HD2.out.2]; rfl) (by rw [HD.out]), rfl⟩
    · have hd := d_ten (s.data.toList.drop a) (by rw [HSZ.out]; omega) (fun j hj => HJ.out j (by omega))
      have hd2 := d_none (s.data.toList.drop a) (by rw [hd]; decide)
      have HD := Lib.hid hd
      have HD2 := Lib.hid hd2
      clear hd hd2
      obtain rfl : k = 10 := by omega
      go_wp2
      go_ret3
      exact ⟨ret3 (by rw [HD2.out.1]; rfl) (by rw [HD2.out.2]; rfl) (by rw [HD.out]), rfl⟩
end Go.Proofs.Ytkcmcgmonkeajaa
