/- The reference's Reader: Int, Below, Text. -/
import Derived.Test.YtkcmcgmonkeajaaRefRd
namespace Go.Proofs.Ytkcmcgmonkeajaa
open Go.RowKit

theorem refNumber_ok (p : Nat) (s : ByteArray) (a : Nat) (w : World) (hs : s.size ≤ 1099511627776) (h : RfAt w p s a 0) :
    Calls Try.prog 22 #[.pointer (some ⟨p, 0, none⟩)] w fun e w' => e = .returned (.int .u64 (dV (s.data.toList.drop a) : Nat)) ∧ RfAt w' p s (a + dK (s.data.toList.drop a)) (dE (s.data.toList.drop a)) ∧ But p w w' := by
  have := refNumber_any p s a 0 w hs h
  simp only [stA0, stE0, if_true] at this
  exact this
theorem refNumber_err (p : Nat) (s : ByteArray) (a : Nat) (er : Int) (w : World) (hs : s.size ≤ 1099511627776) (he : er ≠ 0) (h : RfAt w p s a er) :
    Calls Try.prog 22 #[.pointer (some ⟨p, 0, none⟩)] w fun e w' => e = .returned (.int .u64 0) ∧ RfAt w' p s a er ∧ But p w w' := by
  have := refNumber_any p s a er w hs h
  simp only [stA1 he, stE1 he, if_neg he] at this
  exact this

set_option maxHeartbeats 4000000 in
theorem refInt_any (p : Nat) (s : ByteArray) (a : Nat) (er : Int) (w : World) (hs : s.size ≤ 1099511627776) (h : RfAt w p s a er) :
    Calls Try.prog 24 #[.pointer (some ⟨p, 0, none⟩)] w fun e w' => (e = .returned (.int .i64 (if er = 0 then Lib.unzigzag (dV (s.data.toList.drop a)) else 0))) ∧ RfAt w' p s (stA er a (dK (s.data.toList.drop a))) (stE er (dE (s.data.toList.drop a))) ∧ But p w w' := by
  by_cases he : er = 0
  · subst he
    simp only [stA0, stE0, if_true]
    have hn := refNumber_ok p s a w hs h
    have hnone := fun hh => d_none (s.data.toList.drop a) hh
    have hvl := dV_lt (s.data.toList.drop a)
    generalize hVV : dV (s.data.toList.drop a) = V at *
    generalize hKK : dK (s.data.toList.drop a) = D at *
    generalize hEE : dE (s.data.toList.drop a) = E at *
    clear hVV hKK hEE h
    by_cases hE : E = 0
    · subst hE
      clear hnone
      go_enter Try.func24, Try.ntmps24
      go_wp2_with fail
      refine hn.mono ?_
      rintro e w2 ⟨rfl, r2, k2⟩
      have c2 := r2.c2
      have R2 := Lib.hid r2
      clear r2
      go_wp2_with fail
      refine (zag_any V _ hvl).mono ?_
      rintro e w3 ⟨rfl, rfl⟩
      go_wp2
      go_ret
      exact ⟨rfl, R2.out, k2⟩
    · have HN := Lib.hid (hnone hE)
      have hd : (E != 0) = true := by simpa using hE
      clear hnone hE
      go_enter Try.func24, Try.ntmps24
      go_wp2_with fail
      refine hn.mono ?_
      rintro e w2 ⟨rfl, r2, k2⟩
      have c2 := r2.c2
      have R2 := Lib.hid r2
      clear r2
      go_wp2
      go_ret
      exact ⟨by rw [(HN.out).1]; rfl, R2.out, k2⟩
  · have hn := refNumber_err p s a er w hs he h
    simp only [stA1 he, stE1 he, if_neg he]
    have hd : (er != 0) = true := by simpa using he
    clear he h
    go_enter Try.func24, Try.ntmps24
    go_wp2_with fail
    refine hn.mono ?_
    rintro e w2 ⟨rfl, r2, k2⟩
    have c2 := r2.c2
    have R2 := Lib.hid r2
    clear r2
    go_wp2
    go_ret
    exact ⟨rfl, R2.out, k2⟩

set_option maxHeartbeats 4000000 in
theorem refBelow_any (p : Nat) (s : ByteArray) (a : Nat) (er : Int) (n : Int) (w : World) (hs : s.size ≤ 1099511627776) (hn0 : -9223372036854775808 ≤ n) (hn1 : n ≤ 9223372036854775807) (h : RfAt w p s a er) :
    Calls Try.prog 26 #[.pointer (some ⟨p, 0, none⟩), .int .i64 n] w fun e w' => (e = .returned (.int .i64 ((if er = 0 then uV (s.data.toList.drop a) (max n 0 - 1) else 0 : Nat) : Nat))) ∧ RfAt w' p s (stA er a (uK (s.data.toList.drop a) (max n 0 - 1))) (stE er (uE (s.data.toList.drop a) (max n 0 - 1))) ∧ But p w w' := by
  have h1 := h.c1
  have ha := h.2
  by_cases he : er = 0
  · subst he
    simp only [stA0, stE0, if_true]
    have hn := refNumber_ok p s a w hs h
    have hvl := dV_lt (s.data.toList.drop a)
    by_cases hE : dE (s.data.toList.drop a) = 0
    · by_cases hm : max n 0 - 1 < 0 ∨ max n 0 - 1 < (dV (s.data.toList.drop a) : Int)
      · have HD := Lib.hid (uE_much hE hm)
        rw [hE] at hn
        generalize hVV : dV (s.data.toList.drop a) = V at *
        generalize hKK : dK (s.data.toList.drop a) = D at *
        clear hVV hKK hE h
        by_cases hneg : n ≤ 0
        · clear hm
          go_enter Try.func26, Try.ntmps26
          go_wp2_with fail
          refine hn.mono ?_
          rintro e w2 ⟨rfl, r2, k2⟩
          have c1 := r2.c1
          have c2 := r2.c2
          have f1 := r2.f 1
          have R2 := Lib.hid (r2.set1 a ha a rfl)
          have K2 := Lib.hid (k2.set 1 (.int .i64 a))
          clear r2 k2
          go_wp2_with fail
          refine (failed p s a 0 22 _ R2.out).mono ?_
          rintro e w3 ⟨rfl, r3, k3⟩
          have R3 := Lib.hid r3
          have K3 := Lib.hid (K2.out.trans k3)
          clear r3 k3
          go_wp2
          go_ret
          exact ⟨by rw [HD.out.2.1]; rfl, by rw [HD.out.1, HD.out.2.2]; exact R3.out, K3.out⟩
        · have hge : n ≤ (V : Int) := by omega
          clear hm
          go_enter Try.func26, Try.ntmps26
          go_wp2_with fail
          refine hn.mono ?_
          rintro e w2 ⟨rfl, r2, k2⟩
          have c1 := r2.c1
          have c2 := r2.c2
          have f1 := r2.f 1
          have R2 := Lib.hid (r2.set1 a ha a rfl)
          have K2 := Lib.hid (k2.set 1 (.int .i64 a))
          clear r2 k2
          go_wp2_with fail
          refine (failed p s a 0 22 _ R2.out).mono ?_
          rintro e w3 ⟨rfl, r3, k3⟩
          have R3 := Lib.hid r3
          have K3 := Lib.hid (K2.out.trans k3)
          clear r3 k3
          go_wp2
          go_ret
          exact ⟨by rw [HD.out.2.1]; rfl, by rw [HD.out.1, HD.out.2.2]; exact R3.out, K3.out⟩
      · have HD := Lib.hid (uE_ok hE hm)
        rw [hE] at hn
        generalize hVV : dV (s.data.toList.drop a) = V at *
        generalize hKK : dK (s.data.toList.drop a) = D at *
        clear hVV hKK hE h
        have hneg : ¬ n ≤ 0 := by omega
        have hge : ¬ n ≤ (V : Int) := by omega
        clear hm
        go_enter Try.func26, Try.ntmps26
        go_wp2_with fail
        refine hn.mono ?_
        rintro e w2 ⟨rfl, r2, k2⟩
        have c2 := r2.c2
        have R2 := Lib.hid r2
        clear r2
        go_wp2
        go_ret
        exact ⟨by rw [HD.out.2.1]; rfl, by rw [HD.out.1, HD.out.2.2]; exact R2.out, k2⟩
    · have HD := Lib.hid (uE_bad (m := max n 0 - 1) hE)
      have HN := Lib.hid (d_none _ hE)
      have hd : (dE (s.data.toList.drop a) != 0) = true := by simpa using hE
      rw [(d_none _ hE).2, Nat.add_zero] at hn
      generalize hEE : dE (s.data.toList.drop a) = E at *
      clear hEE hE h
      go_enter Try.func26, Try.ntmps26
      go_wp2_with fail
      refine hn.mono ?_
      rintro e w2 ⟨rfl, r2, k2⟩
      have c2 := r2.c2
      have R2 := Lib.hid r2
      clear r2
      go_wp2
      go_ret
      exact ⟨by rw [HD.out.2.1]; rfl, by rw [HD.out.1, HD.out.2.2]; exact R2.out, k2⟩
  · have hn := refNumber_err p s a er w hs he h
    simp only [stA1 he, stE1 he, if_neg he]
    have hd : (er != 0) = true := by simpa using he
    clear he h
    go_enter Try.func26, Try.ntmps26
    go_wp2_with fail
    refine hn.mono ?_
    rintro e w2 ⟨rfl, r2, k2⟩
    have c2 := r2.c2
    have R2 := Lib.hid r2
    clear r2
    go_wp2
    go_ret
    exact ⟨rfl, R2.out, k2⟩
end Go.Proofs.Ytkcmcgmonkeajaa
