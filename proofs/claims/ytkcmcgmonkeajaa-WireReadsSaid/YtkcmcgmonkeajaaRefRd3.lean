/- The reference's Reader: Text. -/
import Derived.Test.YtkcmcgmonkeajaaRefRd2
namespace Go.Proofs.Ytkcmcgmonkeajaa
open Go.RowKit

set_option maxHeartbeats 8000000 in
theorem refText_any (p : Nat) (s : ByteArray) (a : Nat) (er : Int) (n : Int) (w : World) (hs : s.size ≤ 1099511627776) (hn0 : -9223372036854775808 ≤ n) (hn1 : n ≤ 9223372036854775807) (h : RfAt w p s a er) :
    Calls Try.prog 28 #[.pointer (some ⟨p, 0, none⟩), .int .i64 n] w fun e w' => (e = .returned (.string (if er = 0 then tV (s.data.toList.drop a) n else ⟨#[]⟩))) ∧ RfAt w' p s (stA er a (tK (s.data.toList.drop a) n)) (stE er (tE (s.data.toList.drop a) n)) ∧ But p w w' := by
  have h1 := h.c1
  have ha := h.2
  have hll : (s.data.toList.drop a).length = s.size - a := by rw [List.length_drop, ← Lib.size_eq]
  by_cases he : er = 0
  · subst he
    simp only [stA0, stE0, if_true]
    have hn := refNumber_ok p s a w hs h
    have hvl := dV_lt (s.data.toList.drop a)
    have hdk := dK_le (s.data.toList.drop a)
    rw [hll] at hdk
    by_cases hE : dE (s.data.toList.drop a) = 0
    · by_cases hm : n < 0 ∨ n < (dV (s.data.toList.drop a) : Int)
      · have hu := uE_much hE hm
        have HD : Hid (tE (s.data.toList.drop a) n = 22 ∧ tV (s.data.toList.drop a) n = ⟨#[]⟩ ∧ tK (s.data.toList.drop a) n = 0) := by
          have := tE_bad (m := n) (l := s.data.toList.drop a) (by rw [hu.1]; decide)
          rw [hu.1] at this; exact this
        rw [hE] at hn
        generalize hVV : dV (s.data.toList.drop a) = V at *
        generalize hKK : dK (s.data.toList.drop a) = D at *
        clear hVV hKK hE h hu hll
        by_cases hneg : n < 0
        · clear hm
          go_enter Try.func28, Try.ntmps28
          go_wp2_with fail
          refine hn.mono ?_
          rintro e w2 ⟨rfl, r2, k2⟩
          have c0 := r2.c0
          have c1 := r2.c1
          have c2 := r2.c2
          have f1 := r2.f 1
          have R2 := Lib.hid (r2.set1 a ha a rfl)
          have K2 := Lib.hid (k2.set 1 (.int .i64 a))
          clear r2 k2
          go_wp2_with fail
          refine (failed p s a 0 22 _ R2.out).mono ?_
          rintro e w3 ⟨rfl, r3, k3⟩
          have R3 := Lib.hid r3
          have K3 := Lib.hid (K2.out.trans k3)
          clear r3 k3
          go_wp2
          go_ret
          exact ⟨by rw [HD.out.2.1]; rfl, by rw [HD.out.1, HD.out.2.2]; exact R3.out, K3.out⟩
        · have hgt : n < (V : Int) := by omega
          clear hm
          go_enter Try.func28, Try.ntmps28
          go_wp2_with fail
          refine hn.mono ?_
          rintro e w2 ⟨rfl, r2, k2⟩
          have c0 := r2.c0
          have c1 := r2.c1
          have c2 := r2.c2
          have f1 := r2.f 1
          have R2 := Lib.hid (r2.set1 a ha a rfl)
          have K2 := Lib.hid (k2.set 1 (.int .i64 a))
          clear r2 k2
          go_wp2_with fail
          refine (failed p s a 0 22 _ R2.out).mono ?_
          rintro e w3 ⟨rfl, r3, k3⟩
          have R3 := Lib.hid r3
          have K3 := Lib.hid (K2.out.trans k3)
          clear r3 k3
          go_wp2
          go_ret
          exact ⟨by rw [HD.out.2.1]; rfl, by rw [HD.out.1, HD.out.2.2]; exact R3.out, K3.out⟩
      · have hu := uE_ok hE hm
        have hneg : ¬ n < 0 := by omega
        have hgt : ¬ n < (dV (s.data.toList.drop a) : Int) := by omega
        rw [hE] at hn
        by_cases hsh : (s.data.toList.drop a).length < dK (s.data.toList.drop a) + dV (s.data.toList.drop a)
        · have HD := Lib.hid (tE_short hu.1 (by rw [hu.2.1, hu.2.2]; exact hsh))
          have hshi : (s.size : Int) - ((a + dK (s.data.toList.drop a) : Nat) : Int) < (dV (s.data.toList.drop a) : Int) := by omega
          have haq : a + dK (s.data.toList.drop a) ≤ s.size := by omega
          generalize hVV : dV (s.data.toList.drop a) = V at *
          generalize hKK : dK (s.data.toList.drop a) = D at *
          clear hVV hKK hE h hu hll hm hsh
          generalize hq : a + D = q at *
          clear hq
          go_enter Try.func28, Try.ntmps28
          go_wp2_with fail
          refine hn.mono ?_
          rintro e w2 ⟨rfl, r2, k2⟩
          have c0 := r2.c0
          have c1 := r2.c1
          have c2 := r2.c2
          have f1 := r2.f 1
          have R1 := Lib.hid r2
          have K1 := Lib.hid k2
          clear r2 k2
          go_wp2
          go_quiet (fail)
          have d1 : (w2.drewN nq).cell? ⟨p, 1, none⟩ = some (.int .i64 q) := by simpa using c1
          have R2 := Lib.hid ((R1.out.drewN nq).set1 a ha a rfl)
          have K2 := Lib.hid ((K1.out.drewN nq).set 1 (.int .i64 a))
          go_wp2_with fail
          refine (failed p s a 0 20 _ R2.out).mono ?_
          rintro e w3 ⟨rfl, r3, k3⟩
          have R3 := Lib.hid r3
          have K3 := Lib.hid (K2.out.trans k3)
          clear r3 k3
          go_wp2
          go_ret
          exact ⟨by rw [HD.out.2.1]; rfl, by rw [HD.out.1, HD.out.2.2]; exact R3.out, K3.out⟩
        · have hd := tE_ok hu.1 (by rw [hu.2.1, hu.2.2]; exact hsh)
          rw [hu.2.1, hu.2.2, List.drop_drop] at hd
          have HD := Lib.hid hd
          have hshi : ¬ ((s.size : Int) - ((a + dK (s.data.toList.drop a) : Nat) : Int) < (dV (s.data.toList.drop a) : Int)) := by omega
          have haq : a + dK (s.data.toList.drop a) ≤ s.size := by omega
          have hfit : a + dK (s.data.toList.drop a) + dV (s.data.toList.drop a) ≤ s.size := by omega
          generalize hVV : dV (s.data.toList.drop a) = V at *
          generalize hKK : dK (s.data.toList.drop a) = D at *
          clear hVV hKK hE h hu hll hm hsh hd
          have HQ : Hid (a + (D + V) = a + D + V) := by show _ = _; omega
          generalize hq : a + D = q at *
          clear hq
          have hf1 : (q : Int) ≤ (q : Int) + (V : Int) := by omega
          have hf2 : (q : Int) + (V : Int) ≤ (s.size : Int) := by omega
          go_enter Try.func28, Try.ntmps28
          go_wp2_with fail
          refine hn.mono ?_
          rintro e w2 ⟨rfl, r2, k2⟩
          have c0 := r2.c0
          have c1 := r2.c1
          have c2 := r2.c2
          have f1 := r2.f 1
          have R1 := Lib.hid r2
          have K1 := Lib.hid k2
          clear r2 k2
          go_wp2
          go_quiet (fail)
          go_wp2
          go_quiet (fail)
          go_wp2
          go_ret
          refine ⟨?_, ?_, ?_⟩
          · rw [HD.out.2.1, ← extract_eq s q V]; rfl
          · rw [HD.out.1, HD.out.2.2, HQ.out]
            first | exact RfAt.set1 (R1.out.drewN _) _ hfit _ (by first | rfl | omega) | exact RfAt.set1 ((R1.out.drewN _).drewN _) _ hfit _ (by first | rfl | omega)
          · first | exact (K1.out.drewN _).set _ _ | exact ((K1.out.drewN _).drewN _).set _ _
    · have hu := uE_bad (m := n) hE
      have HD : Hid (tE (s.data.toList.drop a) n = dE (s.data.toList.drop a) ∧ tV (s.data.toList.drop a) n = ⟨#[]⟩ ∧ tK (s.data.toList.drop a) n = 0) := by
        have := tE_bad (m := n) (l := s.data.toList.drop a) (by rw [hu.1]; exact hE)
        rw [hu.1] at this; exact this
      have hd : (dE (s.data.toList.drop a) != 0) = true := by simpa using hE
      rw [(d_none _ hE).2, Nat.add_zero] at hn
      generalize hEE : dE (s.data.toList.drop a) = E at *
      clear hEE hE h hu
      go_enter Try.func28, Try.ntmps28
      go_wp2_with fail
      refine hn.mono ?_
      rintro e w2 ⟨rfl, r2, k2⟩
      have c2 := r2.c2
      have R2 := Lib.hid r2
      clear r2
      go_wp2
      go_ret
      exact ⟨by rw [HD.out.2.1]; rfl, by rw [HD.out.1, HD.out.2.2]; exact R2.out, k2⟩
  · have hn := refNumber_err p s a er w hs he h
    simp only [stA1 he, stE1 he, if_neg he]
    have hd : (er != 0) = true := by simpa using he
    clear he h
    go_enter Try.func28, Try.ntmps28
    go_wp2_with fail
    refine hn.mono ?_
    rintro e w2 ⟨rfl, r2, k2⟩
    have c2 := r2.c2
    have R2 := Lib.hid r2
    clear r2
    go_wp2
    go_ret
    exact ⟨rfl, R2.out, k2⟩
end Go.Proofs.Ytkcmcgmonkeajaa
