/- The reference's Reader: Ints. -/
import Derived.Test.YtkcmcgmonkeajaaRefRd3
namespace Go.Proofs.Ytkcmcgmonkeajaa
open Go.RowKit

theorem own_but {p B : Nat} {w w' : World} {e : TypeId} {v : Value} {n : Nat} {xs : List Value} (h : w.ownsRow B e 1 v n xs) (hb : But p w w') (hp : p < B) : w'.ownsRow B e 1 v n xs := by
  refine h.kept (row := some p) hb ?_
  cases hv : v.ownBlock with
  | none => exact .inl rfl
  | some g => right; have := h.lt g hv; simp; omega
theorem but_grown {p : Nat} {w a b : World} {row : Option Nat} (h : But p w a) (o : Obj) (hg : (a.alloc o).grownBy b row) (hrow : ∀ k, row = some k → w.heap.size ≤ k) : But p w b :=
  ⟨hg.os.trans h.os, hg.tape.trans h.tape, hg.output.trans h.output, by have := hg.size; have := h.size; simp at *; omega,
    fun k hk hne => (hg.block k (by have := h.size; simp; omega) (fun e => by have := hrow k e.symm; omega)).trans ((Below.heap_alloc a o k (by have := h.size; omega)).trans (h.block k hk hne))⟩
theorem rf_grown {p : Nat} {s : ByteArray} {q : Nat} {e : Int} {a b : World} {row : Option Nat} {o : Obj} (h : RfAt a p s q e) (hg : (a.alloc o).grownBy b row) (hrow : ∀ k, row = some k → p < k) : RfAt b p s q e := by
  refine ⟨?_, h.2⟩
  rw [hg.block p (by have := h.lt; simp; omega) (fun e => by have := hrow p e.symm; omega), Below.heap_alloc a o p h.lt]
  exact h.1

theorem refInt_ok (p : Nat) (s : ByteArray) (a : Nat) (w : World) (hs : s.size ≤ 1099511627776) (h : RfAt w p s a 0) :
    Calls Try.prog 24 #[.pointer (some ⟨p, 0, none⟩)] w fun e w' => e = .returned (.int .i64 (Lib.unzigzag (dV (s.data.toList.drop a)))) ∧ RfAt w' p s (a + dK (s.data.toList.drop a)) (dE (s.data.toList.drop a)) ∧ But p w w' := by
  have := refInt_any p s a 0 w hs h
  simp only [stA0, stE0, if_true] at this
  exact this

set_option maxRecDepth 100000 in
set_option maxHeartbeats 8000000 in
theorem refInts_any (p : Nat) (s : ByteArray) (a : Nat) (er : Int) (n : Int) (w : World) (hs : s.size ≤ 1099511627776) (hn0 : -9223372036854775808 ≤ n) (hn1 : n ≤ 9223372036854775807) (h : RfAt w p s a er) :
    Calls Try.prog 31 #[.pointer (some ⟨p, 0, none⟩), .int .i64 n] w fun e w' => (∃ v, e = .returned v ∧ ListNew w.heap.size w' v (if er = 0 then lV (s.data.toList.drop a) n else []).length (cellsOf intC (if er = 0 then lV (s.data.toList.drop a) n else []))) ∧ RfAt w' p s (stA er a (lK (s.data.toList.drop a) n)) (stE er (lE (s.data.toList.drop a) n)) ∧ But p w w' := by
  have h1 := h.c1
  have ha := h.2
  have hplt := h.lt
  have hll : (s.data.toList.drop a).length = s.size - a := by rw [List.length_drop, ← Lib.size_eq]
  by_cases he : er = 0
  · subst he
    simp only [stA0, stE0, if_true]
    have hn := refNumber_ok p s a w hs h
    have hvl := dV_lt (s.data.toList.drop a)
    have hdk := dK_le (s.data.toList.drop a)
    rw [hll] at hdk
    by_cases hE : dE (s.data.toList.drop a) = 0
    · by_cases hm : n < 0 ∨ n < (dV (s.data.toList.drop a) : Int)
      · have hu := uE_much hE hm
        have HD : Hid (lE (s.data.toList.drop a) n = 22 ∧ lV (s.data.toList.drop a) n = [] ∧ lK (s.data.toList.drop a) n = 0) := by
          have := lE_bad (m := n) (l := s.data.toList.drop a) (by rw [hu.1]; decide)
          rw [hu.1] at this; exact this
        rw [hE] at hn
        generalize hVV : dV (s.data.toList.drop a) = V at *
        generalize hKK : dK (s.data.toList.drop a) = D at *
        clear hVV hKK hE h hu hll
        by_cases hneg : n < 0
        · clear hm
          go_enter Try.func31, Try.ntmps31
          go_wp2_with fail
          refine hn.mono ?_
          rintro e w2 ⟨rfl, r2, k2⟩
          have c0 := r2.c0
          have c1 := r2.c1
          have c2 := r2.c2
          have f1 := r2.f 1
          have R2 := Lib.hid (r2.set1 a ha a rfl)
          have K2 := Lib.hid (k2.set 1 (.int .i64 a))
          clear r2 k2
          go_wp2_with fail
          refine (failed p s a 0 22 _ R2.out).mono ?_
          rintro e w3 ⟨rfl, r3, k3⟩
          have R3 := Lib.hid r3
          have K3 := Lib.hid (K2.out.trans k3)
          clear r3 k3
          go_wp2
          go_ret
          exact ⟨⟨_, rfl, listAt_nil' _ _ _ _ HD.out.2.1⟩, by rw [HD.out.1, HD.out.2.2]; exact R3.out, K3.out⟩
        · have hgt : n < (V : Int) := by omega
          clear hm
          go_enter Try.func31, Try.ntmps31
          go_wp2_with fail
          refine hn.mono ?_
          rintro e w2 ⟨rfl, r2, k2⟩
          have c0 := r2.c0
          have c1 := r2.c1
          have c2 := r2.c2
          have f1 := r2.f 1
          have R2 := Lib.hid (r2.set1 a ha a rfl)
          have K2 := Lib.hid (k2.set 1 (.int .i64 a))
          clear r2 k2
          go_wp2_with fail
          refine (failed p s a 0 22 _ R2.out).mono ?_
          rintro e w3 ⟨rfl, r3, k3⟩
          have R3 := Lib.hid r3
          have K3 := Lib.hid (K2.out.trans k3)
          clear r3 k3
          go_wp2
          go_ret
          exact ⟨⟨_, rfl, listAt_nil' _ _ _ _ HD.out.2.1⟩, by rw [HD.out.1, HD.out.2.2]; exact R3.out, K3.out⟩
      · have hu := uE_ok hE hm
        have hneg : ¬ n < 0 := by omega
        have hgt : ¬ n < (dV (s.data.toList.drop a) : Int) := by omega
        rw [hE] at hn
        have HW := Lib.hid (fun h => lE_wrong (m := n) hu.1 h)
        have HO := Lib.hid (fun h => lE_ok (m := n) hu.1 h)
        rw [hu.2.1, hu.2.2, List.drop_drop] at HW HO
        have haq : a + dK (s.data.toList.drop a) ≤ s.size := by omega
        generalize hVV : dV (s.data.toList.drop a) = V at *
        generalize hKK : dK (s.data.toList.drop a) = D at *
        clear hVV hKK hE h hu hll hm
        obtain ⟨q, hq⟩ : ∃ q, q = a + D := ⟨_, rfl⟩
        have HQ := Lib.hid hq
        rw [← hq] at hn haq HW HO
        clear hq
        obtain ⟨i0, hi, hz0, hz1, hz2⟩ := info_parts info_int
        go_enter Try.func31, Try.ntmps31
        go_wp2_with fail
        refine hn.mono ?_
        rintro e w2 ⟨rfl, r2, k2⟩
        have c2 := r2.c2
        have R2 := Lib.hid r2
        clear r2
        go_wp2
        go_loopw [7, 8] (fun v i wr => ∃ (j A : Nat) (xs : List Int), i = .int .u64 j ∧ RfAt wr p s A 0 ∧ j ≤ A ∧ xs.length = j ∧ wr.ownsRow w.heap.size 3 1 v j (cellsOf intC xs) ∧ But p w wr ∧ IsRel V (s.data.toList.drop q) q s.data.toList j A xs)
          (fun _ i _ => V - (intOf i).toNat)
        case atStart => exact ⟨0, q, [], rfl, R2.out, Nat.zero_le _, rfl, World.ownsRow_nil _ _ _ _, k2, IsRel.start V q _⟩
        case round =>
          obtain ⟨j, A, xs, rfl, hrf, hjA, hxl, hown, hbut, hrel⟩ := hrel
          have HR := Lib.hid hrel
          have hjV := hrel.1
          have HX := Lib.hid hxl
          have HF := Lib.hid hrf
          have hAs := hrf.2
          clear hrel hxl hrf
          by_cases hlt : j < V
          · have hri := refInt_ok p s A wr hs HF.out
            have hkd := dK_le (s.data.toList.drop A)
            rw [List.length_drop, ← Lib.size_eq] at hkd
            by_cases hE2 : dE (s.data.toList.drop A) = 0
            · have HS := Lib.hid (HR.out.step hlt hE2)
              have hkp := (uv_again _ hE2).2.2
              rw [hE2] at hri
              clear hE2
              generalize hVV : Lib.unzigzag (dV (s.data.toList.drop A)) = x at *
              generalize hKK : dK (s.data.toList.drop A) = E at *
              clear hVV hKK
              go_wp2_with fail
              refine hri.mono ?_
              rintro e w3 ⟨rfl, r3, k3⟩
              have c3 := r3.c2
              have R3 := Lib.hid r3
              have hown3 := own_but hown k3 hplt
              have hbut3 := But.trans hbut k3
              have hsz3 := hbut3.size
              clear r3 k3 hown hbut
              go_wp2_with (at_builtin; refine wpList_append_own _ rfl _ _ 25 rfl w.heap.size 3 i0 (.int .i64 0) 1 8 Try.underlying25 hi hz0 hz1 hz2 rfl (by decide) _ _ _ rfl (hown3.alloc _) ⟨w3.heap.size, 0, none⟩ 1 1 [.int .i64 x] rfl rfl ?c1 ?c2 ?c3 ?c4 ?c5 ?_)
              case c1 =>
                intro i u hu
                match i, hu with
                | 0, hu => simp at hu; subst hu; simp [Addr.add]
              case c2 => intro u hu; simp at hu; subst hu; rfl
              case c3 => unfold maxLen; omega
              case c4 => omega
              case c5 => simp; omega
              intro v' w4 hown' hgrow _
              have R4 := Lib.hid (rf_grown R3.out hgrow (fun k hk => by have := (hown3.lt k hk).1; omega))
              have B4 := Lib.hid (but_grown hbut3 _ hgrow (fun k hk => (hown3.lt k hk).1))
              have HOW := Lib.hid hown'
              clear hown3 hgrow hbut3 hown'
              go_wp2
              go_roundw
              case rel => exact ⟨j + 1, A + E, xs ++ [x], by go_num, R4.out, by omega, by rw [List.length_append, HX.out]; rfl, by simpa [cellsOf] using HOW.out, B4.out, HS.out⟩
              case measure => simp [intOf]; omega
            · have hst := HR.out.stop hlt hE2
              have HD := Lib.hid (HW.out (by rw [hst]; exact hE2))
              have HST := Lib.hid hst
              have hEb : (dE (s.data.toList.drop A) != 0) = true := by simpa using hE2
              clear hE2 hst
              generalize hVV : Lib.unzigzag (dV (s.data.toList.drop A)) = x at *
              generalize hKK : dK (s.data.toList.drop A) = G at *
              generalize hEE : dE (s.data.toList.drop A) = E at *
              clear hVV hKK hEE
              go_wp2_with fail
              refine hri.mono ?_
              rintro e w3 ⟨rfl, r3, k3⟩
              have c3 := r3.c2
              have c4 := r3.c1
              have f3 := r3.f 1
              have R3 := Lib.hid (r3.set1 a ha a rfl)
              have B3 := Lib.hid ((But.trans hbut k3).set 1 (.int .i64 a))
              clear r3 k3
              go_wp2
              go_ret
              exact ⟨⟨_, rfl, listAt_nil' _ _ _ _ HD.out.2.1⟩, by rw [HD.out.1, HST.out, HD.out.2.2]; exact R3.out, B3.out⟩
          · have hjv : j = V := by omega
            have hf : Hid ((isR V (s.data.toList.drop q)).1 = 0 ∧ (isR V (s.data.toList.drop q)).2.1 = xs ∧ q + (isR V (s.data.toList.drop q)).2.2 = A) := by
              have h := HR.out
              rw [hjv] at h
              exact h.fin
            have HD := Lib.hid (HO.out hf.out.1)
            have HL := Lib.hid (ListNew.of_own hown)
            clear hjv
            go_wp2
            go_ret
            refine ⟨⟨_, rfl, ?_⟩, ?_, hbut⟩
            · rw [HD.out.2.1, hf.out.2.1, HX.out]
              exact HL.out
            · have e1 : a + (D + (isR V (s.data.toList.drop q)).2.2) = A := by have := hf.out.2.2; have := HQ.out; omega
              rw [HD.out.1, HD.out.2.2, e1]
              exact HF.out
    · have hu := uE_bad (m := n) hE
      have HD : Hid (lE (s.data.toList.drop a) n = dE (s.data.toList.drop a) ∧ lV (s.data.toList.drop a) n = [] ∧ lK (s.data.toList.drop a) n = 0) := by
        have := lE_bad (m := n) (l := s.data.toList.drop a) (by rw [hu.1]; exact hE)
        rw [hu.1] at this; exact this
      have hd : (dE (s.data.toList.drop a) != 0) = true := by simpa using hE
      rw [(d_none _ hE).2, Nat.add_zero] at hn
      generalize hEE : dE (s.data.toList.drop a) = E at *
      clear hEE hE h hu
      go_enter Try.func31, Try.ntmps31
      go_wp2_with fail
      refine hn.mono ?_
      rintro e w2 ⟨rfl, r2, k2⟩
      have c2 := r2.c2
      have R2 := Lib.hid r2
      clear r2
      go_wp2
      go_ret
      exact ⟨⟨_, rfl, listAt_nil' _ _ _ _ HD.out.2.1⟩, by rw [HD.out.1, HD.out.2.2]; exact R2.out, k2⟩
  · have hn := refNumber_err p s a er w hs he h
    simp only [stA1 he, stE1 he, if_neg he]
    have hd : (er != 0) = true := by simpa using he
    clear he h
    go_enter Try.func31, Try.ntmps31
    go_wp2_with fail
    refine hn.mono ?_
    rintro e w2 ⟨rfl, r2, k2⟩
    have c2 := r2.c2
    have R2 := Lib.hid r2
    clear r2
    go_wp2
    go_ret
    exact ⟨⟨_, rfl, listAt_nil _ _ _⟩, R2.out, k2⟩
end Go.Proofs.Ytkcmcgmonkeajaa
