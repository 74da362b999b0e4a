/- The document's disk: Cut. -/
import Derived.Test.YtnffjoflkeagfaaRef5
namespace Go.Proofs.Ytnffjoflkeagfaa
open Go.RowKit Go.Maps

theorem must_errC {s : St} {k : List UInt8} {n : Int} (he : mustE s k ≠ 0) (f1 f2 : Fs) : changeS s (cutE s k n) f1 f2 = (mustE s k, s) := by
  cases hd : s.down with
  | true => rw [changeS_down hd, mustE_down hd]
  | false =>
    rw [mustE_up hd] at he ⊢
    have hc : cutE s k n = needE s k := by
      unfold needE at he ⊢
      unfold cutE
      by_cases hl : (look s.fs k).isSome = true
      · rw [if_pos hl] at he; exact absurd rfl he
      · rw [if_neg hl, if_neg hl]
    rw [hc]
    exact changeS_err hd he _ _
theorem mk_take (l : List UInt8) (n : Nat) : (mk l).extract 0 n = mk (l.take n) := by
  apply ByteArray.ext
  rw [ByteArray.data_extract]
  apply Array.ext'
  simp [mk, List.extract]
set_option maxRecDepth 100000 in
set_option maxHeartbeats 4000000 in
theorem refCut_any {S : Nat → Prop} {w : World} {rb : Nat} {s : St} (h : RefAt S w rb s) (hc : s.fs.length ≤ 1099511627776) (name : ByteArray) (_hn : name.size ≤ 9223372036854775807) (n : Int) :
    Calls Try.prog 36 #[ptrV rb, .string name, .int .i64 n] w fun e w' => e = .returned (.int .i64 (cutS s (bs name) n).1) ∧ RefAt S w' rb (cutS s (bs name) n).2 ∧ Kept S w w' := by
  have hm := refMust_any h hc name
  by_cases he : mustE s (bs name) = 0
  · obtain ⟨hd, hne, j, f, e1, e2, e3⟩ := must_zero he
    rw [he, e1] at hm
    have HT := Lib.hid h
    obtain ⟨fv, wv, left, h⟩ := h
    have hfb : f.b.length ≤ 9223372036854775807 := by
      have := used_ge (look_mem e3); have := h.fit.room; have := h.fit.roomI; omega
    have hb := refBreaks_any h hd
    have hmine := h.mine
    obtain ⟨a, c, rfl⟩ := h.row.slice
    have c1 := h.c1
    obtain ⟨g, rfl, _, hcap, hSg, hgl, x0, x1, x2, x3, hfz⟩ := ref_row h.row e2
    have hnb : (mk f.b).size = f.b.length := mk_size _
    have hlt := (List.getElem?_eq_some_iff.1 e2).1
    have hlti : (j : Int) < (s.fs.length : Int) := by omega
    by_cases hn0 : n < 0
    · have hce : cutE s (bs name) n = 1 := by unfold cutE; rw [if_pos (by rw [e3]; rfl), if_pos (.inl hn0)]
      have HS : Hid (cutS s (bs name) n = (1, s)) := changeS_err hd (by rw [hce]; decide) _ _ |>.trans (by rw [hce])
      clear h hd hne e1 e2 e3 hb hce he hfz
      generalize cutS s (bs name) n = R at *
      go_enter Try.func36, Try.ntmps36
      go_wp2_with fail
      refine hm.mono ?_
      rintro e w1 ⟨rfl, rfl⟩
      go_wp2
      go_ret
      rw [HS.out]
      exact ⟨rfl, HT.out, Kept.refl _ _⟩
    · by_cases hn1 : (f.b.length : Int) < n
      · have hce : cutE s (bs name) n = 1 := by unfold cutE; rw [if_pos (by rw [e3]; rfl), if_pos (.inr (by rw [getF_look e3]; omega))]
        have HS : Hid (cutS s (bs name) n = (1, s)) := changeS_err hd (by rw [hce]; decide) _ _ |>.trans (by rw [hce])
        clear h hd hne e1 e2 e3 hb hce he hfz
        generalize cutS s (bs name) n = R at *
        go_enter Try.func36, Try.ntmps36
        go_wp2_with fail
        refine hm.mono ?_
        rintro e w1 ⟨rfl, rfl⟩
        go_wp2
        go_ret
        rw [HS.out]
        exact ⟨rfl, HT.out, Kept.refl _ _⟩
      · have hce : cutE s (bs name) n = 0 := by unfold cutE; rw [if_pos (by rw [e3]; rfl), if_neg (by rw [getF_look e3]; omega)]
        cases hbr : brkB s with
        | true =>
          have HS : Hid (cutS s (bs name) n = (41, { brkS s with fs := s.fs })) := changeS_torn hd hce hbr _ _
          rw [hbr] at hb
          clear h hd hne e1 e2 e3 hce he hbr hfz
          generalize cutS s (bs name) n = R at *
          go_enter Try.func36, Try.ntmps36
          go_wp2_with fail
          refine hm.mono ?_
          rintro e w1 ⟨rfl, rfl⟩
          go_wp2_with fail
          refine hb.mono ?_
          rintro e w2 ⟨rfl, ⟨wv', left', h2⟩, hg⟩
          have H2 := Lib.hid h2
          have HG := Lib.hid hg
          clear h2 hg
          go_wp2
          go_ret
          rw [HS.out]
          have h3 : RefAt S w2 rb { brkS s with fs := s.fs } := by
            have e : ({ brkS s with fs := s.fs } : St) = brkS s := by rw [← brkS_fs s]
            rw [e]; exact ⟨_, _, _, H2.out⟩
          exact ⟨rfl, h3, Kept.of_but HG.out hmine⟩
        | false =>
          have HS : Hid (cutS s (bs name) n = (0, { brkS s with fs := putF s.fs (bs name) (cutF f n.toNat) })) := by
            show _ = _
            unfold cutS
            rw [getF_look e3]
            exact changeS_whole hd hce hbr _ _
          rw [hbr] at hb
          have HE2 := Lib.hid e2
          have HE3 := Lib.hid e3
          have HFIT := Lib.hid h.fit
          have hapart : g ≠ rb := h.apart2 h.row
          clear h hd hne e1 e2 e3 hce he hbr hfz
          generalize cutS s (bs name) n = R at *
          go_enter Try.func36, Try.ntmps36
          go_wp2_with fail
          refine hm.mono ?_
          rintro e w1 ⟨rfl, rfl⟩
          go_wp2_with fail
          refine hb.mono ?_
          rintro e w2 ⟨rfl, ⟨wv', left', h2⟩, hg⟩
          have hrow := h2.row
          clear c1 x0 x1 x2 x3
          have c1 := h2.c1
          have H2 := Lib.hid h2
          have HG := Lib.hid hg
          rw [brkS_fs] at hrow
          obtain ⟨_, e0, _, _, _, hgl2, x0, x1, x2, x3, hfz⟩ := ref_row hrow HE2.out
          cases e0
          have HROW := Lib.hid hrow
          have fz1 := hfz (j * 4 + 1)
          have fz2 := hfz (j * 4 + 2)
          have fz3 := hfz (j * 4 + 3)
          clear h2 hg hrow hfz hb hm
          go_wp2_with fail
          go_region
          go_wp2_with fail
          go_region
          go_wp2
          go_ret
          have hx : (mk f.b).extract 0 n.toNat = mk (f.b.take n.toNat) := mk_take _ _
          have hmin : min (f.s : Int) n = ((min f.s n.toNat : Nat) : Int) := by omega
          rw [HS.out, hx, hmin]
          have r1 := HROW.out.set HE2.out (i := 1) (u := .string (mk (f.b.take n.toNat))) (p' := (bs name, ⟨f.b.take n.toNat, f.s, f.u⟩)) (by decide) rfl
          have r2 := r1.set (j := j) (i := 2) (u := .int .i64 ((min f.s n.toNat : Nat) : Int)) (p := (bs name, ⟨f.b.take n.toNat, f.s, f.u⟩)) (p' := (bs name, ⟨f.b.take n.toNat, min f.s n.toNat, f.u⟩)) (by rw [List.getElem?_set_self hlt]) (by decide) rfl
          rw [List.set_set] at r2
          have r3 := r2.set (j := j) (i := 3) (u := .bool true) (p := (bs name, ⟨f.b.take n.toNat, min f.s n.toNat, f.u⟩)) (p' := (bs name, cutF f n.toNat)) (by rw [List.getElem?_set_self hlt]) (by decide) rfl
          rw [List.set_set, set_put HFIT.out.sorted HE2.out] at r3
          have hsl : f.s ≤ f.b.length := HFIT.out.syn _ (look_mem HE3.out)
          have hfit : Fit { brkS s with fs := putF s.fs (bs name) (cutF f n.toNat) } := fit_fs H2.out.fit (by rw [brkS_fs]) (by rw [bs_len]; omega) (by simp only [cutF, List.length_take]; omega) (by rw [brkS_fs, brkS_room, getF_look HE3.out]; have := HFIT.out.room; simp only [cutF, List.length_take]; omega) _ _ _ H2.out.fit.moreI
          have k2 : Kept S w w2 := Kept.of_but HG.out hmine
          refine ⟨rfl, RefAt.below ⟨_, wv', left', H2.out.alter ?_ r3 hfit⟩ ((Below.refl _ _).drew.drew), (((k2.set (.inl hSg) _).set (.inl hSg) _).set (.inl hSg) _).drewN 2⟩
          rw [heap_setCell_other _ _ _ _ (Ne.symm hapart), heap_setCell_other _ _ _ _ (Ne.symm hapart), heap_setCell_other _ _ _ _ (Ne.symm hapart)]
  · have HS : Hid (cutS s (bs name) n = (mustE s (bs name), s)) := must_errC he _ _
    have hei : (mustE s (bs name) != 0) = true := by simpa using he
    have H := Lib.hid h
    clear h he
    generalize cutS s (bs name) n = R at *
    generalize mustE s (bs name) = E at *
    go_enter Try.func36, Try.ntmps36
    go_wp2_with fail
    refine hm.mono ?_
    rintro e w1 ⟨rfl, rfl⟩
    go_wp2
    go_ret
    rw [HS.out]
    exact ⟨rfl, H.out, Kept.refl _ _⟩
end Go.Proofs.Ytnffjoflkeagfaa
