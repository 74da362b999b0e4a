/- The document's disk: a file's cells written; Sync. The document's disk: Cut. The document's disk: its files as runs of a row. The document's disk: a place made. -/
import Derived.Test.YtnffjoflkeagfaaGreatE1
import Derived.Laws.Rows
import Derived.Laws.AppendOwnNone
namespace Go.Proofs.YtnffjoflkeagfaaGreat
open Go.RowKit Go.Maps

theorem refL_cons (p : List UInt8 × F) (r : Fs) : refL (p :: r) = refC p ++ refL r := by simp [refL]
theorem refC_len (p : List UInt8 × F) : (refC p).length = 4 := rfl
theorem refL_set {p p' : List UInt8 × F} {i : Nat} {u : Value} (hi : i < 4) (hc : refC p' = (refC p).set i u) : ∀ (fs : Fs) (j : Nat), fs[j]? = some p → refL (fs.set j p') = (refL fs).set (j * 4 + i) u
  | [], j, h => by simp at h
  | q :: r, 0, h => by
    have : q = p := by simpa using h
    subst this
    rw [List.set_cons_zero, refL_cons, refL_cons, hc, Nat.zero_mul, Nat.zero_add, List.set_append_left _ _ (by rw [refC_len]; exact hi)]
  | q :: r, j + 1, h => by
    rw [List.set_cons_succ, refL_cons, refL_cons, refL_set hi hc r j (by simpa using h), List.set_append_right _ _ (by rw [refC_len]; omega)]
    congr 2
    rw [refC_len]; omega
/-- a file of the list written anew -/
theorem set_put {fs : Fs} (hs : Sorted fs) {j : Nat} {k : List UInt8} {f : F} (h : fs[j]? = some (k, f)) (f' : F) : fs.set j (k, f') = putF fs k f' := by
  obtain ⟨hj, e⟩ := List.getElem?_eq_some_iff.1 h
  have e1 : fs = fs.take j ++ (k, f) :: fs.drop (j + 1) := by
    rw [← e, List.getElem_cons_drop, List.take_append_drop]
  have e2 : fs.set j (k, f') = fs.take j ++ (k, f') :: fs.drop (j + 1) := by
    rw [List.set_eq_take_append_cons_drop, if_pos hj]
  rw [e2]
  rw [e1] at hs
  have := put_mid hs f'
  rw [← e1] at this
  exact this.symm
section
variable {S S' : Nat → Prop} {w w' : World} {rb : Nat} {s : St} {fv : Value} {wv : Bool} {left : Int}
theorem RowIn.set {fs : Fs} {g n c j i : Nat} {u : Value} {p p' : List UInt8 × F} (h : RowIn S w (.slice (some ⟨g, 0, none⟩) n c) fs) (hp : fs[j]? = some p) (hi : i < 4) (hc : refC p' = (refC p).set i u) :
    RowIn S (w.setCell ⟨g, j * 4 + i, none⟩ u) (.slice (some ⟨g, 0, none⟩) n c) (fs.set j p') := by
  have hj := (List.getElem?_eq_some_iff.1 hp).1
  rcases h with ⟨e, _⟩ | ⟨g', cap, cur, e, h1, h2, h3, h4, h5, h6, h7⟩
  · cases e
  · cases e
    refine .inr ⟨g, c, cur.setIfInBounds (j * 4 + i) u, by rw [List.length_set], h1, by simpa [World.setCell] using h2, ?_, by rw [List.length_set]; exact h4, h5, by simpa using h6, ?_⟩
    · exact Go.heap_setCell_same _ _ _ _ _ _ h3
    · rw [List.length_set, refL_set hi hc fs j hp, Array.toList_setIfInBounds, List.take_set, h7]
theorem RefO.apart2 {fs : Fs} {g n c : Nat} (h : RefO S w rb s fv wv left) (hr : RowIn S w (.slice (some ⟨g, 0, none⟩) n c) fs) : g ≠ rb := by
  rcases hr with ⟨e, _⟩ | ⟨g', cap, cur, e, _, _, h3, _⟩
  · cases e
  · cases e
    exact h.apart h3
theorem RefO.alter {fs' : Fs} (h : RefO S w rb s fv wv left) (hb : w'.heap[rb]? = w.heap[rb]?) (hr : RowIn S w' fv fs') (hf : Fit { s with fs := fs' }) : RefO S w' rb { s with fs := fs' } fv wv left :=
  ⟨h.mine, hb.trans h.block, h.brk, hr, hf⟩
end
theorem mustE_down {s : St} (h : s.down = true) (k : List UInt8) : mustE s k = 41 := by unfold mustE; rw [if_pos h]
theorem mustE_up {s : St} (h : s.down = false) (k : List UInt8) : mustE s k = needE s k := by unfold mustE; rw [if_neg (by rw [h]; simp)]
/-- a change that must find its file errs: nothing is done -/
theorem must_err {s : St} {k : List UInt8} (he : mustE s k ≠ 0) (f1 f2 : Fs) : changeS s (needE s k) f1 f2 = (mustE s k, s) := by
  cases hd : s.down with
  | true => rw [changeS_down hd, mustE_down hd]
  | false => rw [mustE_up hd] at he ⊢; rw [changeS_err hd he]
theorem must_zero {s : St} {k : List UInt8} (he : mustE s k = 0) : s.down = false ∧ needE s k = 0 ∧ ∃ (j : Nat) (f : F), placeI s.fs k 0 = (j : Int) ∧ s.fs[j]? = some (k, f) ∧ look s.fs k = some f := by
  cases hd : s.down with
  | true => rw [mustE_down hd] at he; omega
  | false =>
    rw [mustE_up hd] at he
    refine ⟨rfl, he, ?_⟩
    by_cases hp : placeI s.fs k 0 = -1
    · unfold needE at he; rw [place_look hp] at he; simp at he
    · obtain ⟨j, f, e1, e2, e3⟩ := place_get hp
      exact ⟨j, f, by rw [e1, Nat.zero_add], e2, e3⟩
set_option maxRecDepth 100000 in
set_option maxHeartbeats 4000000 in
theorem refSync_any {S : Nat → Prop} {w : World} {rb : Nat} {s : St} (h : RefAt S w rb s) (hc : s.fs.length ≤ 1099511627776) (name : ByteArray) (_hn : name.size ≤ 9223372036854775807) :
    Calls Tryz.prog 43 #[ptrV rb, .string name] w fun e w' => e = .returned (.int .i64 (syncS s (bs name)).1) ∧ RefAt S w' rb (syncS s (bs name)).2 ∧ Kept S w w' := by
  have hm := refMust_any h hc name
  by_cases he : mustE s (bs name) = 0
  · obtain ⟨hd, hne, j, f, e1, e2, e3⟩ := must_zero he
    rw [he, e1] at hm
    obtain ⟨fv, wv, left, h⟩ := h
    have hb := refBreaks_any h hd
    have hmine := h.mine
    cases hbr : brkB s with
    | true =>
      have HS : Hid (syncS s (bs name) = (41, { brkS s with fs := s.fs })) := changeS_torn hd hne hbr _ _
      rw [hbr] at hb
      clear h he hne hd e1 e2 e3 hbr
      generalize syncS s (bs name) = R at *
      go_enter Tryz.func43, Tryz.ntmps43
      go_wp2_with fail
      refine hm.mono ?_
      rintro e w1 ⟨rfl, rfl⟩
      go_wp2_with fail
      refine hb.mono ?_
      rintro e w2 ⟨rfl, ⟨wv', left', h2⟩, hg⟩
      have H2 := Lib.hid h2
      have HG := Lib.hid hg
      clear h2 hg
      go_wp2
      go_ret
      rw [HS.out]
      refine ⟨rfl, ⟨fv, wv', left', ?_⟩, Kept.of_but HG.out hmine⟩
      have e : ({ brkS s with fs := s.fs } : St) = brkS s := by rw [← brkS_fs s]
      rw [e]; exact H2.out
    | false =>
      have HS : Hid (syncS s (bs name) = (0, { brkS s with fs := putF s.fs (bs name) (syncedF f) })) := by
        show _ = _
        unfold syncS
        rw [getF_look e3]
        exact changeS_whole hd hne hbr _ _
      rw [hbr] at hb
      have HE2 := Lib.hid e2
      have hlt := (List.getElem?_eq_some_iff.1 e2).1
      have hlti : (j : Int) < (s.fs.length : Int) := by omega
      have HSRT := Lib.hid h.fit.sorted
      have HFIT := Lib.hid h.fit
      have HE3 := Lib.hid e3
      clear h he hne hd e1 e2 e3 hbr
      generalize syncS s (bs name) = R at *
      go_enter Tryz.func43, Tryz.ntmps43
      go_wp2_with fail
      refine hm.mono ?_
      rintro e w1 ⟨rfl, rfl⟩
      go_wp2_with fail
      refine hb.mono ?_
      rintro e w2 ⟨rfl, ⟨wv', left', h2⟩, hg⟩
      obtain ⟨a, c, rfl⟩ := h2.row.slice
      rw [brkS_fs] at h2
      have hrow := h2.row
      have c1 := h2.c1
      have H2 := Lib.hid h2
      have HG := Lib.hid hg
      rw [brkS_fs] at hrow
      obtain ⟨g, rfl, _, hcap, hSg, hgl, x0, x1, x2, x3, hfz⟩ := ref_row hrow HE2.out
      have hne : g ≠ rb := H2.out.apart2 hrow
      have HROW := Lib.hid hrow
      have fz2 := hfz (j * 4 + 2)
      have fz3 := hfz (j * 4 + 3)
      clear h2 hg hrow hfz hb hm
      go_wp2_with fail
      have hnb : (mk f.b).size = f.b.length := mk_size _
      go_region
      go_wp2
      go_ret
      rw [HS.out]
      have r1 := HROW.out.set HE2.out (i := 2) (u := .int .i64 (f.b.length : Int)) (p' := (bs name, ⟨f.b, f.b.length, f.u⟩)) (by decide) rfl
      have r2 := r1.set (j := j) (i := 3) (u := .bool true) (p := (bs name, ⟨f.b, f.b.length, f.u⟩)) (p' := (bs name, syncedF f)) (by rw [List.getElem?_set_self hlt]) (by decide) rfl
      rw [List.set_set, set_put HSRT.out HE2.out] at r2
      have hfit : Fit { brkS s with fs := putF s.fs (bs name) (syncedF f) } := fit_fs H2.out.fit (by rw [brkS_fs]) (by rw [bs_len]; omega) (Nat.le_refl _) (by rw [brkS_fs, brkS_room, getF_look HE3.out]; have := HFIT.out.room; simp only [syncedF]; omega) _ _ _ H2.out.fit.moreI
      have k2 : Kept S w w2 := Kept.of_but HG.out hmine
      refine ⟨rfl, RefAt.below ⟨_, wv', left', H2.out.alter ?_ r2 hfit⟩ ((Below.refl _ _).drew), ((k2.set (.inl hSg) _).set (.inl hSg) _).drewN 1⟩
      rw [heap_setCell_other _ _ _ _ (Ne.symm hne), heap_setCell_other _ _ _ _ (Ne.symm hne)]
  · have HS : Hid (syncS s (bs name) = (mustE s (bs name), s)) := must_err he _ _
    have hei : (mustE s (bs name) != 0) = true := by simpa using he
    have H := Lib.hid h
    clear h he
    generalize syncS s (bs name) = R at *
    generalize mustE s (bs name) = E at *
    go_enter Tryz.func43, Tryz.ntmps43
    go_wp2_with fail
    refine hm.mono ?_
    rintro e w1 ⟨rfl, rfl⟩
    go_wp2
    go_ret
    rw [HS.out]
    exact ⟨rfl, H.out, Kept.refl _ _⟩
end Go.Proofs.YtnffjoflkeagfaaGreat
namespace Go.Proofs.YtnffjoflkeagfaaGreat
open Go.RowKit Go.Maps

theorem must_errC {s : St} {k : List UInt8} {n : Int} (he : mustE s k ≠ 0) (f1 f2 : Fs) : changeS s (cutE s k n) f1 f2 = (mustE s k, s) := by
  cases hd : s.down with
  | true => rw [changeS_down hd, mustE_down hd]
  | false =>
    rw [mustE_up hd] at he ⊢
    have hc : cutE s k n = needE s k := by
      unfold needE at he ⊢
      unfold cutE
      by_cases hl : (look s.fs k).isSome = true
      · rw [if_pos hl] at he; exact absurd rfl he
      · rw [if_neg hl, if_neg hl]
    rw [hc]
    exact changeS_err hd he _ _
theorem mk_take (l : List UInt8) (n : Nat) : (mk l).extract 0 n = mk (l.take n) := by
  apply ByteArray.ext
  rw [ByteArray.data_extract]
  apply Array.ext'
  simp [mk, List.extract]
set_option maxRecDepth 100000 in
set_option maxHeartbeats 4000000 in
theorem refCut_any {S : Nat → Prop} {w : World} {rb : Nat} {s : St} (h : RefAt S w rb s) (hc : s.fs.length ≤ 1099511627776) (name : ByteArray) (_hn : name.size ≤ 9223372036854775807) (n : Int) :
    Calls Tryz.prog 41 #[ptrV rb, .string name, .int .i64 n] w fun e w' => e = .returned (.int .i64 (cutS s (bs name) n).1) ∧ RefAt S w' rb (cutS s (bs name) n).2 ∧ Kept S w w' := by
  have hm := refMust_any h hc name
  by_cases he : mustE s (bs name) = 0
  · obtain ⟨hd, hne, j, f, e1, e2, e3⟩ := must_zero he
    rw [he, e1] at hm
    have HT := Lib.hid h
    obtain ⟨fv, wv, left, h⟩ := h
    have hfb : f.b.length ≤ 9223372036854775807 := by
      have := used_ge (look_mem e3); have := h.fit.room; have := h.fit.roomI; omega
    have hb := refBreaks_any h hd
    have hmine := h.mine
    obtain ⟨a, c, rfl⟩ := h.row.slice
    have c1 := h.c1
    obtain ⟨g, rfl, _, hcap, hSg, hgl, x0, x1, x2, x3, hfz⟩ := ref_row h.row e2
    have hnb : (mk f.b).size = f.b.length := mk_size _
    have hlt := (List.getElem?_eq_some_iff.1 e2).1
    have hlti : (j : Int) < (s.fs.length : Int) := by omega
    by_cases hn0 : n < 0
    · have hce : cutE s (bs name) n = 1 := by unfold cutE; rw [if_pos (by rw [e3]; rfl), if_pos (.inl hn0)]
      have HS : Hid (cutS s (bs name) n = (1, s)) := changeS_err hd (by rw [hce]; decide) _ _ |>.trans (by rw [hce])
      clear h hd hne e1 e2 e3 hb hce he hfz
      generalize cutS s (bs name) n = R at *
      go_enter Tryz.func41, Tryz.ntmps41
      go_wp2_with fail
      refine hm.mono ?_
      rintro e w1 ⟨rfl, rfl⟩
      go_wp2
      go_ret
      rw [HS.out]
      exact ⟨rfl, HT.out, Kept.refl _ _⟩
    · by_cases hn1 : (f.b.length : Int) < n
      · have hce : cutE s (bs name) n = 1 := by unfold cutE; rw [if_pos (by rw [e3]; rfl), if_pos (.inr (by rw [getF_look e3]; omega))]
        have HS : Hid (cutS s (bs name) n = (1, s)) := changeS_err hd (by rw [hce]; decide) _ _ |>.trans (by rw [hce])
        clear h hd hne e1 e2 e3 hb hce he hfz
        generalize cutS s (bs name) n = R at *
        go_enter Tryz.func41, Tryz.ntmps41
        go_wp2_with fail
        refine hm.mono ?_
        rintro e w1 ⟨rfl, rfl⟩
        go_wp2
        go_ret
        rw [HS.out]
        exact ⟨rfl, HT.out, Kept.refl _ _⟩
      · have hce : cutE s (bs name) n = 0 := by unfold cutE; rw [if_pos (by rw [e3]; rfl), if_neg (by rw [getF_look e3]; omega)]
        cases hbr : brkB s with
        | true =>
          have HS : Hid (cutS s (bs name) n = (41, { brkS s with fs := s.fs })) := changeS_torn hd hce hbr _ _
          rw [hbr] at hb
          clear h hd hne e1 e2 e3 hce he hbr hfz
          generalize cutS s (bs name) n = R at *
          go_enter Tryz.func41, Tryz.ntmps41
          go_wp2_with fail
          refine hm.mono ?_
          rintro e w1 ⟨rfl, rfl⟩
          go_wp2_with fail
          refine hb.mono ?_
          rintro e w2 ⟨rfl, ⟨wv', left', h2⟩, hg⟩
          have H2 := Lib.hid h2
          have HG := Lib.hid hg
          clear h2 hg
          go_wp2
          go_ret
          rw [HS.out]
          have h3 : RefAt S w2 rb { brkS s with fs := s.fs } := by
            have e : ({ brkS s with fs := s.fs } : St) = brkS s := by rw [← brkS_fs s]
            rw [e]; exact ⟨_, _, _, H2.out⟩
          exact ⟨rfl, h3, Kept.of_but HG.out hmine⟩
        | false =>
          have HS : Hid (cutS s (bs name) n = (0, { brkS s with fs := putF s.fs (bs name) (cutF f n.toNat) })) := by
            show _ = _
            unfold cutS
            rw [getF_look e3]
            exact changeS_whole hd hce hbr _ _
          rw [hbr] at hb
          have HE2 := Lib.hid e2
          have HE3 := Lib.hid e3
          have HFIT := Lib.hid h.fit
          have hapart : g ≠ rb := h.apart2 h.row
          clear h hd hne e1 e2 e3 hce he hbr hfz
          generalize cutS s (bs name) n = R at *
          go_enter Tryz.func41, Tryz.ntmps41
          go_wp2_with fail
          refine hm.mono ?_
          rintro e w1 ⟨rfl, rfl⟩
          go_wp2_with fail
          refine hb.mono ?_
          rintro e w2 ⟨rfl, ⟨wv', left', h2⟩, hg⟩
          have hrow := h2.row
          clear c1 x0 x1 x2 x3
          have c1 := h2.c1
          have H2 := Lib.hid h2
          have HG := Lib.hid hg
          rw [brkS_fs] at hrow
          obtain ⟨_, e0, _, _, _, hgl2, x0, x1, x2, x3, hfz⟩ := ref_row hrow HE2.out
          cases e0
          have HROW := Lib.hid hrow
          have fz1 := hfz (j * 4 + 1)
          have fz2 := hfz (j * 4 + 2)
          have fz3 := hfz (j * 4 + 3)
          clear h2 hg hrow hfz hb hm
          go_wp2_with fail
          go_region
          go_wp2_with fail
          go_region
          go_wp2
          go_ret
          have hx : (mk f.b).extract 0 n.toNat = mk (f.b.take n.toNat) := mk_take _ _
          have hmin : min (f.s : Int) n = ((min f.s n.toNat : Nat) : Int) := by omega
          rw [HS.out, hx, hmin]
          have r1 := HROW.out.set HE2.out (i := 1) (u := .string (mk (f.b.take n.toNat))) (p' := (bs name, ⟨f.b.take n.toNat, f.s, f.u⟩)) (by decide) rfl
          have r2 := r1.set (j := j) (i := 2) (u := .int .i64 ((min f.s n.toNat : Nat) : Int)) (p := (bs name, ⟨f.b.take n.toNat, f.s, f.u⟩)) (p' := (bs name, ⟨f.b.take n.toNat, min f.s n.toNat, f.u⟩)) (by rw [List.getElem?_set_self hlt]) (by decide) rfl
          rw [List.set_set] at r2
          have r3 := r2.set (j := j) (i := 3) (u := .bool true) (p := (bs name, ⟨f.b.take n.toNat, min f.s n.toNat, f.u⟩)) (p' := (bs name, cutF f n.toNat)) (by rw [List.getElem?_set_self hlt]) (by decide) rfl
          rw [List.set_set, set_put HFIT.out.sorted HE2.out] at r3
          have hsl : f.s ≤ f.b.length := HFIT.out.syn _ (look_mem HE3.out)
          have hfit : Fit { brkS s with fs := putF s.fs (bs name) (cutF f n.toNat) } := fit_fs H2.out.fit (by rw [brkS_fs]) (by rw [bs_len]; omega) (by simp only [cutF, List.length_take]; omega) (by rw [brkS_fs, brkS_room, getF_look HE3.out]; have := HFIT.out.room; simp only [cutF, List.length_take]; omega) _ _ _ H2.out.fit.moreI
          have k2 : Kept S w w2 := Kept.of_but HG.out hmine
          refine ⟨rfl, RefAt.below ⟨_, wv', left', H2.out.alter ?_ r3 hfit⟩ ((Below.refl _ _).drew.drew), (((k2.set (.inl hSg) _).set (.inl hSg) _).set (.inl hSg) _).drewN 2⟩
          rw [heap_setCell_other _ _ _ _ (Ne.symm hapart), heap_setCell_other _ _ _ _ (Ne.symm hapart), heap_setCell_other _ _ _ _ (Ne.symm hapart)]
  · have HS : Hid (cutS s (bs name) n = (mustE s (bs name), s)) := must_errC he _ _
    have hei : (mustE s (bs name) != 0) = true := by simpa using he
    have H := Lib.hid h
    clear h he
    generalize cutS s (bs name) n = R at *
    generalize mustE s (bs name) = E at *
    go_enter Tryz.func41, Tryz.ntmps41
    go_wp2_with fail
    refine hm.mono ?_
    rintro e w1 ⟨rfl, rfl⟩
    go_wp2
    go_ret
    rw [HS.out]
    exact ⟨rfl, H.out, Kept.refl _ _⟩
end Go.Proofs.YtnffjoflkeagfaaGreat
namespace Go.Proofs.YtnffjoflkeagfaaGreat
open Go.RowKit Go.Maps

/-- what an append takes in -/
def SrcAt (w : World) (V : Value) (m : Nat) (cells : List Value) : Prop :=
  (V = .slice none 0 0 ∧ m = 0 ∧ cells = []) ∨ ∃ ad c, V = .slice (some ad) m c ∧ ∀ j u, cells[j]? = some u → w.cell? (ad.add j) = some u
theorem wpList_append_src {P : Program} {w : World} {ops : Array Oper} {rest : List Oper} {o : Oper} {a : Act} {Q : Exit → Act → World → Prop} (hgd : o.guard = none) (s x : Operand) (t : TypeId)
    (ho : o.op = .call { callee := .builtin .append, args := #[s, x], argTypes := #[t, t] })
    (base : Nat) (e : TypeId) (i : TypeInfo) (z : Value) (size bytes : Nat) (ht : P.underlying t = some (.slice e)) (hi : P.info? e = some i) (hz : i.zero = some z)
    (hsize : i.size = size) (hby : i.bytes = bytes) (hzs : z.cells.size = size) (hsz : 0 < size)
    (v : Value) (n : Nat) (xs : List Value) (hs : a.eval s = v) (hown : w.ownsRow base e size v n xs)
    (V : Value) (m : Nat) (news : List Value) (hx : a.eval x = V) (hsrc : SrcAt w V m news) (hl : news.length = m * size) (h1 : ∀ u ∈ news, u.oneCell' = true)
    (h63 : n + m ≤ maxLen) (hbytes : (n + m) * bytes ≤ 140737488355328) (hbase : base ≤ w.heap.size)
    (h : ∀ v' w', w'.ownsRow base e size v' (n + m) (xs ++ news) → w.grownBy w' v.ownBlock → wpList P ops Q rest (a.put o.dst v') w') :
    wpList P ops Q (o :: rest) a w := by
  rcases hsrc with ⟨rfl, rfl, rfl⟩ | ⟨ad, c, rfl, hc⟩
  · refine wpList_append_own_none hgd s x t ho base e i size ht hi v n xs hs hown hx (h v w (by simpa using hown) ⟨rfl, rfl, rfl, Nat.le_refl _, fun _ _ _ => rfl⟩)
  · exact wpList_append_own _ hgd s x t ho base e i z size bytes ht hi hz hsize hby hzs hsz v n xs hs hown ad m c news hx hl hc h1 h63 hbytes hbase (fun v' w' p1 p2 _ => h v' w' p1 p2)
theorem elem_ref : Tryz.prog.elem 54 = 70 := by kernel_rfl
theorem under_ref : Tryz.prog.underlying 54 = some (.slice (Tryz.prog.elem 54)) := by rw [elem_ref]; exact Tryz.underlying54
theorem refL_take : ∀ (fs : Fs) (i : Nat), refL (fs.take i) = (refL fs).take (i * 4)
  | [], i => by simp [refL]
  | p :: r, 0 => by simp [refL]
  | p :: r, i + 1 => by
    rw [List.take_succ_cons, refL_cons, refL_cons, refL_take r i, List.take_append, refC_len, List.take_of_length_le (i := (i + 1) * 4) (l := refC p) (by rw [refC_len]; omega)]
    congr 2
    omega
theorem refL_drop : ∀ (fs : Fs) (i : Nat), refL (fs.drop i) = (refL fs).drop (i * 4)
  | [], i => by simp [refL]
  | p :: r, 0 => by simp
  | p :: r, i + 1 => by
    rw [List.drop_succ_cons, refL_cons, refL_drop r i, List.drop_append, refC_len, List.drop_of_length_le (i := (i + 1) * 4) (l := refC p) (by rw [refC_len]; omega), List.nil_append]
    congr 1
    omega
section
variable {S : Nat → Prop} {w : World} {a : Option Addr} {n c : Nat} {fs : Fs}
theorem row_cells (h : RowIn S w (.slice a n c) fs) : (a = none ∧ n = 0 ∧ c = 0 ∧ fs = []) ∨ ∃ g, a = some ⟨g, 0, none⟩ ∧ n = fs.length ∧ n ≤ c ∧ ∀ j u, (refL fs)[j]? = some u → w.cell? ⟨g, j, none⟩ = some u := by
  rcases h with ⟨e, rfl⟩ | ⟨g, cap, cur, e, h1, h2, h3, h4, h5, h6, h7⟩
  · cases e; exact .inl ⟨rfl, rfl, rfl, rfl⟩
  · cases e
    refine .inr ⟨g, rfl, rfl, h4, fun j u hu => ?_⟩
    rw [Lib.cell_of_heap h3]
    rw [← h7, List.getElem?_take] at hu
    split at hu
    · simpa using hu
    · cases hu
/-- x[:i] -/
theorem ref_slice_to (h : RowIn S w (.slice a n c) fs) (i : Nat) (hi : i ≤ fs.length) :
    ∃ V, (∀ w', (Instr.slice 54 (.slice a n c) none (some (.int .i64 (i : Int))) none).run Tryz.prog w' = .ok V w') ∧
      (∀ w', (Instr.sliceAt 54 (.slice a n c) none (some (.int .i64 (i : Int))) none).run Tryz.prog w' = .ok V w') ∧ SrcAt w V i (refL (fs.take i)) := by
  have hnc : n = fs.length ∧ n ≤ c := by
    rcases row_cells h with ⟨_, h1, h2, h3⟩ | ⟨_, _, h1, h2, _⟩
    · subst h3; exact ⟨by simpa using h1, by omega⟩
    · exact ⟨h1, h2⟩
  have hr : ∀ w', (Instr.slice 54 (.slice a n c) none (some (.int .i64 (i : Int))) none).run Tryz.prog w' = .ok (sliced a 0 i c 4) w' := fun w' => by
    rw [run_slice_h w' 54 a n c under_ref .i64 (i : Int) (by omega) (by omega), elem_ref, Tryz.sizeOf70]
    rfl
  refine ⟨sliced a 0 i c 4, hr, fun w' => by rw [run_sliceAt_slice w' _ _ _ _ _ under_ref]; exact hr w', ?_⟩
  rcases row_cells h with ⟨rfl, h1, rfl, rfl⟩ | ⟨g, rfl, h1, h2, hc⟩
  · have : i = 0 := by simpa using hi
    subst this
    exact .inl ⟨by simp [sliced], rfl, by simp [refL]⟩
  · refine .inr ⟨⟨g, 0, none⟩, c, ?_, fun j u hu => ?_⟩
    · unfold sliced
      simp [Addr.add]
    · rw [add_zero_off]
      refine hc j u ?_
      rw [refL_take, List.getElem?_take] at hu
      split at hu
      · exact hu
      · cases hu
/-- x[i:] -/
theorem ref_slice_from (h : RowIn S w (.slice a n c) fs) (i : Nat) (hi : i ≤ fs.length) :
    ∃ V, (∀ w', (Instr.slice 54 (.slice a n c) (some (.int .i64 (i : Int))) none none).run Tryz.prog w' = .ok V w') ∧
      (∀ w', (Instr.sliceAt 54 (.slice a n c) (some (.int .i64 (i : Int))) none none).run Tryz.prog w' = .ok V w') ∧ SrcAt w V (fs.length - i) (refL (fs.drop i)) := by
  have hnc : n = fs.length ∧ n ≤ c := by
    rcases row_cells h with ⟨_, h1, h2, h3⟩ | ⟨_, _, h1, h2, _⟩
    · subst h3; exact ⟨by simpa using h1, by omega⟩
    · exact ⟨h1, h2⟩
  have hr : ∀ w', (Instr.slice 54 (.slice a n c) (some (.int .i64 (i : Int))) none none).run Tryz.prog w' = .ok (sliced a i n c 4) w' := fun w' => by
    rw [run_slice_l w' 54 a n c under_ref .i64 (i : Int) (by omega) (by omega), elem_ref, Tryz.sizeOf70]
    rfl
  refine ⟨sliced a i n c 4, hr, fun w' => by rw [run_sliceAt_slice w' _ _ _ _ _ under_ref]; exact hr w', ?_⟩
  rcases row_cells h with ⟨rfl, h1, rfl, rfl⟩ | ⟨g, rfl, h1, h2, hc⟩
  · have : i = 0 := by simpa using hi
    subst this
    subst h1
    exact .inl ⟨by simp [sliced], rfl, by simp [refL]⟩
  · subst h1
    by_cases h0 : c = i
    · refine .inr ⟨⟨g, 0, none⟩, c - i, ?_, fun j u hu => ?_⟩
      · unfold sliced; simp [h0]
      · rw [List.drop_of_length_le (by omega)] at hu; simp [refL] at hu
    · refine .inr ⟨⟨g, i * 4, none⟩, c - i, ?_, fun j u hu => ?_⟩
      · unfold sliced
        rw [if_neg (by omega)]; simp [Addr.add]; omega
      · have e : (⟨g, i * 4, none⟩ : Addr).add j = ⟨g, i * 4 + j, none⟩ := by simp [Addr.add]
        rw [e]
        refine hc _ u ?_
        rw [refL_drop, List.getElem?_drop] at hu
        exact hu
theorem row_ref {v : Value} {base m : Nat} (h : w.ownsRow base 70 4 v m (refL fs)) (hm : m = fs.length) (hS : ∀ k, base ≤ k → S k) : RowIn S w v fs := by
  subst hm
  obtain ⟨h1, h2⟩ := h
  rcases h2 with ⟨rfl, h2⟩ | ⟨g, cap, cur, rfl, hB, hg, h3, h4, h5, h6⟩
  · exact .inl ⟨rfl, List.length_eq_zero_iff.1 h2⟩
  · exact .inr ⟨g, cap, cur, rfl, hS g hB, (Array.getElem?_eq_some_iff.1 hg).1, hg, h3, h4, h5, h6⟩
theorem refL_one (fs : Fs) : ∀ u ∈ refL fs, u.oneCell' = true := by
  intro u hu
  simp only [refL, List.mem_flatMap] at hu
  obtain ⟨p, _, hu⟩ := hu
  simp only [refC, List.mem_cons, List.not_mem_nil, or_false] at hu
  rcases hu with rfl | rfl | rfl | rfl <;> rfl
end
end Go.Proofs.YtnffjoflkeagfaaGreat
namespace Go.Proofs.YtnffjoflkeagfaaGreat
open Go.RowKit Go.Maps

theorem ones4 (a : ByteArray) : ∀ u ∈ [Value.string a, .string ⟨#[]⟩, .int .i64 0, .bool false], u.oneCell' = true := by
  intro u hu; simp at hu; rcases hu with rfl | rfl | rfl | rfl <;> rfl
theorem put_split {k : List UInt8} {f : F} : ∀ {A B : Fs}, (∀ p ∈ A, p.1 < k) → (∀ p ∈ B, k < p.1) → putF (A ++ B) k f = A ++ (k, f) :: B
  | [], [], _, _ => rfl
  | [], p :: r, _, hB => by
    have h := hB p (by simp)
    have h1 : ¬ p.1 < k := fun h' => ltI _ (ltT h h')
    have h2 : ¬ p.1 = k := fun e => by rw [e] at h; exact ltI _ h
    simp only [List.nil_append, putF]
    rw [if_neg h1, if_neg h2]
  | p :: r, B, hA, hB => by
    rw [List.cons_append, List.cons_append, putF, if_pos (hA p (by simp)), put_split (fun q hq => hA q (by simp [hq])) hB]
/-- with a place for the file -/
def placeS (fs : Fs) (k : List UInt8) : Fs := if (look fs k).isSome = true then fs else putF fs k F.zero
theorem fit_place {s : St} (h : Fit s) (k : List UInt8) (hk : k.length ≤ 9223372036854775807) : Fit { s with fs := placeS s.fs k } := by
  unfold placeS
  split
  · exact h
  · exact fit_fs h rfl hk (Nat.le_refl _) (by have := h.room; simp [F.zero]; omega) _ _ _ h.moreI
def PlaceQ (S : Nat → Prop) (w : World) (rb : Nat) (s : St) (k : List UInt8) (wv : Bool) (left : Int) (e : Ending) (w' : World) : Prop :=
  ∃ j : Nat, e = .returned (.int .i64 (j : Int)) ∧ (placeS s.fs k)[j]? = some (k, getF s.fs k) ∧ (∃ fv', RefO S w' rb { s with fs := placeS s.fs k } fv' wv left) ∧ Kept S w w'
theorem place_end {S : Nat → Prop} {w w3 : World} {rb : Nat} {s : St} {fv v3 : Value} {wv : Bool} {left : Int} {k : Nat} {name : ByteArray} (h : RefO S w rb s fv wv left) (hS : ∀ k, w.heap.size ≤ k → S k) (hk : k ≤ s.fs.length)
    (hp : putF s.fs (bs name) F.zero = s.fs.take k ++ (bs name, F.zero) :: s.fs.drop k ∧ name.size ≤ 9223372036854775807) (hl : look s.fs (bs name) = none) (hb : Below w.heap.size w w3)
    (ho : w3.ownsRow w.heap.size 70 4 v3 (k + 1 + (s.fs.length - k)) (refL (s.fs.take k) ++ (.string name :: .string ⟨#[]⟩ :: .int .i64 0 :: .bool false :: refL (s.fs.drop k)))) :
    PlaceQ S w rb s (bs name) wv left (.returned (.int .i64 (k : Int))) (w3.setCell ⟨rb, 1, none⟩ v3) := by
  have hpl : placeS s.fs (bs name) = s.fs.take k ++ (bs name, F.zero) :: s.fs.drop k := by unfold placeS; rw [hl]; exact hp.1
  have e : refL (s.fs.take k) ++ (.string name :: .string ⟨#[]⟩ :: .int .i64 0 :: .bool false :: refL (s.fs.drop k)) = refL (placeS s.fs (bs name)) := by
    rw [hpl]
    simp only [refL, List.flatMap_append, List.flatMap_cons]
    congr 1
  rw [e] at ho
  have hr := row_ref (S := fun j => w.heap.size ≤ j) ho (by rw [hpl]; simp; omega) (fun _ h => h)
  have hlt := h.lt
  have hfit := fit_place h.fit (bs name) (by rw [bs_len]; exact hp.2)
  have hr2 := RowIn.keep (s := { s with fs := placeS s.fs (bs name) }) (w' := w3.setCell ⟨rb, 1, none⟩ v3) (S' := S) hr (by simp [World.setCell]) (fun g hg _ => heap_setCell_other _ _ _ _ (by show g ≠ rb; omega)) (fun g _ hg => hS g hg)
  refine ⟨k, rfl, ?_, ⟨v3, h.mine, ?_, h.brk, hr2, hfit⟩, (Kept.of_below hb).set (.inl h.mine) _⟩
  · rw [hpl, List.getElem?_append_right (by rw [List.length_take]; omega), List.length_take, show k - min k s.fs.length = 0 by omega]
    unfold getF; rw [hl]; rfl
  · have hblk := (hb.block rb hlt).trans h.block
    simp [World.setCell, Array.getElem?_modify, hblk, refO]
set_option maxRecDepth 100000 in
set_option maxHeartbeats 4000000 in
theorem refPlace_any {S : Nat → Prop} {w : World} {rb : Nat} {s : St} {fv : Value} {wv : Bool} {left : Int} (h : RefO S w rb s fv wv left) (hS : ∀ k, w.heap.size ≤ k → S k) (hc : s.fs.length ≤ 1099511627776) (name : ByteArray) (hn : name.size ≤ 9223372036854775807) :
    Calls Tryz.prog 53 #[ptrV rb, .string name] w (PlaceQ S w rb s (bs name) wv left) := by
  have HRO := Lib.hid h
  obtain ⟨a, c, rfl⟩ := h.row.slice
  have c1 := h.c1
  have f1 := h.f 1
  have hlt0 := h.lt
  have hR := Lib.hid h.row
  have HSRT := Lib.hid h.fit.sorted
  clear h
  obtain ⟨i0, hi, hz0, hz1, hz2⟩ := info_parts (show (Tryz.prog.info? 70).map (fun i => (i.zero, i.size, i.bytes)) = some (some (.agg #[.string ⟨#[]⟩, .string ⟨#[]⟩, .int .i64 0, .bool false]), 4, 48) by kernel_rfl)
  go_enter Tryz.func53, Tryz.ntmps53
  go_wp2
  go_loopw [5] (fun i wr => ∃ k : Nat, k ≤ s.fs.length ∧ i = .int .i64 k ∧ (∀ p ∈ s.fs.take k, p.1 < bs name) ∧ wr = w) (fun i _ => s.fs.length - (intOf i).toNat)
  case atStart => exact ⟨0, by omega, rfl, by simp, rfl⟩
  case round =>
    obtain ⟨k, hk, rfl, hall, rfl⟩ := hrel
    have HALL := Lib.hid hall
    clear hall
    by_cases hlt : k < s.fs.length
    · have hlti : (k : Int) < (s.fs.length : Int) := by omega
      obtain ⟨p, hp⟩ : ∃ p, s.fs[k]? = some p := ⟨s.fs[k], List.getElem?_eq_getElem hlt⟩
      obtain ⟨g, rfl, _, hcap, _, _, x0, x1, _⟩ := ref_row hR.out hp
      by_cases hless : p.1 < bs name
      · have hbl : Op.bytesLess p.1 name.toList = true := by rw [Lib.toList_data, Go.Proofs.bytesLess_eq]; simpa using hless
        have HP := Lib.hid hp
        have HL := Lib.hid hless
        clear hp hless
        go_wp2
        go_roundw
        case rel =>
          refine ⟨k + 1, by omega, by go_num, fun q hq => ?_, by first | rfl | trivial⟩
          rw [take_snocA _ _ _ HP.out] at hq
          rcases List.mem_append.1 hq with hq | hq
          · exact HALL.out q hq
          · simp at hq; subst hq; exact HL.out
        case measure => simp [intOf]; omega
      · have hbl : Op.bytesLess p.1 name.toList = false := by rw [Lib.toList_data, Go.Proofs.bytesLess_eq]; simpa using hless
        by_cases heq : p.1 = bs name
        · have hq : p.1 = name.toList := by rw [heq, Lib.toList_data]
          have hbl2 : Op.bytesLess name.toList name.toList = false := by rw [Go.Proofs.bytesLess_eq]; simp
          have HP : Hid (s.fs[k]? = some (bs name, p.2)) := by show _ = _; rw [hp, ← heq]
          clear hp heq hless
          go_wp2
          go_ret
          have hlk : look s.fs (bs name) = some p.2 := mem_look HSRT.out (List.mem_of_getElem? HP.out)
          have hpl : placeS s.fs (bs name) = s.fs := by unfold placeS; rw [hlk]; rfl
          refine ⟨k, rfl, ?_, ⟨.slice (some ⟨g, 0, none⟩) s.fs.length c, ?_⟩, Kept.refl _ _⟩
          · rw [hpl, getF_look hlk]; exact HP.out
          · rw [hpl]; exact HRO.out
        · have hq : ¬ p.1 = name.toList := fun e => heq (by rw [e, Lib.toList_data])
          have hq2 : (p.1 == name.toList) = false := by rw [beq_eq_false_iff_ne]; exact hq
          have hgt : ∀ q ∈ s.fs.drop k, bs name < q.1 := by
            intro q hq'
            have hpk : bs name < p.1 := ltN hless heq
            obtain ⟨hk', e⟩ := List.getElem?_eq_some_iff.1 hp
            rw [List.drop_eq_getElem_cons hk', e] at hq'
            have hso := HSRT.out
            rw [← List.take_append_drop k s.fs, List.drop_eq_getElem_cons hk', e] at hso
            rcases List.mem_cons.1 hq' with rfl | hq'
            · exact hpk
            · have := (List.pairwise_append.1 hso).2.1
              exact ltT hpk ((List.pairwise_cons.1 this).1 q hq')
          have hpu : putF s.fs (bs name) F.zero = s.fs.take k ++ (bs name, F.zero) :: s.fs.drop k := by
            have := put_split (f := F.zero) HALL.out hgt
            rw [List.take_append_drop] at this; exact this
          have HPUT := Lib.hid (And.intro hpu hn)
          have HLK : Hid (look s.fs (bs name) = none) := look_none (fun q hq' e => by
            rw [← List.take_append_drop k s.fs] at hq'
            rcases List.mem_append.1 hq' with hq' | hq'
            · exact ltne (HALL.out q hq') e
            · exact ltne (hgt q hq') e.symm)
          clear hp hgt hpu heq hless
          obtain ⟨V1, v1a, v1b, s1⟩ := ref_slice_to hR.out k hk
          have S1 := Lib.hid s1
          clear s1
          go_wp2_with (at_builtin; go_loud (refine wpList_append_src rfl _ _ 54 rfl wr.heap.size 70 i0 (.agg #[.string ⟨#[]⟩, .string ⟨#[]⟩, .int .i64 0, .bool false]) 4 48 Tryz.underlying54 hi hz0 hz1 hz2 rfl (by decide) _ 0 [] rfl (World.ownsRow_nil _ _ _ _) _ k (refL (s.fs.take k)) rfl S1.out (by rw [refL_len, List.length_take]; omega) (refL_one _) (by unfold maxLen; omega) (by omega) (Nat.le_refl _) ?_))
          intro v1 w1 ho1 hg1
          have B1 : Hid (Below wr.heap.size wr w1) := (Below.refl _ _).grown hg1 (Nat.le_refl _) (fun j hj => by cases hj)
          have HO1 := Lib.hid ho1
          have hsz1 := B1.out.size
          clear ho1 hg1 v1a v1b
          go_wp2_with (at_builtin; go_loud (refine wpList_append_src rfl _ _ 54 rfl wr.heap.size 70 i0 (.agg #[.string ⟨#[]⟩, .string ⟨#[]⟩, .int .i64 0, .bool false]) 4 48 Tryz.underlying54 hi hz0 hz1 hz2 rfl (by decide) _ _ _ rfl (HO1.out.alloc _) _ 1 [.string name, .string ⟨#[]⟩, .int .i64 0, .bool false] rfl (.inr ⟨⟨_, 0, none⟩, _, rfl, newsAt _ _ [.string name, .string ⟨#[]⟩, .int .i64 0, .bool false] _ (by simp)⟩) rfl (ones4 _) (by unfold maxLen; omega) (by omega) (by simp; omega) ?_))
          intro v2 w2 ho2 hg2
          have B2 : Hid (Below wr.heap.size wr w2) := (B1.out.alloc B1.out.size _).grown hg2 (by simp; omega) (fun j hj => (HO1.out.lt j hj).1)
          have HO2 := Lib.hid ho2
          have c1' : w2.cell? ⟨rb, 1, none⟩ = _ := (B2.out.cell (p := ⟨rb, 1, none⟩) hlt0).trans c1
          have hR2 := RowIn.keep (S' := S) hR.out B2.out.size (fun g _ hl => B2.out.block g hl) (fun _ _ hg => hg)
          obtain ⟨V2, v2a, v2b, s2⟩ := ref_slice_from hR2 k hk
          have S2 := Lib.hid s2
          have hsz2 := B2.out.size
          clear ho2 hg2 hR2 s2
          go_wp2_with (at_builtin; go_loud (refine wpList_append_src rfl _ _ 54 rfl wr.heap.size 70 i0 (.agg #[.string ⟨#[]⟩, .string ⟨#[]⟩, .int .i64 0, .bool false]) 4 48 Tryz.underlying54 hi hz0 hz1 hz2 rfl (by decide) _ _ _ rfl HO2.out _ (s.fs.length - k) (refL (s.fs.drop k)) rfl S2.out (by rw [refL_len, List.length_drop]) (refL_one _) (by unfold maxLen; omega) (by omega) hsz2 ?_))
          intro v3 w3 ho3 hg3
          obtain ⟨va3, vc3, rfl⟩ := row_slice ho3
          have B3 : Hid (Below wr.heap.size wr w3) := B2.out.grown hg3 hsz2 (fun j hj => (HO2.out.lt j hj).1)
          have HO3 := Lib.hid ho3
          have f1' : w3.frozen? ⟨rb, 1, none⟩ = false := by rw [World.frozen?_of_block (a := ⟨rb, 1, none⟩) (B3.out.block rb hlt0)]; exact f1
          have cc1 : w3.cell? ⟨rb, 1, none⟩ = _ := (B3.out.cell (p := ⟨rb, 1, none⟩) hlt0).trans c1
          clear ho3 hg3
          go_wp2
          go_ret
          exact place_end HRO.out hS hk HPUT.out HLK.out B3.out (by have := HO3.out; simpa using this)
    · have hlti : ¬ (k : Int) < (s.fs.length : Int) := by omega
      have hke : k = s.fs.length := by omega
      have hpu : putF s.fs (bs name) F.zero = s.fs.take k ++ (bs name, F.zero) :: s.fs.drop k := by
        have := put_split (f := F.zero) (B := s.fs.drop k) HALL.out (by rw [hke]; simp)
        rw [List.take_append_drop] at this; exact this
      have HPUT := Lib.hid (And.intro hpu hn)
      have HLK : Hid (look s.fs (bs name) = none) := look_none (fun q hq' e => by
        rw [← List.take_of_length_le (l := s.fs) (i := k) (by omega)] at hq'
        exact ltne (HALL.out q hq') e)
      have HKE := Lib.hid hke
      clear hpu hke
      obtain ⟨V1, v1a, v1b, s1⟩ := ref_slice_to hR.out k hk
      have S1 := Lib.hid s1
      clear s1
      go_wp2_with (at_builtin; go_loud (refine wpList_append_src rfl _ _ 54 rfl wr.heap.size 70 i0 (.agg #[.string ⟨#[]⟩, .string ⟨#[]⟩, .int .i64 0, .bool false]) 4 48 Tryz.underlying54 hi hz0 hz1 hz2 rfl (by decide) _ 0 [] rfl (World.ownsRow_nil _ _ _ _) _ k (refL (s.fs.take k)) rfl S1.out (by rw [refL_len, List.length_take]; omega) (refL_one _) (by unfold maxLen; omega) (by omega) (Nat.le_refl _) ?_))
      intro v1 w1 ho1 hg1
      have B1 : Hid (Below wr.heap.size wr w1) := (Below.refl _ _).grown hg1 (Nat.le_refl _) (fun j hj => by cases hj)
      have HO1 := Lib.hid ho1
      have hsz1 := B1.out.size
      clear ho1 hg1 v1a v1b
      go_wp2_with (at_builtin; go_loud (refine wpList_append_src rfl _ _ 54 rfl wr.heap.size 70 i0 (.agg #[.string ⟨#[]⟩, .string ⟨#[]⟩, .int .i64 0, .bool false]) 4 48 Tryz.underlying54 hi hz0 hz1 hz2 rfl (by decide) _ _ _ rfl (HO1.out.alloc _) _ 1 [.string name, .string ⟨#[]⟩, .int .i64 0, .bool false] rfl (.inr ⟨⟨_, 0, none⟩, _, rfl, newsAt _ _ [.string name, .string ⟨#[]⟩, .int .i64 0, .bool false] _ (by simp)⟩) rfl (ones4 _) (by unfold maxLen; omega) (by omega) (by simp; omega) ?_))
      intro v2 w2 ho2 hg2
      have B2 : Hid (Below wr.heap.size wr w2) := (B1.out.alloc B1.out.size _).grown hg2 (by simp; omega) (fun j hj => (HO1.out.lt j hj).1)
      have HO2 := Lib.hid ho2
      have c1' : w2.cell? ⟨rb, 1, none⟩ = _ := (B2.out.cell (p := ⟨rb, 1, none⟩) hlt0).trans c1
      have hR2 := RowIn.keep (S' := S) hR.out B2.out.size (fun g _ hl => B2.out.block g hl) (fun _ _ hg => hg)
      obtain ⟨V2, v2a, v2b, s2⟩ := ref_slice_from hR2 k hk
      have S2 := Lib.hid s2
      have hsz2 := B2.out.size
      clear ho2 hg2 hR2 s2
      go_wp2_with (at_builtin; go_loud (refine wpList_append_src rfl _ _ 54 rfl wr.heap.size 70 i0 (.agg #[.string ⟨#[]⟩, .string ⟨#[]⟩, .int .i64 0, .bool false]) 4 48 Tryz.underlying54 hi hz0 hz1 hz2 rfl (by decide) _ _ _ rfl HO2.out _ (s.fs.length - k) (refL (s.fs.drop k)) rfl S2.out (by rw [refL_len, List.length_drop]) (refL_one _) (by unfold maxLen; omega) (by omega) hsz2 ?_))
      intro v3 w3 ho3 hg3
      obtain ⟨va3, vc3, rfl⟩ := row_slice ho3
      have B3 : Hid (Below wr.heap.size wr w3) := B2.out.grown hg3 hsz2 (fun j hj => (HO2.out.lt j hj).1)
      have HO3 := Lib.hid ho3
      have f1' : w3.frozen? ⟨rb, 1, none⟩ = false := by rw [World.frozen?_of_block (a := ⟨rb, 1, none⟩) (B3.out.block rb hlt0)]; exact f1
      have cc1 : w3.cell? ⟨rb, 1, none⟩ = _ := (B3.out.cell (p := ⟨rb, 1, none⟩) hlt0).trans c1
      clear ho3 hg3
      go_wp2
      go_ret
      exact place_end HRO.out hS hk HPUT.out HLK.out B3.out (by have := HO3.out; simpa using this)
end Go.Proofs.YtnffjoflkeagfaaGreat
