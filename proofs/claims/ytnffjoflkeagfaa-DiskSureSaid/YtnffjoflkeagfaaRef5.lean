/- The document's disk: a file's cells written; Sync. -/
import Derived.Test.YtnffjoflkeagfaaRef4
import Derived.Laws.Rows
namespace Go.Proofs.Ytnffjoflkeagfaa
open Go.RowKit Go.Maps

theorem refL_cons (p : List UInt8 × F) (r : Fs) : refL (p :: r) = refC p ++ refL r := by simp [refL]
theorem refC_len (p : List UInt8 × F) : (refC p).length = 4 := rfl
theorem refL_set {p p' : List UInt8 × F} {i : Nat} {u : Value} (hi : i < 4) (hc : refC p' = (refC p).set i u) : ∀ (fs : Fs) (j : Nat), fs[j]? = some p → refL (fs.set j p') = (refL fs).set (j * 4 + i) u
  | [], j, h => by simp at h
  | q :: r, 0, h => by
    have : q = p := by simpa using h
    subst this
    rw [List.set_cons_zero, refL_cons, refL_cons, hc, Nat.zero_mul, Nat.zero_add, List.set_append_left _ _ (by rw [refC_len]; exact hi)]
  | q :: r, j + 1, h => by
    rw [List.set_cons_succ, refL_cons, refL_cons, refL_set hi hc r j (by simpa using h), List.set_append_right _ _ (by rw [refC_len]; omega)]
    congr 2
    rw [refC_len]; omega
/-- a file of the list written anew -/
theorem set_put {fs : Fs} (hs : Sorted fs) {j : Nat} {k : List UInt8} {f : F} (h : fs[j]? = some (k, f)) (f' : F) : fs.set j (k, f') = putF fs k f' := by
  obtain ⟨hj, e⟩ := List.getElem?_eq_some_iff.1 h
  have e1 : fs = fs.take j ++ (k, f) :: fs.drop (j + 1) := by
    rw [← e, List.getElem_cons_drop, List.take_append_drop]
  have e2 : fs.set j (k, f') = fs.take j ++ (k, f') :: fs.drop (j + 1) := by
    rw [List.set_eq_take_append_cons_drop, if_pos hj]
  rw [e2]
  rw [e1] at hs
  have := put_mid hs f'
  rw [← e1] at this
  exact this.symm
section
variable {S S' : Nat → Prop} {w w' : World} {rb : Nat} {s : St} {fv : Value} {wv : Bool} {left : Int}
theorem RowIn.set {fs : Fs} {g n c j i : Nat} {u : Value} {p p' : List UInt8 × F} (h : RowIn S w (.slice (some ⟨g, 0, none⟩) n c) fs) (hp : fs[j]? = some p) (hi : i < 4) (hc : refC p' = (refC p).set i u) :
    RowIn S (w.setCell ⟨g, j * 4 + i, none⟩ u) (.slice (some ⟨g, 0, none⟩) n c) (fs.set j p') := by
  have hj := (List.getElem?_eq_some_iff.1 hp).1
  rcases h with ⟨e, _⟩ | ⟨g', cap, cur, e, h1, h2, h3, h4, h5, h6, h7⟩
  · cases e
  · cases e
    refine .inr ⟨g, c, cur.setIfInBounds (j * 4 + i) u, by rw [List.length_set], h1, by simpa [World.setCell] using h2, ?_, by rw [List.length_set]; exact h4, h5, by simpa using h6, ?_⟩
    · exact Go.heap_setCell_same _ _ _ _ _ _ h3
    · rw [List.length_set, refL_set hi hc fs j hp, Array.toList_setIfInBounds, List.take_set, h7]
theorem RefO.apart2 {fs : Fs} {g n c : Nat} (h : RefO S w rb s fv wv left) (hr : RowIn S w (.slice (some ⟨g, 0, none⟩) n c) fs) : g ≠ rb := by
  rcases hr with ⟨e, _⟩ | ⟨g', cap, cur, e, _, _, h3, _⟩
  · cases e
  · cases e
    exact h.apart h3
theorem RefO.alter {fs' : Fs} (h : RefO S w rb s fv wv left) (hb : w'.heap[rb]? = w.heap[rb]?) (hr : RowIn S w' fv fs') (hf : Fit { s with fs := fs' }) : RefO S w' rb { s with fs := fs' } fv wv left :=
  ⟨h.mine, hb.trans h.block, h.brk, hr, hf⟩
end
theorem mustE_down {s : St} (h : s.down = true) (k : List UInt8) : mustE s k = 41 := by unfold mustE; rw [if_pos h]
theorem mustE_up {s : St} (h : s.down = false) (k : List UInt8) : mustE s k = needE s k := by unfold mustE; rw [if_neg (by rw [h]; simp)]
/-- a change that must find its file errs: nothing is done -/
theorem must_err {s : St} {k : List UInt8} (he : mustE s k ≠ 0) (f1 f2 : Fs) : changeS s (needE s k) f1 f2 = (mustE s k, s) := by
  cases hd : s.down with
  | true => rw [changeS_down hd, mustE_down hd]
  | false => rw [mustE_up hd] at he ⊢; rw [changeS_err hd he]
theorem must_zero {s : St} {k : List UInt8} (he : mustE s k = 0) : s.down = false ∧ needE s k = 0 ∧ ∃ (j : Nat) (f : F), placeI s.fs k 0 = (j : Int) ∧ s.fs[j]? = some (k, f) ∧ look s.fs k = some f := by
  cases hd : s.down with
  | true => rw [mustE_down hd] at he; omega
  | false =>
    rw [mustE_up hd] at he
    refine ⟨rfl, he, ?_⟩
    by_cases hp : placeI s.fs k 0 = -1
    · unfold needE at he; rw [place_look hp] at he; simp at he
    · obtain ⟨j, f, e1, e2, e3⟩ := place_get hp
      exact ⟨j, f, by rw [e1, Nat.zero_add], e2, e3⟩
set_option maxRecDepth 100000 in
set_option maxHeartbeats 4000000 in
theorem refSync_any {S : Nat → Prop} {w : World} {rb : Nat} {s : St} (h : RefAt S w rb s) (hc : s.fs.length ≤ 1099511627776) (name : ByteArray) (_hn : name.size ≤ 9223372036854775807) :
    Calls Try.prog 35 #[ptrV rb, .string name] w fun e w' => e = .returned (.int .i64 (syncS s (bs name)).1) ∧ RefAt S w' rb (syncS s (bs name)).2 ∧ Kept S w w' := by
  have hm := refMust_any h hc name
  by_cases he : mustE s (bs name) = 0
  · obtain ⟨hd, hne, j, f, e1, e2, e3⟩ := must_zero he
    rw [he, e1] at hm
    obtain ⟨fv, wv, left, h⟩ := h
    have hb := refBreaks_any h hd
    have hmine := h.mine
    cases hbr : brkB s with
    | true =>
      have HS : Hid (syncS s (bs name) = (41, { brkS s with fs := s.fs })) := changeS_torn hd hne hbr _ _
      rw [hbr] at hb
      clear h he hne hd e1 e2 e3 hbr
      generalize syncS s (bs name) = R at *
      go_enter Try.func35, Try.ntmps35
      go_wp2_with fail
      refine hm.mono ?_
      rintro e w1 ⟨rfl, rfl⟩
      go_wp2_with fail
      refine hb.mono ?_
      rintro e w2 ⟨rfl, ⟨wv', left', h2⟩, hg⟩
      have H2 := Lib.hid h2
      have HG := Lib.hid hg
      clear h2 hg
      go_wp2
      go_ret
      rw [HS.out]
      refine ⟨rfl, ⟨fv, wv', left', ?_⟩, Kept.of_but HG.out hmine⟩
      have e : ({ brkS s with fs := s.fs } : St) = brkS s := by rw [← brkS_fs s]
      rw [e]; exact H2.out
    | false =>
      have HS : Hid (syncS s (bs name) = (0, { brkS s with fs := putF s.fs (bs name) (syncedF f) })) := by
        show _ = _
        unfold syncS
        rw [getF_look e3]
        exact changeS_whole hd hne hbr _ _
      rw [hbr] at hb
      have HE2 := Lib.hid e2
      have hlt := (List.getElem?_eq_some_iff.1 e2).1
      have hlti : (j : Int) < (s.fs.length : Int) := by omega
      have HSRT := Lib.hid h.fit.sorted
      have HFIT := Lib.hid h.fit
      have HE3 := Lib.hid e3
      clear h he hne hd e1 e2 e3 hbr
      generalize syncS s (bs name) = R at *
      go_enter Try.func35, Try.ntmps35
      go_wp2_with fail
      refine hm.mono ?_
      rintro e w1 ⟨rfl, rfl⟩
      go_wp2_with fail
      refine hb.mono ?_
      rintro e w2 ⟨rfl, ⟨wv', left', h2⟩, hg⟩
      obtain ⟨a, c, rfl⟩ := h2.row.slice
      rw [brkS_fs] at h2
      have hrow := h2.row
      have c1 := h2.c1
      have H2 := Lib.hid h2
      have HG := Lib.hid hg
      rw [brkS_fs] at hrow
      obtain ⟨g, rfl, _, hcap, hSg, hgl, x0, x1, x2, x3, hfz⟩ := ref_row hrow HE2.out
      have hne : g ≠ rb := H2.out.apart2 hrow
      have HROW := Lib.hid hrow
      have fz2 := hfz (j * 4 + 2)
      have fz3 := hfz (j * 4 + 3)
      clear h2 hg hrow hfz hb hm
      go_wp2_with fail
      have hnb : (mk f.b).size = f.b.length := mk_size _
      go_region
      go_wp2
      go_ret
      rw [HS.out]
      have r1 := HROW.out.set HE2.out (i := 2) (u := .int .i64 (f.b.length : Int)) (p' := (bs name, ⟨f.b, f.b.length, f.u⟩)) (by decide) rfl
      have r2 := r1.set (j := j) (i := 3) (u := .bool true) (p := (bs name, ⟨f.b, f.b.length, f.u⟩)) (p' := (bs name, syncedF f)) (by rw [List.getElem?_set_self hlt]) (by decide) rfl
      rw [List.set_set, set_put HSRT.out HE2.out] at r2
      have hfit : Fit { brkS s with fs := putF s.fs (bs name) (syncedF f) } := fit_fs H2.out.fit (by rw [brkS_fs]) (by rw [bs_len]; omega) (Nat.le_refl _) (by rw [brkS_fs, brkS_room, getF_look HE3.out]; have := HFIT.out.room; simp only [syncedF]; omega) _ _ _ H2.out.fit.moreI
      have k2 : Kept S w w2 := Kept.of_but HG.out hmine
      refine ⟨rfl, RefAt.below ⟨_, wv', left', H2.out.alter ?_ r2 hfit⟩ ((Below.refl _ _).drew), ((k2.set (.inl hSg) _).set (.inl hSg) _).drewN 1⟩
      rw [heap_setCell_other _ _ _ _ (Ne.symm hne), heap_setCell_other _ _ _ _ (Ne.symm hne)]
  · have HS : Hid (syncS s (bs name) = (mustE s (bs name), s)) := must_err he _ _
    have hei : (mustE s (bs name) != 0) = true := by simpa using he
    have H := Lib.hid h
    clear h he
    generalize syncS s (bs name) = R at *
    generalize mustE s (bs name) = E at *
    go_enter Try.func35, Try.ntmps35
    go_wp2_with fail
    refine hm.mono ?_
    rintro e w1 ⟨rfl, rfl⟩
    go_wp2
    go_ret
    rw [HS.out]
    exact ⟨rfl, H.out, Kept.refl _ _⟩
end Go.Proofs.Ytnffjoflkeagfaa
