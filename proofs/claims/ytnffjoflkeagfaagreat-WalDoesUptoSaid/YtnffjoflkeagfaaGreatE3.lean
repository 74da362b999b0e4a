/- The document's disk: Append. The document's disk: Replace. The document's disk: Remove. -/
import Derived.Test.YtnffjoflkeagfaaGreatE2
namespace Go.Proofs.YtnffjoflkeagfaaGreat
open Go.RowKit Go.Maps

theorem mk_cat (l : List UInt8) (x : ByteArray) : mk l ++ x = mk (l ++ bs x) := by
  apply ByteArray.ext
  apply Array.ext'
  simp [mk]
theorem put_put (k : List UInt8) (f f' : F) : ∀ fs : Fs, putF (putF fs k f) k f' = putF fs k f'
  | [] => by simp [putF]
  | p :: r => by
    by_cases h1 : p.1 < k
    · rw [putF, if_pos h1, putF, if_pos h1, put_put k f f' r, putF, if_pos h1]
    · by_cases h2 : p.1 = k
      · rw [putF, if_neg h1, if_pos h2, putF, if_neg (ltI k), if_pos rfl, putF, if_neg h1, if_pos h2]
      · rw [putF, if_neg h1, if_neg h2, putF, if_neg (ltI k), if_pos rfl, putF, if_neg h1, if_neg h2]
theorem put_place (fs : Fs) (k : List UInt8) (f : F) : putF (placeS fs k) k f = putF fs k f := by
  unfold placeS
  split
  · rfl
  · exact put_put k _ f fs
theorem sorted_place {fs : Fs} (h : Sorted fs) (k : List UInt8) : Sorted (placeS fs k) := by
  unfold placeS
  split
  · exact h
  · exact sorted_put h _ _
theorem place_len (fs : Fs) (k : List UInt8) : (placeS fs k).length ≤ fs.length + 1 := by
  unfold placeS
  split
  · omega
  · exact length_put _ _ _
set_option maxRecDepth 100000 in
set_option maxHeartbeats 4000000 in
theorem refAppend_any {S : Nat → Prop} {w : World} {rb : Nat} {s : St} (h : RefAt S w rb s) (hS : ∀ k, w.heap.size ≤ k → S k) (hc : s.fs.length ≤ 1099511627776) (name x : ByteArray) (hn : name.size ≤ 9223372036854775807) (hx : usedF s.fs + x.size ≤ 9223372036854775807) :
    Calls Tryz.prog 27 #[ptrV rb, .string name, .string x] w fun e w' => e = .returned (.int .i64 (appendS s (bs name) (bs x)).1) ∧ RefAt S w' rb (appendS s (bs name) (bs x)).2 ∧ Kept S w w' := by
  have HT := Lib.hid h
  have HU : Hid (∀ q, Calls Tryz.prog 51 #[ptrV rb] (w.drewN q) fun e w' => e = .returned (.int .i64 (usedF s.fs : Int)) ∧ ∃ r, w' = (w.drewN q).drewN r) := fun q =>
    (refUsed_any (h.below (below_drewN (Below.refl _ _) q)) hc).mono (fun e w' hh => ⟨hh.1, 0, hh.2.symm⟩)
  obtain ⟨fv, wv, left, h⟩ := h
  have c0 := h.c0
  have c2 := h.c2
  cases hd : s.down with
  | true =>
    have HS : Hid (appendS s (bs name) (bs x) = (41, s)) := changeS_down hd _ _ _
    rw [hd] at c2
    clear h hd
    generalize appendS s (bs name) (bs x) = R at *
    go_enter Tryz.func27, Tryz.ntmps27
    go_wp2
    go_ret
    rw [HS.out]
    exact ⟨rfl, HT.out, Kept.refl _ _⟩
  | false =>
    rw [hd] at c2
    by_cases hr : s.room < usedF s.fs + x.size
    · have HS : Hid (appendS s (bs name) (bs x) = (40, s)) := by
        show _ = _
        unfold appendS
        rw [if_pos (by rw [bs_len]; omega)]
        exact changeS_err hd (by decide) _ _
      have hri : (s.room : Int) < (usedF s.fs : Int) + (x.size : Int) := by omega
      have hw : IntKind.i64.wrap ((usedF s.fs : Int) + (x.size : Int)) = (usedF s.fs : Int) + (x.size : Int) := IntWalk.i64_in _ (by omega)
      clear h hd
      generalize appendS s (bs name) (bs x) = R at *
      go_enter Tryz.func27, Tryz.ntmps27
      go_wp2_with fail
      go_quiet ((go_at_call 51; exact Calls.quiet_of (HU.out _)))
      go_wp2
      go_ret
      rw [HS.out]
      exact ⟨rfl, HT.out.below (below_drewN (Below.refl _ _) _), (Kept.refl _ _).drewN _⟩
    · have HS : Hid (appendS s (bs name) (bs x) = (if brkB s = true then 41 else 0, { brkS s with fs := putF s.fs (bs name) (grown (getF s.fs (bs name)) (bs x)) })) := by
        show _ = _
        unfold appendS
        rw [if_neg (by rw [bs_len]; omega)]
        cases hb : brkB s with
        | true => rw [changeS_torn hd rfl hb]; rfl
        | false => rw [changeS_whole hd rfl hb]; rfl
      have hri : (usedF s.fs : Int) + (x.size : Int) ≤ (s.room : Int) := by omega
      have hw : IntKind.i64.wrap ((usedF s.fs : Int) + (x.size : Int)) = (usedF s.fs : Int) + (x.size : Int) := IntWalk.i64_in _ (by omega)
      have HD := Lib.hid hd
      have HR := Lib.hid hr
      clear h hd hr
      generalize appendS s (bs name) (bs x) = R at *
      go_enter Tryz.func27, Tryz.ntmps27
      go_wp2_with fail
      go_quiet ((go_at_call 51; exact Calls.quiet_of (HU.out _)))
      have K1 : Hid (Kept S w (w.drewN nq)) := (Kept.refl _ _).drewN _
      obtain ⟨fv1, wv1, left1, h1⟩ := HT.out.below (below_drewN (Below.refl _ _) nq)
      have hmine := h1.mine
      have hS1 : ∀ k, (w.drewN nq).heap.size ≤ k → S k := fun k hk => hS k hk
      generalize w.drewN nq = w1 at *
      go_wp2_with fail
      refine (refBreaks_any h1 HD.out).mono ?_
      rintro e w2 ⟨rfl, ⟨wv2, left2, h2⟩, hg2⟩
      have K2 : Hid (Kept S w w2) := K1.out.trans (Kept.of_but hg2 hmine)
      have hS2 : ∀ k, w2.heap.size ≤ k → S k := fun k hk => hS1 k (Nat.le_trans hg2.size hk)
      clear h1 hg2
      generalize brkB s = B at *
      go_wp2_with fail
      refine (refPlace_any h2 hS2 (by rw [brkS_fs]; exact hc) name hn).mono ?_
      rintro e w3 ⟨j, rfl, hj, ⟨fv3, h3⟩, k3⟩
      simp only [brkS_fs] at hj h3
      have K3 : Hid (Kept S w w3) := K2.out.trans k3
      obtain ⟨a, c, rfl⟩ := h3.row.slice
      have hrow := h3.row
      have c1 := h3.c1
      obtain ⟨g, rfl, _, hcap, hSg, hgl, x0, x1, x2, x3, hfz⟩ := ref_row hrow hj
      have hap : g ≠ rb := h3.apart2 hrow
      have fz1 := hfz (j * 4 + 1)
      have hlt := (List.getElem?_eq_some_iff.1 hj).1
      have hlti : (j : Int) < ((placeS s.fs (bs name)).length : Int) := by omega
      have hple := place_len s.fs (bs name)
      have H3 := Lib.hid h3
      have HROW := Lib.hid hrow
      have HJ := Lib.hid hj
      have HH2 := Lib.hid h2.fit
      have HSRT := Lib.hid (sorted_place (by have := h2.fit.sorted; rw [brkS_fs] at this; exact this : Sorted s.fs) (bs name))
      clear h3 hrow hj hfz k3 h2 hw hri
      have hcs : (getF s.fs (bs name)).b.length + x.size ≤ 9223372036854775807 := by have := get_le s.fs (bs name); omega
      have hcs' : ¬ 9223372036854775807 < (getF s.fs (bs name)).b.length + x.size := by omega
      go_wp2_with fail
      go_region
      have hfin : ∀ v, RefAt S ((w3.setCell ⟨g, j * 4 + 1, none⟩ (.string (mk (getF s.fs (bs name)).b ++ x))).drewN v) rb { brkS s with fs := putF s.fs (bs name) (grown (getF s.fs (bs name)) (bs x)) } ∧ Kept S w ((w3.setCell ⟨g, j * 4 + 1, none⟩ (.string (mk (getF s.fs (bs name)).b ++ x))).drewN v) := by
        intro v
        have r1 := HROW.out.set HJ.out (i := 1) (u := .string (mk (getF s.fs (bs name)).b ++ x)) (p' := (bs name, grown (getF s.fs (bs name)) (bs x))) (by decide) (by simp only [refC, grown]; rw [mk_cat]; rfl)
        rw [set_put HSRT.out HJ.out, put_place] at r1
        have hfit := fit_append HH2.out (bs name) (bs x) (by rw [bs_len]; omega) (by rw [brkS_fs, brkS_room, bs_len]; have := HR.out; omega)
        rw [brkS_fs] at hfit
        refine ⟨RefAt.below ⟨_, wv2, left2, H3.out.alter ?_ r1 hfit⟩ (below_drewN (Below.refl _ _) v), (K3.out.set (.inl hSg) _).drewN v⟩
        rw [heap_setCell_other _ _ _ _ (Ne.symm hap)]
      have HFIN := Lib.hid hfin
      clear hfin
      cases B with
      | true =>
        go_wp2
        go_ret
        rw [HS.out]
        exact ⟨rfl, HFIN.out 1⟩
      | false =>
        go_wp2
        go_ret
        rw [HS.out]
        exact ⟨rfl, HFIN.out 1⟩
end Go.Proofs.YtnffjoflkeagfaaGreat
namespace Go.Proofs.YtnffjoflkeagfaaGreat
open Go.RowKit Go.Maps

theorem replace_end {S : Nat → Prop} {w w3 : World} {rb : Nat} {s : St} {g n c j : Nat} {wv : Bool} {left : Int} {f : F} {name x : ByteArray} (h3 : RefO S w3 rb { brkS s with fs := placeS s.fs (bs name) } (.slice (some ⟨g, 0, none⟩) n c) wv left)
    (hrow : RowIn S w3 (.slice (some ⟨g, 0, none⟩) n c) (placeS s.fs (bs name))) (hj : (placeS s.fs (bs name))[j]? = some (bs name, f)) (hso : Sorted (placeS s.fs (bs name))) (hSg : S g) (k3 : Kept S w w3) (hfit0 : Fit (brkS s)) (hn : name.size ≤ 9223372036854775807)
    (hr : usedF s.fs + x.size ≤ s.room + (getF s.fs (bs name)).b.length) :
    RefAt S ((((w3.setCell ⟨g, j * 4, none⟩ (.string name)).setCell ⟨g, j * 4 + 1, none⟩ (.string x)).setCell ⟨g, j * 4 + 2, none⟩ (.int .i64 (x.size : Int))).setCell ⟨g, j * 4 + 3, none⟩ (.bool true)) rb { brkS s with fs := putF s.fs (bs name) ⟨bs x, (bs x).length, true⟩ } ∧
    Kept S w ((((w3.setCell ⟨g, j * 4, none⟩ (.string name)).setCell ⟨g, j * 4 + 1, none⟩ (.string x)).setCell ⟨g, j * 4 + 2, none⟩ (.int .i64 (x.size : Int))).setCell ⟨g, j * 4 + 3, none⟩ (.bool true)) := by
  have hlt := (List.getElem?_eq_some_iff.1 hj).1
  have hap := h3.apart2 hrow
  have r0 : RowIn S (w3.setCell ⟨g, j * 4, none⟩ (.string name)) (.slice (some ⟨g, 0, none⟩) n c) ((placeS s.fs (bs name)).set j (bs name, f)) := hrow.set hj (i := 0) (u := .string name) (p' := (bs name, f)) (by decide) (by simp [refC, mk_bs])
  have r1 := r0.set (j := j) (i := 1) (u := .string x) (p := (bs name, f)) (p' := (bs name, ⟨bs x, f.s, f.u⟩)) (by rw [List.getElem?_set_self hlt]) (by decide) (by simp [refC, mk_bs])
  rw [List.set_set] at r1
  have r2 := r1.set (j := j) (i := 2) (u := .int .i64 (x.size : Int)) (p := (bs name, ⟨bs x, f.s, f.u⟩)) (p' := (bs name, ⟨bs x, (bs x).length, f.u⟩)) (by rw [List.getElem?_set_self hlt]) (by decide) (by simp [refC])
  rw [List.set_set] at r2
  have r3 := r2.set (j := j) (i := 3) (u := .bool true) (p := (bs name, ⟨bs x, (bs x).length, f.u⟩)) (p' := (bs name, ⟨bs x, (bs x).length, true⟩)) (by rw [List.getElem?_set_self hlt]) (by decide) (by simp [refC])
  rw [List.set_set, set_put hso hj, put_place] at r3
  have hfit : Fit { brkS s with fs := putF s.fs (bs name) ⟨bs x, (bs x).length, true⟩ } := fit_fs hfit0 (by rw [brkS_fs]) (by rw [bs_len]; omega) (Nat.le_refl _) (by rw [brkS_fs, brkS_room, bs_len]; exact hr) _ _ _ hfit0.moreI
  refine ⟨⟨_, wv, left, h3.alter ?_ r3 hfit⟩, (((k3.set (.inl hSg) _).set (.inl hSg) _).set (.inl hSg) _).set (.inl hSg) _⟩
  rw [heap_setCell_other _ _ _ _ (Ne.symm hap), heap_setCell_other _ _ _ _ (Ne.symm hap), heap_setCell_other _ _ _ _ (Ne.symm hap), heap_setCell_other _ _ _ _ (Ne.symm hap)]
set_option maxRecDepth 100000 in
set_option maxHeartbeats 4000000 in
theorem refReplace_any {S : Nat → Prop} {w : World} {rb : Nat} {s : St} (h : RefAt S w rb s) (hS : ∀ k, w.heap.size ≤ k → S k) (hc : s.fs.length ≤ 1099511627776) (name x : ByteArray) (hn : name.size ≤ 9223372036854775807) (hx : usedF s.fs + x.size ≤ 9223372036854775807) :
    Calls Tryz.prog 45 #[ptrV rb, .string name, .string x] w fun e w' => e = .returned (.int .i64 (replaceS s (bs name) (bs x)).1) ∧ RefAt S w' rb (replaceS s (bs name) (bs x)).2 ∧ Kept S w w' := by
  have HT := Lib.hid h
  have hf := refFind_any h hc name
  have HU : Hid (∀ q, Calls Tryz.prog 51 #[ptrV rb] (w.drewN q) fun e w' => e = .returned (.int .i64 (usedF s.fs : Int)) ∧ ∃ r, w' = (w.drewN q).drewN r) := fun q =>
    (refUsed_any (h.below (below_drewN (Below.refl _ _) q)) hc).mono (fun e w' hh => ⟨hh.1, 0, hh.2.symm⟩)
  obtain ⟨fv, wv, left, h⟩ := h
  obtain ⟨a, c, rfl⟩ := h.row.slice
  have c0 := h.c0
  have c1 := h.c1
  have c2 := h.c2
  cases hd : s.down with
  | true =>
    have HS : Hid (replaceS s (bs name) (bs x) = (41, s)) := changeS_down hd _ _ _
    rw [hd] at c2
    clear h hd
    generalize replaceS s (bs name) (bs x) = R at *
    go_enter Tryz.func45, Tryz.ntmps45
    go_wp2
    go_ret
    rw [HS.out]
    exact ⟨rfl, HT.out, Kept.refl _ _⟩
  | false =>
    rw [hd] at c2
    by_cases hp : placeI s.fs (bs name) 0 = -1
    · have hgl0 := get_le s.fs (bs name)
      have hgf : Hid (getF s.fs (bs name) = F.zero) := by show _ = _; unfold getF; rw [place_look hp]; rfl
      have w1a : IntKind.i64.wrap ((usedF s.fs : Int) - (0 : Int)) = (usedF s.fs : Int) := by rw [IntWalk.i64_in _ (by omega)]; omega
      have w2a : IntKind.i64.wrap ((usedF s.fs : Int) + (x.size : Int)) = (usedF s.fs : Int) + (x.size : Int) := IntWalk.i64_in _ (by omega)
      rw [hp] at hf
      by_cases hr : s.room < usedF s.fs + x.size
      · have HS : Hid (replaceS s (bs name) (bs x) = (40, s)) := by
          show _ = _
          unfold replaceS
          rw [if_pos (by rw [bs_len, hgf.out]; simp only [F.zero, List.length_nil]; omega)]
          exact changeS_err hd (by decide) _ _
        have hri : (s.room : Int) < (usedF s.fs : Int) + (x.size : Int) := by omega
        clear h hd hr hp hgl0
        generalize replaceS s (bs name) (bs x) = R at *
        go_enter Tryz.func45, Tryz.ntmps45
        go_wp2_with fail
        refine hf.mono ?_
        rintro e w0 ⟨rfl, rfl⟩
        go_wp2_with fail
        go_quiet ((go_at_call 51; exact Calls.quiet_of (HU.out _)))
        go_wp2
        go_ret
        rw [HS.out]
        exact ⟨rfl, HT.out.below (below_drewN (Below.refl _ _) _), (Kept.refl _ _).drewN _⟩
      · have hri : (usedF s.fs : Int) + (x.size : Int) ≤ (s.room : Int) := by omega
        have HD := Lib.hid hd
        have HR : Hid (usedF s.fs + x.size ≤ s.room + (getF s.fs (bs name)).b.length) := by show _ ≤ _; rw [hgf.out]; simp only [F.zero, List.length_nil]; omega
        have hne : (if usedF s.fs + (bs x).length > s.room + (getF s.fs (bs name)).b.length then (40 : Int) else 0) = 0 := by rw [if_neg (by rw [bs_len]; have := HR.out; omega)]
        cases hbr : brkB s with
        | true =>
          have HS : Hid (replaceS s (bs name) (bs x) = (41, { brkS s with fs := s.fs })) := changeS_torn hd hne hbr _ _
          clear h hd hr hp hgl0
          generalize replaceS s (bs name) (bs x) = R at *
          go_enter Tryz.func45, Tryz.ntmps45
          go_wp2_with fail
          refine hf.mono ?_
          rintro e w0 ⟨rfl, rfl⟩
          go_wp2_with fail
          go_quiet ((go_at_call 51; exact Calls.quiet_of (HU.out _)))
          have K1 : Hid (Kept S w (w.drewN nq)) := (Kept.refl _ _).drewN _
          obtain ⟨fv1, wv1, left1, h1⟩ := HT.out.below (below_drewN (Below.refl _ _) nq)
          have hmine := h1.mine
          have hS1 : ∀ k, (w.drewN nq).heap.size ≤ k → S k := fun k hk => hS k hk
          generalize w.drewN nq = w1 at *
          have hb := refBreaks_any h1 HD.out
          rw [hbr] at hb
          go_wp2_with fail
          refine hb.mono ?_
          rintro e w2 ⟨rfl, ⟨wv2, left2, h2⟩, hg2⟩
          have K2 : Hid (Kept S w w2) := K1.out.trans (Kept.of_but hg2 hmine)
          have hS2 : ∀ k, w2.heap.size ≤ k → S k := fun k hk => hS1 k (Nat.le_trans hg2.size hk)
          clear h1 hg2 hb
          have H2 := Lib.hid h2
          clear h2
          go_wp2
          go_ret
          rw [HS.out]
          have h3 : RefAt S w2 rb { brkS s with fs := s.fs } := by
            have e : ({ brkS s with fs := s.fs } : St) = brkS s := by rw [← brkS_fs s]
            rw [e]; exact ⟨_, _, _, H2.out⟩
          exact ⟨rfl, h3, K2.out⟩
        | false =>
          have HS : Hid (replaceS s (bs name) (bs x) = (0, { brkS s with fs := putF s.fs (bs name) ⟨bs x, (bs x).length, true⟩ })) := changeS_whole hd hne hbr _ _
          clear h hd hr hp hgl0
          generalize replaceS s (bs name) (bs x) = R at *
          go_enter Tryz.func45, Tryz.ntmps45
          go_wp2_with fail
          refine hf.mono ?_
          rintro e w0 ⟨rfl, rfl⟩
          go_wp2_with fail
          go_quiet ((go_at_call 51; exact Calls.quiet_of (HU.out _)))
          have K1 : Hid (Kept S w (w.drewN nq)) := (Kept.refl _ _).drewN _
          obtain ⟨fv1, wv1, left1, h1⟩ := HT.out.below (below_drewN (Below.refl _ _) nq)
          have hmine := h1.mine
          have hS1 : ∀ k, (w.drewN nq).heap.size ≤ k → S k := fun k hk => hS k hk
          generalize w.drewN nq = w1 at *
          have hb := refBreaks_any h1 HD.out
          rw [hbr] at hb
          go_wp2_with fail
          refine hb.mono ?_
          rintro e w2 ⟨rfl, ⟨wv2, left2, h2⟩, hg2⟩
          have K2 : Hid (Kept S w w2) := K1.out.trans (Kept.of_but hg2 hmine)
          have hS2 : ∀ k, w2.heap.size ≤ k → S k := fun k hk => hS1 k (Nat.le_trans hg2.size hk)
          clear h1 hg2 hb
          go_wp2_with fail
          refine (refPlace_any h2 hS2 (by rw [brkS_fs]; exact hc) name hn).mono ?_
          rintro e w3 ⟨j, rfl, hj, ⟨fv3, h3⟩, k3⟩
          simp only [brkS_fs] at hj h3
          have K3 : Hid (Kept S w w3) := K2.out.trans k3
          obtain ⟨a3, c3, rfl⟩ := h3.row.slice
          have hrow := h3.row
          have c1 := h3.c1
          obtain ⟨g, rfl, _, hcap, hSg, hgl, x0, x1, x2, x3, hfz⟩ := ref_row hrow hj
          have hap : g ≠ rb := h3.apart2 hrow
          have fz0 := hfz (j * 4)
          have fz1 := hfz (j * 4 + 1)
          have fz2 := hfz (j * 4 + 2)
          have fz3 := hfz (j * 4 + 3)
          have hlt := (List.getElem?_eq_some_iff.1 hj).1
          have hlti : (j : Int) < ((placeS s.fs (bs name)).length : Int) := by omega
          have hple := place_len s.fs (bs name)
          have H3 := Lib.hid h3
          have HROW := Lib.hid hrow
          have HJ := Lib.hid hj
          have HH2 := Lib.hid h2.fit
          have HSRT := Lib.hid (sorted_place (by have := h2.fit.sorted; rw [brkS_fs] at this; exact this : Sorted s.fs) (bs name))
          clear h3 hrow hj hfz k3 h2 w1a w2a hri
          go_wp2
          go_ret
          rw [HS.out]
          exact ⟨rfl, replace_end H3.out HROW.out HJ.out HSRT.out hSg K3.out HH2.out hn HR.out⟩
    · obtain ⟨jj, f, e1, e2, e3⟩ := place_get hp
      rw [Nat.zero_add] at e1
      have hgl0 := get_le s.fs (bs name)
      have hgf : Hid (getF s.fs (bs name) = f) := getF_look e3
      have hfl : f.b.length ≤ usedF s.fs := by have := hgf.out; rw [this] at hgl0; exact hgl0
      have hnb : (mk f.b).size = f.b.length := mk_size _
      obtain ⟨g0, rfl, _, hcap0, _, _, _, y1, _, _, _⟩ := ref_row h.row e2
      have hlt0 := (List.getElem?_eq_some_iff.1 e2).1
      have hlti0 : (jj : Int) < (s.fs.length : Int) := by omega
      have hge : (0 : Int) ≤ (jj : Int) := by omega
      have w1a : IntKind.i64.wrap ((usedF s.fs : Int) - (f.b.length : Int)) = (usedF s.fs : Int) - (f.b.length : Int) := IntWalk.i64_in _ (by omega)
      have w2a : IntKind.i64.wrap ((usedF s.fs : Int) - (f.b.length : Int) + (x.size : Int)) = (usedF s.fs : Int) - (f.b.length : Int) + (x.size : Int) := IntWalk.i64_in _ (by omega)
      rw [e1] at hf
      by_cases hr : s.room + f.b.length < usedF s.fs + x.size
      · have HS : Hid (replaceS s (bs name) (bs x) = (40, s)) := by
          show _ = _
          unfold replaceS
          rw [if_pos (by rw [bs_len, hgf.out]; omega)]
          exact changeS_err hd (by decide) _ _
        have hri : (s.room : Int) < (usedF s.fs : Int) - (f.b.length : Int) + (x.size : Int) := by omega
        clear h hd hr hp e1 e2 e3 hgl0
        generalize replaceS s (bs name) (bs x) = R at *
        go_enter Tryz.func45, Tryz.ntmps45
        go_wp2_with fail
        refine hf.mono ?_
        rintro e w0 ⟨rfl, rfl⟩
        go_wp2_with fail
        go_quiet ((go_at_call 51; exact Calls.quiet_of (HU.out _)))
        go_wp2
        go_ret
        rw [HS.out]
        exact ⟨rfl, HT.out.below (below_drewN (Below.refl _ _) _), (Kept.refl _ _).drewN _⟩
      · have hri : (usedF s.fs : Int) - (f.b.length : Int) + (x.size : Int) ≤ (s.room : Int) := by omega
        have HD := Lib.hid hd
        have HR : Hid (usedF s.fs + x.size ≤ s.room + (getF s.fs (bs name)).b.length) := by show _ ≤ _; rw [hgf.out]; omega
        have hne : (if usedF s.fs + (bs x).length > s.room + (getF s.fs (bs name)).b.length then (40 : Int) else 0) = 0 := by rw [if_neg (by rw [bs_len]; have := HR.out; omega)]
        cases hbr : brkB s with
        | true =>
          have HS : Hid (replaceS s (bs name) (bs x) = (41, { brkS s with fs := s.fs })) := changeS_torn hd hne hbr _ _
          clear h hd hr hp e1 e2 e3 hgl0
          generalize replaceS s (bs name) (bs x) = R at *
          go_enter Tryz.func45, Tryz.ntmps45
          go_wp2_with fail
          refine hf.mono ?_
          rintro e w0 ⟨rfl, rfl⟩
          go_wp2_with fail
          go_quiet ((go_at_call 51; exact Calls.quiet_of (HU.out _)))
          have K1 : Hid (Kept S w (w.drewN nq)) := (Kept.refl _ _).drewN _
          obtain ⟨fv1, wv1, left1, h1⟩ := HT.out.below (below_drewN (Below.refl _ _) nq)
          have hmine := h1.mine
          have hS1 : ∀ k, (w.drewN nq).heap.size ≤ k → S k := fun k hk => hS k hk
          generalize w.drewN nq = w1 at *
          have hb := refBreaks_any h1 HD.out
          rw [hbr] at hb
          go_wp2_with fail
          refine hb.mono ?_
          rintro e w2 ⟨rfl, ⟨wv2, left2, h2⟩, hg2⟩
          have K2 : Hid (Kept S w w2) := K1.out.trans (Kept.of_but hg2 hmine)
          have hS2 : ∀ k, w2.heap.size ≤ k → S k := fun k hk => hS1 k (Nat.le_trans hg2.size hk)
          clear h1 hg2 hb
          have H2 := Lib.hid h2
          clear h2
          go_wp2
          go_ret
          rw [HS.out]
          have h3 : RefAt S w2 rb { brkS s with fs := s.fs } := by
            have e : ({ brkS s with fs := s.fs } : St) = brkS s := by rw [← brkS_fs s]
            rw [e]; exact ⟨_, _, _, H2.out⟩
          exact ⟨rfl, h3, K2.out⟩
        | false =>
          have HS : Hid (replaceS s (bs name) (bs x) = (0, { brkS s with fs := putF s.fs (bs name) ⟨bs x, (bs x).length, true⟩ })) := changeS_whole hd hne hbr _ _
          clear h hd hr hp e1 e2 e3 hgl0
          generalize replaceS s (bs name) (bs x) = R at *
          go_enter Tryz.func45, Tryz.ntmps45
          go_wp2_with fail
          refine hf.mono ?_
          rintro e w0 ⟨rfl, rfl⟩
          go_wp2_with fail
          go_quiet ((go_at_call 51; exact Calls.quiet_of (HU.out _)))
          have K1 : Hid (Kept S w (w.drewN nq)) := (Kept.refl _ _).drewN _
          obtain ⟨fv1, wv1, left1, h1⟩ := HT.out.below (below_drewN (Below.refl _ _) nq)
          have hmine := h1.mine
          have hS1 : ∀ k, (w.drewN nq).heap.size ≤ k → S k := fun k hk => hS k hk
          generalize w.drewN nq = w1 at *
          have hb := refBreaks_any h1 HD.out
          rw [hbr] at hb
          go_wp2_with fail
          refine hb.mono ?_
          rintro e w2 ⟨rfl, ⟨wv2, left2, h2⟩, hg2⟩
          have K2 : Hid (Kept S w w2) := K1.out.trans (Kept.of_but hg2 hmine)
          have hS2 : ∀ k, w2.heap.size ≤ k → S k := fun k hk => hS1 k (Nat.le_trans hg2.size hk)
          clear h1 hg2 hb
          go_wp2_with fail
          refine (refPlace_any h2 hS2 (by rw [brkS_fs]; exact hc) name hn).mono ?_
          rintro e w3 ⟨j, rfl, hj, ⟨fv3, h3⟩, k3⟩
          simp only [brkS_fs] at hj h3
          have K3 : Hid (Kept S w w3) := K2.out.trans k3
          obtain ⟨a3, c3, rfl⟩ := h3.row.slice
          have hrow := h3.row
          have c1 := h3.c1
          obtain ⟨g, rfl, _, hcap, hSg, hgl, x0, x1, x2, x3, hfz⟩ := ref_row hrow hj
          have hap : g ≠ rb := h3.apart2 hrow
          have fz0 := hfz (j * 4)
          have fz1 := hfz (j * 4 + 1)
          have fz2 := hfz (j * 4 + 2)
          have fz3 := hfz (j * 4 + 3)
          have hlt := (List.getElem?_eq_some_iff.1 hj).1
          have hlti : (j : Int) < ((placeS s.fs (bs name)).length : Int) := by omega
          have hple := place_len s.fs (bs name)
          have H3 := Lib.hid h3
          have HROW := Lib.hid hrow
          have HJ := Lib.hid hj
          have HH2 := Lib.hid h2.fit
          have HSRT := Lib.hid (sorted_place (by have := h2.fit.sorted; rw [brkS_fs] at this; exact this : Sorted s.fs) (bs name))
          clear h3 hrow hj hfz k3 h2 w1a w2a hri
          go_wp2
          go_ret
          rw [HS.out]
          exact ⟨rfl, replace_end H3.out HROW.out HJ.out HSRT.out hSg K3.out HH2.out hn HR.out⟩
end Go.Proofs.YtnffjoflkeagfaaGreat
namespace Go.Proofs.YtnffjoflkeagfaaGreat
open Go.RowKit Go.Maps

theorem del_split {fs : Fs} (hs : Sorted fs) {j : Nat} {k : List UInt8} {f : F} (h : fs[j]? = some (k, f)) : delF fs k = fs.take j ++ fs.drop (j + 1) := by
  obtain ⟨hj, e⟩ := List.getElem?_eq_some_iff.1 h
  have e1 : fs = fs.take j ++ (k, f) :: fs.drop (j + 1) := by
    rw [← e, List.getElem_cons_drop, List.take_append_drop]
  rw [e1] at hs
  have := del_mid hs
  rw [← e1] at this
  exact this
theorem remove_end {S : Nat → Prop} {w w2 w3 : World} {rb : Nat} {s : St} {fv v3 : Value} {wv : Bool} {left : Int} {j : Nat} {k : List UInt8} {f : F} (h : RefO S w2 rb (brkS s) fv wv left) (hS : ∀ k, w2.heap.size ≤ k → S k) (hso : Sorted s.fs)
    (hj : s.fs[j]? = some (k, f)) (k2 : Kept S w w2) (hb : Below w2.heap.size w2 w3)
    (ho : w3.ownsRow w2.heap.size 70 4 v3 (j + (s.fs.length - (j + 1))) (refL (s.fs.take j) ++ refL (s.fs.drop (j + 1)))) :
    RefAt S (w3.setCell ⟨rb, 1, none⟩ v3) rb { brkS s with fs := delF s.fs k } ∧ Kept S w (w3.setCell ⟨rb, 1, none⟩ v3) := by
  have hlj := (List.getElem?_eq_some_iff.1 hj).1
  have hpl := del_split hso hj
  have e : refL (s.fs.take j) ++ refL (s.fs.drop (j + 1)) = refL (delF s.fs k) := by rw [hpl]; simp [refL]
  rw [e] at ho
  have hr := row_ref (S := fun j => w2.heap.size ≤ j) ho (by rw [hpl]; simp; omega) (fun _ h => h)
  have hlt := h.lt
  have hfit : Fit { brkS s with fs := delF s.fs k } := fit_del h.fit (by rw [brkS_fs]) _ _ _ h.fit.moreI
  have hr2 := RowIn.keep (s := { s with fs := delF s.fs k }) (w' := w3.setCell ⟨rb, 1, none⟩ v3) (S' := S) hr (by simp [World.setCell]) (fun g hg _ => heap_setCell_other _ _ _ _ (by show g ≠ rb; omega)) (fun g _ hg => hS g hg)
  refine ⟨⟨v3, wv, left, h.mine, ?_, h.brk, hr2, hfit⟩, k2.trans ((Kept.of_below hb).set (.inl h.mine) _)⟩
  have hblk := (hb.block rb hlt).trans h.block
  simp [World.setCell, Array.getElem?_modify, hblk, refO]
end Go.Proofs.YtnffjoflkeagfaaGreat
