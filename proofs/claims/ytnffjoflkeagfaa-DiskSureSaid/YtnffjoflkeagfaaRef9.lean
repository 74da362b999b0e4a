/- The document's disk: Append. -/
import Derived.Test.YtnffjoflkeagfaaRef8
namespace Go.Proofs.Ytnffjoflkeagfaa
open Go.RowKit Go.Maps

theorem mk_cat (l : List UInt8) (x : ByteArray) : mk l ++ x = mk (l ++ bs x) := by
  apply ByteArray.ext
  apply Array.ext'
  simp [mk]
theorem put_put (k : List UInt8) (f f' : F) : ∀ fs : Fs, putF (putF fs k f) k f' = putF fs k f'
  | [] => by simp [putF]
  | p :: r => by
    by_cases h1 : p.1 < k
    · rw [putF, if_pos h1, putF, if_pos h1, put_put k f f' r, putF, if_pos h1]
    · by_cases h2 : p.1 = k
      · rw [putF, if_neg h1, if_pos h2, putF, if_neg (ltI k), if_pos rfl, putF, if_neg h1, if_pos h2]
      · rw [putF, if_neg h1, if_neg h2, putF, if_neg (ltI k), if_pos rfl, putF, if_neg h1, if_neg h2]
theorem put_place (fs : Fs) (k : List UInt8) (f : F) : putF (placeS fs k) k f = putF fs k f := by
  unfold placeS
  split
  · rfl
  · exact put_put k _ f fs
theorem sorted_place {fs : Fs} (h : Sorted fs) (k : List UInt8) : Sorted (placeS fs k) := by
  unfold placeS
  split
  · exact h
  · exact sorted_put h _ _
theorem place_len (fs : Fs) (k : List UInt8) : (placeS fs k).length ≤ fs.length + 1 := by
  unfold placeS
  split
  · omega
  · exact length_put _ _ _
set_option maxRecDepth 100000 in
set_option maxHeartbeats 4000000 in
theorem refAppend_any {S : Nat → Prop} {w : World} {rb : Nat} {s : St} (h : RefAt S w rb s) (hS : ∀ k, w.heap.size ≤ k → S k) (hc : s.fs.length ≤ 1099511627776) (name x : ByteArray) (hn : name.size ≤ 9223372036854775807) (hx : usedF s.fs + x.size ≤ 9223372036854775807) :
    Calls Try.prog 34 #[ptrV rb, .string name, .string x] w fun e w' => e = .returned (.int .i64 (appendS s (bs name) (bs x)).1) ∧ RefAt S w' rb (appendS s (bs name) (bs x)).2 ∧ Kept S w w' := by
  have HT := Lib.hid h
  have HU : Hid (∀ q, Calls Try.prog 17 #[ptrV rb] (w.drewN q) fun e w' => e = .returned (.int .i64 (usedF s.fs : Int)) ∧ ∃ r, w' = (w.drewN q).drewN r) := fun q =>
    (refUsed_any (h.below (below_drewN (Below.refl _ _) q)) hc).mono (fun e w' hh => ⟨hh.1, 0, hh.2.symm⟩)
  obtain ⟨fv, wv, left, h⟩ := h
  have c0 := h.c0
  have c2 := h.c2
  cases hd : s.down with
  | true =>
    have HS : Hid (appendS s (bs name) (bs x) = (41, s)) := changeS_down hd _ _ _
    rw [hd] at c2
    clear h hd
    generalize appendS s (bs name) (bs x) = R at *
    go_enter Try.func34, Try.ntmps34
    go_wp2
    go_ret
    rw [HS.out]
    exact ⟨rfl, HT.out, Kept.refl _ _⟩
  | false =>
    rw [hd] at c2
    by_cases hr : s.room < usedF s.fs + x.size
    · have HS : Hid (appendS s (bs name) (bs x) = (40, s)) := by
        show _ = _
        unfold appendS
        rw [if_pos (by rw [bs_len]; omega)]
        exact changeS_err hd (by decide) _ _
      have hri : (s.room : Int) < (usedF s.fs : Int) + (x.size : Int) := by omega
      have hw : IntKind.i64.wrap ((usedF s.fs : Int) + (x.size : Int)) = (usedF s.fs : Int) + (x.size : Int) := IntWalk.i64_in _ (by omega)
      clear h hd
      generalize appendS s (bs name) (bs x) = R at *
      go_enter Try.func34, Try.ntmps34
      go_wp2_with fail
      go_quiet ((go_at_call 17; exact Calls.quiet_of (HU.out _)))
      go_wp2
      go_ret
      rw [HS.out]
      exact ⟨rfl, HT.out.below (below_drewN (Below.refl _ _) _), (Kept.refl _ _).drewN _⟩
    · have HS : Hid (appendS s (bs name) (bs x) = (if brkB s = true then 41 else 0, { brkS s with fs := putF s.fs (bs name) (grown (getF s.fs (bs name)) (bs x)) })) := by
        show _ = _
        unfold appendS
        rw [if_neg (by rw [bs_len]; omega)]
        cases hb : brkB s with
        | true => rw [changeS_torn hd rfl hb]; rfl
        | false => rw [changeS_whole hd rfl hb]; rfl
      have hri : (usedF s.fs : Int) + (x.size : Int) ≤ (s.room : Int) := by omega
      have hw : IntKind.i64.wrap ((usedF s.fs : Int) + (x.size : Int)) = (usedF s.fs : Int) + (x.size : Int) := IntWalk.i64_in _ (by omega)
      have HD := Lib.hid hd
      have HR := Lib.hid hr
      clear h hd hr
      generalize appendS s (bs name) (bs x) = R at *
      go_enter Try.func34, Try.ntmps34
      go_wp2_with fail
      go_quiet ((go_at_call 17; exact Calls.quiet_of (HU.out _)))
      have K1 : Hid (Kept S w (w.drewN nq)) := (Kept.refl _ _).drewN _
      obtain ⟨fv1, wv1, left1, h1⟩ := HT.out.below (below_drewN (Below.refl _ _) nq)
      have hmine := h1.mine
      have hS1 : ∀ k, (w.drewN nq).heap.size ≤ k → S k := fun k hk => hS k hk
      generalize w.drewN nq = w1 at *
      go_wp2_with fail
      refine (refBreaks_any h1 HD.out).mono ?_
      rintro e w2 ⟨rfl, ⟨wv2, left2, h2⟩, hg2⟩
      have K2 : Hid (Kept S w w2) := K1.out.trans (Kept.of_but hg2 hmine)
      have hS2 : ∀ k, w2.heap.size ≤ k → S k := fun k hk => hS1 k (Nat.le_trans hg2.size hk)
      clear h1 hg2
      generalize brkB s = B at *
      go_wp2_with fail
      refine (refPlace_any h2 hS2 (by rw [brkS_fs]; exact hc) name hn).mono ?_
      rintro e w3 ⟨j, rfl, hj, ⟨fv3, h3⟩, k3⟩
      simp only [brkS_fs] at hj h3
      have K3 : Hid (Kept S w w3) := K2.out.trans k3
      obtain ⟨a, c, rfl⟩ := h3.row.slice
      have hrow := h3.row
      have c1 := h3.c1
      obtain ⟨g, rfl, _, hcap, hSg, hgl, x0, x1, x2, x3, hfz⟩ := ref_row hrow hj
      have hap : g ≠ rb := h3.apart2 hrow
      have fz1 := hfz (j * 4 + 1)
      have hlt := (List.getElem?_eq_some_iff.1 hj).1
      have hlti : (j : Int) < ((placeS s.fs (bs name)).length : Int) := by omega
      have hple := place_len s.fs (bs name)
      have H3 := Lib.hid h3
      have HROW := Lib.hid hrow
      have HJ := Lib.hid hj
      have HH2 := Lib.hid h2.fit
      have HSRT := Lib.hid (sorted_place (by have := h2.fit.sorted; rw [brkS_fs] at this; exact this : Sorted s.fs) (bs name))
      clear h3 hrow hj hfz k3 h2 hw hri
      have hcs : (getF s.fs (bs name)).b.length + x.size ≤ 9223372036854775807 := by have := get_le s.fs (bs name); omega
      have hcs' : ¬ 9223372036854775807 < (getF s.fs (bs name)).b.length + x.size := by omega
      go_wp2_with fail
      go_region
      have hfin : ∀ v, RefAt S ((w3.setCell ⟨g, j * 4 + 1, none⟩ (.string (mk (getF s.fs (bs name)).b ++ x))).drewN v) rb { brkS s with fs := putF s.fs (bs name) (grown (getF s.fs (bs name)) (bs x)) } ∧ Kept S w ((w3.setCell ⟨g, j * 4 + 1, none⟩ (.string (mk (getF s.fs (bs name)).b ++ x))).drewN v) := by
        intro v
        have r1 := HROW.out.set HJ.out (i := 1) (u := .string (mk (getF s.fs (bs name)).b ++ x)) (p' := (bs name, grown (getF s.fs (bs name)) (bs x))) (by decide) (by simp only [refC, grown]; rw [mk_cat]; rfl)
        rw [set_put HSRT.out HJ.out, put_place] at r1
        have hfit := fit_append HH2.out (bs name) (bs x) (by rw [bs_len]; omega) (by rw [brkS_fs, brkS_room, bs_len]; have := HR.out; omega)
        rw [brkS_fs] at hfit
        refine ⟨RefAt.below ⟨_, wv2, left2, H3.out.alter ?_ r1 hfit⟩ (below_drewN (Below.refl _ _) v), (K3.out.set (.inl hSg) _).drewN v⟩
        rw [heap_setCell_other _ _ _ _ (Ne.symm hap)]
      have HFIN := Lib.hid hfin
      clear hfin
      cases B with
      | true =>
        go_wp2
        go_ret
        rw [HS.out]
        exact ⟨rfl, HFIN.out 1⟩
      | false =>
        go_wp2
        go_ret
        rw [HS.out]
        exact ⟨rfl, HFIN.out 1⟩
end Go.Proofs.Ytnffjoflkeagfaa
