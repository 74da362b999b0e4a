/- matches. -/
import Derived.Test.YthkkphfnfggpaaaDoorGreedy
import Derived.StillTailTactics
namespace Go.Proofs.YthkkphfnfggpaaaDoor
open Go.RowKit

theorem partCells_get : ∀ (ps : List Prt) (svs : List Value) (j : Nat) (_ : ps.length = svs.length) (_ : j < ps.length),
    (partCells ps svs)[j * 3]? = some (.bool (ps.getD j default).star) ∧ (partCells ps svs)[j * 3 + 1]? = some (.bool (ps.getD j default).neg) ∧ (partCells ps svs)[j * 3 + 2]? = some (svs.getD j .nilIface)
  | p :: ps, sv :: svs, 0, _, _ => ⟨rfl, rfl, rfl⟩
  | p :: ps, sv :: svs, j + 1, h, hj => by
    have := partCells_get ps svs j (by simpa using h) (by simpa using hj)
    rw [show (j + 1) * 3 = j * 3 + 1 + 1 + 1 from by omega]
    exact this
  | [], _, j, _, hj => by simp at hj
  | _ :: _, [], _, h, _ => by simp at h
/-- what the walk reads of parts -/
theorem PartsAt.reads {w : World} {B : Nat} {v : Value} {ps : List Prt} {svs : List Value} (h : PartsAt w B v ps svs) :
    ∃ a c, v = .slice a ps.length c ∧ ∀ i, i < ps.length → ∃ g, a = some ⟨g, 0, none⟩ ∧ g < w.heap.size ∧ ∀ j, j < ps.length → w.cell? ⟨g, j * 3, none⟩ = some (.bool (ps.getD j default).star) ∧ w.cell? ⟨g, j * 3 + 1, none⟩ = some (.bool (ps.getD j default).neg) ∧ w.cell? ⟨g, j * 3 + 2, none⟩ = some (svs.getD j .nilIface) ∧ SpansAt w B (svs.getD j .nilIface) (ps.getD j default).spans := by
  obtain ⟨h1, h2, h3⟩ := h
  have hcl := fun g hg => h2.cells (g := g) hg
  have hlt := h2.lt
  rcases h2.2 with ⟨rfl, h0⟩ | ⟨g, cap, cur, rfl, _⟩
  · exact ⟨none, 0, by rw [h0], fun i hi => by omega⟩
  · refine ⟨_, _, rfl, fun i hi => ⟨g, rfl, (hlt g rfl).2, fun j hj => ?_⟩⟩
    have ad : ∀ (j : Nat), (⟨g, 0, none⟩ : Addr).add j = ⟨g, j, none⟩ := fun j => by unfold Addr.add; split <;> simp_all
    obtain ⟨c1, c2, c3⟩ := partCells_get ps svs j h1 hj
    have a1 := hcl g rfl _ _ c1
    have a2 := hcl g rfl _ _ c2
    have a3 := hcl g rfl _ _ c3
    rw [ad] at a1 a2 a3
    refine ⟨a1, a2, a3, ?_⟩
    have e1 : ps[j]? = some (ps.getD j default) := by simp [List.getD, hj]
    have e2 : svs[j]? = some (svs.getD j .nilIface) := by simp [List.getD, show j < svs.length by omega]
    exact h3 j _ _ e1 e2

set_option maxRecDepth 100000 in
set_option maxHeartbeats 8000000 in
theorem matches_any (B : Nat) (v u : Value) (l : List Prt) (svs : List Value) (s : List Int) (w : World) (hp : PartsAt w B v l svs) (hu : ListAt w u s.length (i32s s)) (hl : l.length ≤ 1099511627776) (hls : s.length ≤ 1099511627776)
    (hsp : ∀ p ∈ l, p.spans.length ≤ 1099511627776) :
    Calls Tryd.prog 40 #[v, u] w fun e w' => e = .returned (.bool (mtB l s)) ∧ Below w.heap.size w w' := by
  obtain ⟨pa, pc, rfl, hR⟩ := hp.reads
  obtain ⟨_, ua, uc, rfl, _, hC⟩ := hu
  have HRD := Lib.hid hR
  have HCC := Lib.hid hC
  have HPP := Lib.hid hp
  have HSP := Lib.hid hsp
  clear hR hC hp hsp
  go_enter Tryd.func40, Tryd.ntmps40
  go_wp2
  go_loopg [5, 6, 7, 8] (meas l.length s.length 0 0 0) (fun g a5 a6 a7 a8 wr => ∃ next at' st fr : Nat, a5 = .int .i64 next ∧ a6 = .int .i64 at' ∧ a7 = .int .i64 ((st : Int) - 1) ∧ a8 = .int .i64 fr ∧ fr ≤ s.length ∧ meas l.length s.length next st fr ≤ g ∧ Inv l s next at' st fr ∧ Below w.heap.size w wr)
  case atStart => exact ⟨0, 0, 0, 0, rfl, rfl, rfl, rfl, by omega, Nat.le_refl _, Inv.start l s, Below.refl _ _⟩
  case round =>
    obtain ⟨next, at', st, fr, rfl, rfl, rfl, rfl, hfr, hg, hI, hb⟩ := hrel
    have h1 := hI.1
    have h2 := hI.2.1
    have h3 := hI.2.2.1
    have HI := Lib.hid hI
    have HG := Lib.hid hg
    clear hI hg
    by_cases ha : at' < s.length
    · by_cases hn : next < l.length
      · obtain ⟨gp, rfl, hgp, hcells⟩ := HRD.out next hn
        obtain ⟨ub, uo, rfl, hub, hus⟩ := HCC.out.resolve_left (by omega)
        obtain ⟨k0, k1, k2, ks⟩ := hcells next hn
        have c0 : wr.cell? ⟨gp, next * 3, none⟩ = some (.bool (l.getD next default).star) := (hb.cell (p := ⟨gp, next * 3, none⟩) hgp).trans k0
        have c1 : wr.cell? ⟨gp, next * 3 + 1, none⟩ = some (.bool (l.getD next default).neg) := (hb.cell (p := ⟨gp, next * 3 + 1, none⟩) hgp).trans k1
        have c2 : wr.cell? ⟨gp, next * 3 + 2, none⟩ = some (svs.getD next .nilIface) := (hb.cell (p := ⟨gp, next * 3 + 2, none⟩) hgp).trans k2
        have d0 : wr.cell? ⟨ub, uo + at', none⟩ = some (.int .i32 (s.getD at' 0)) := (hb.cell (p := ⟨ub, uo + at', none⟩) hub).trans (ListAt.i32 hus at' ha)
        have hks : SpansAt wr B (svs.getD next .nilIface) (l.getD next default).spans := own_below ks hb
        have hmem := HSP.out (l.getD next default) (by rw [List.getD, List.getElem?_eq_getElem hn]; exact List.getElem_mem hn)
        have HKS := Lib.hid hks
        clear k0 k1 k2 ks hcells hus hks
        cases hst : (l.getD next default).star
        · rw [hst] at c0
          have hni : (next : Int) < (l.length : Int) := by omega
          have hai : (at' : Int) < (s.length : Int) := by omega
          cases htk : takesB (l.getD next default) (s.getD at' 0)
          · have HK := Lib.hid (show Stuck l s next at' from .inr ⟨hn, hst, htk⟩)
            have HTK := Lib.hid htk
            have HST := Lib.hid hst
            clear htk hst
            by_cases hs0 : 0 < st
            · obtain ⟨hbk, hfr2⟩ := HI.out.back l s ha HK.out hs0
              have HN := Lib.hid hbk
              have HM := Lib.hid (meas_back (nl := l.length) (ns := s.length) (next := next) (st := st) (fr := fr) (by omega) hfr2 (by omega))
              have hsi2 : (0 : Int) ≤ (st : Int) - 1 := by omega
              clear hbk
              generalize l.getD next default = p at *
              generalize s.getD at' 0 = c at *
              generalize svs.getD next .nilIface = sv at *
              obtain ⟨va, vc, hsv⟩ := slice_of_own HKS.out
              subst hsv
              go_wp2
              go_still_tail 13, (by kernel_rfl)
              change wpList _ _ _ _ _ wr.drew
              have tk := takes_any B p _ c wr.drew HKS.out hmem
              rw [HTK.out, HST.out] at tk
              have TK := Lib.hid tk
              have hb2 : Below w.heap.size w wr.drew := hb.drew
              clear tk HKS c0 c1 c2 d0 hb
              generalize wr.drew = w2 at *
              go_wp2_with fail
              refine TK.out.mono ?_
              rintro e w3 ⟨rfl, hb3⟩
              have hb4 := bt hb2 hb3
              clear hb2 hb3 TK
              go_wp2
              go_roundg (gk - 1)
              case measure => have := HG.out; have := HM.out; omega
              case rel => exact ⟨st, fr + 1, st, fr + 1, by first | rfl | rw [show ((st : Int) - 1 + 1) = (st : Int) from by omega], by go_num, rfl, by go_num, by omega, by have := HG.out; have := HM.out; omega, HN.out, hb4⟩
            · obtain rfl : st = 0 := by omega
              have HE := Lib.hid (HI.out.lost l s ha HK.out)
              have hsi : ((0 : Nat) : Int) - 1 = -1 := by omega
              rw [hsi]
              clear hsi
              generalize l.getD next default = p at *
              generalize s.getD at' 0 = c at *
              generalize svs.getD next .nilIface = sv at *
              obtain ⟨va, vc, hsv⟩ := slice_of_own HKS.out
              subst hsv
              go_wp2
              go_still_tail 13, (by kernel_rfl)
              change wpList _ _ _ _ _ wr.drew
              have tk := takes_any B p _ c wr.drew HKS.out hmem
              rw [HTK.out, HST.out] at tk
              have TK := Lib.hid tk
              have hb2 : Below w.heap.size w wr.drew := hb.drew
              clear tk HKS c0 c1 c2 d0 hb
              generalize wr.drew = w2 at *
              go_wp2_with fail
              refine TK.out.mono ?_
              rintro e w3 ⟨rfl, hb3⟩
              have hb4 := bt hb2 hb3
              clear hb2 hb3 TK
              go_wp2
              go_ret
              exact ⟨ret_bool HE.out.symm, hb4⟩
          · have HN := Lib.hid (HI.out.one l s hn hst ha htk)
            have HM := Lib.hid (meas_one (nl := l.length) (ns := s.length) (next := next) (st := st) (fr := fr) hn)
            have HTK := Lib.hid htk
            have HST := Lib.hid hst
            clear htk hst
            generalize l.getD next default = p at *
            generalize s.getD at' 0 = c at *
            generalize svs.getD next .nilIface = sv at *
            obtain ⟨va, vc, hsv⟩ := slice_of_own HKS.out
            subst hsv
            go_wp2
            go_still_tail 13, (by kernel_rfl)
            change wpList _ _ _ _ _ wr.drew
            have tk := takes_any B p _ c wr.drew HKS.out hmem
            rw [HTK.out, HST.out] at tk
            have TK := Lib.hid tk
            have hb2 : Below w.heap.size w wr.drew := hb.drew
            clear tk HKS c0 c1 c2 d0 hb
            generalize wr.drew = w2 at *
            go_wp2_with fail
            refine TK.out.mono ?_
            rintro e w3 ⟨rfl, hb3⟩
            have hb4 := bt hb2 hb3
            clear hb2 hb3 TK
            go_wp2
            go_roundg (gk - 1)
            case measure => have := HG.out; have := HM.out; omega
            case rel => exact ⟨next + 1, at' + 1, st, fr, by go_num, by go_num, rfl, rfl, hfr, by have := HG.out; have := HM.out; omega, HN.out, hb4⟩
        · rw [hst] at c0
          have HN := Lib.hid (HI.out.star l s hn hst)
          have HM := Lib.hid (meas_star (nl := l.length) (ns := s.length) (at' := at') (fr := fr) h3 hn)
          have HST := Lib.hid hst
          clear hst d0 c1 c2 hmem
          go_wp2
          go_roundg (gk - 1)
          case measure => have := HG.out; have := HM.out; omega
          case rel => exact ⟨next + 1, at', next + 1, at', by go_num, rfl, by rw [show (((next + 1 : Nat) : Int) - 1) = (next : Int) from by omega], rfl, by omega, by have := HG.out; have := HM.out; omega, HN.out, hb⟩
      · obtain rfl : next = l.length := by omega
        have HK := Lib.hid (show Stuck l s l.length at' from .inl rfl)
        have hdl : decide ((l.length : Int) < (l.length : Int)) = false := by simp
        by_cases hs0 : 0 < st
        · obtain ⟨hbk, hfr2⟩ := HI.out.back l s ha HK.out hs0
          have HN := Lib.hid hbk
          have HM := Lib.hid (meas_back (nl := l.length) (ns := s.length) (next := l.length) (st := st) (fr := fr) (by omega) hfr2 (by omega))
          have hsi2 : (0 : Int) ≤ (st : Int) - 1 := by omega
          clear hbk hn
          go_wp2
          go_quiet (fail)
          go_wp2
          go_roundg (gk - 1)
          case measure => have := HG.out; have := HM.out; omega
          case rel => exact ⟨st, fr + 1, st, fr + 1, by first | rfl | rw [show ((st : Int) - 1 + 1) = (st : Int) from by omega], by go_num, rfl, by go_num, by omega, by have := HG.out; have := HM.out; omega, HN.out, below_drewN hb _⟩
        · obtain rfl : st = 0 := by omega
          have HE := Lib.hid (HI.out.lost l s ha HK.out)
          have hsi : ((0 : Nat) : Int) - 1 = -1 := by omega
          rw [hsi]
          clear hsi hn
          go_wp2
          go_quiet (fail)
          go_wp2
          go_ret
          exact ⟨ret_bool HE.out.symm, below_drewN hb _⟩
    · have HE := Lib.hid (HI.out.last l s ha)
      clear HI HG hfr h3
      go_wp2
      go_loopw [5] (fun a5 w2 => ∃ q : Nat, q ≤ l.length ∧ a5 = .int .i64 q ∧ (mtB l s = true ↔ T l s q s.length) ∧ wr = w2) (fun a5 _ => l.length - (intOf a5).toNat)
      case atStart => exact ⟨next, h1, rfl, HE.out, rfl⟩
      case round =>
        obtain ⟨q, hq, rfl, hE2, rfl⟩ := hrel
        have HE2 := Lib.hid hE2
        clear hE2
        by_cases hn : q < l.length
        · obtain ⟨gp, rfl, hgp, hcells⟩ := HRD.out q hn
          obtain ⟨k0, k1, k2, ks⟩ := hcells q hn
          have c0 : wr.cell? ⟨gp, q * 3, none⟩ = some (.bool (l.getD q default).star) := (hb.cell (p := ⟨gp, q * 3, none⟩) hgp).trans k0
          clear k0 k1 k2 ks hcells
          have HT := Lib.hid (T_tail l s hn)
          cases hst : (l.getD q default).star
          · rw [hst] at c0
            have HV : Hid (mtB l s = false) := by
              show _ = _
              rw [Bool.eq_false_iff]; intro e
              have := HT.out.1 (HE2.out.1 e)
              rw [hst] at this; exact absurd this.1 (by decide)
            have hqe : ((q : Int) == (l.length : Int)) = false := by rw [beq_eq_false_iff_ne]; omega
            clear hst
            go_wp2
            go_ret
            exact ⟨ret_bool HV.out.symm, hb⟩
          · rw [hst] at c0
            have HV : Hid (mtB l s = true ↔ T l s (q + 1) s.length) := by
              show _ ↔ _
              rw [HE2.out, HT.out, hst]; simp
            clear hst
            go_wp2
            go_roundw
            case rel => exact ⟨q + 1, by omega, by go_num, HV.out, trivial⟩
            case measure => simp [intOf]; omega
        · obtain rfl : q = l.length := by omega
          have HV : Hid (mtB l s = true) := by
            show _ = _
            exact HE2.out.2 ((T_end l s (Nat.le_refl _)).2 rfl)
          have hqe : ((l.length : Int) == (l.length : Int)) = true := by simp
          clear hn
          go_wp2
          go_ret
          exact ⟨ret_bool HV.out.symm, hb⟩
end Go.Proofs.YthkkphfnfggpaaaDoor
