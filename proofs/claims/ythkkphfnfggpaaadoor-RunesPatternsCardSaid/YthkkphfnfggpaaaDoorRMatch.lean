/- The reference's Pattern and Match. -/
import Derived.Test.YthkkphfnfggpaaaDoorRItems
import Derived.Test.YthkkphfnfggpaaaDoorMatch
import Derived.Test.YthkkphfnfggpaaaDoorTable
import Derived.Test.YthkkphfnfggpaaaDoorIn
import Derived.Test.YthkkphfnfggpaaaDoorPoints
import Derived.Deep.RegionHeld3
import Derived.IntWalk
namespace Go.Proofs.YthkkphfnfggpaaaDoor
open Go.RowKit

set_option maxHeartbeats 2000000 in
theorem refPattern (s : ByteArray) (w : World) (hs : s.size ≤ 1099511627000) :
    Calls Tryd.prog 27 #[.string s] w fun e w' => e = .returned (.tuple #[.int .i64 (patE s), .int .i64 (patK s)]) ∧ Below w.heap.size w w' := by
  cases hp : parseF s with
  | inl ps =>
    have HE : Hid (patE s = 0) := by show _ = _; unfold patE; rw [hp]
    have HK : Hid (patK s = 0) := by show _ = _; unfold patK; rw [hp]
    have HP := Lib.hid hp
    clear hp
    go_enter Tryd.func27, Tryd.ntmps27
    go_wp2_with fail
    refine (ritems_any s _ (by omega)).mono ?_
    rw [HP.out]
    rintro e w1 ⟨v, svs, rfl, _, _, hb⟩
    go_wp2
    go_ret2
    exact ⟨by rw [HE.out, HK.out]; rfl, hb⟩
  | inr k =>
    have HE : Hid (patE s = 12) := by show _ = _; unfold patE; rw [hp]
    have HK : Hid (patK s = (((plc s).getD k 0 : Nat) : Int)) := by show _ = _; unfold patK; rw [hp]
    have HP := Lib.hid hp
    clear hp
    go_enter Tryd.func27, Tryd.ntmps27
    go_wp2_with fail
    refine (ritems_any s _ (by omega)).mono ?_
    rw [HP.out]
    rintro e w1 ⟨rfl, hb⟩
    generalize (((plc s).getD k 0 : Nat) : Int) = pk at *
    go_wp2
    go_ret2
    exact ⟨by rw [HE.out, HK.out]; rfl, hb⟩

theorem itemCells_get : ∀ (ps : List Prt) (vs : List (Value × Value)) (j : Nat) (_ : ps.length = vs.length) (_ : j < ps.length),
    (itemCells ps vs)[j * 4]? = some (.bool (ps.getD j default).star) ∧ (itemCells ps vs)[j * 4 + 1]? = some (.bool (ps.getD j default).neg) ∧ (itemCells ps vs)[j * 4 + 2]? = some (vs.getD j (.nilIface, .nilIface)).1 ∧ (itemCells ps vs)[j * 4 + 3]? = some (vs.getD j (.nilIface, .nilIface)).2
  | p :: ps, sv :: vs, 0, _, _ => ⟨rfl, rfl, rfl, rfl⟩
  | p :: ps, sv :: vs, j + 1, h, hj => by
    have := itemCells_get ps vs j (by simpa using h) (by simpa using hj)
    rw [show (j + 1) * 4 = j * 4 + 1 + 1 + 1 + 1 from by omega]
    exact this
  | [], _, j, _, hj => by simp at hj
  | _ :: _, [], _, h, _ => by simp at h
/-- what the walk reads of items -/
theorem ItemsAt.reads {w : World} {B : Nat} {v : Value} {ps : List Prt} {vs : List (Value × Value)} (h : ItemsAt w B v ps vs) :
    ∃ a c, v = .slice a ps.length c ∧ ∀ i, i < ps.length → ∃ g, a = some ⟨g, 0, none⟩ ∧ g < w.heap.size ∧ w.cell? ⟨g, i * 4, none⟩ = some (.bool (ps.getD i default).star) ∧ w.cell? ⟨g, i * 4 + 1, none⟩ = some (.bool (ps.getD i default).neg) ∧
      w.cell? ⟨g, i * 4 + 2, none⟩ = some (vs.getD i (.nilIface, .nilIface)).1 ∧ w.cell? ⟨g, i * 4 + 3, none⟩ = some (vs.getD i (.nilIface, .nilIface)).2 ∧ RowsAt w B (ps.getD i default) (vs.getD i (.nilIface, .nilIface)) := by
  obtain ⟨h1, h2, h3⟩ := h
  have hcl := fun g hg => h2.cells (g := g) hg
  have hlt := h2.lt
  rcases h2.2 with ⟨rfl, h0⟩ | ⟨g, cap, cur, rfl, _⟩
  · exact ⟨none, 0, by rw [h0], fun i hi => by omega⟩
  · refine ⟨_, _, rfl, fun j hj => ⟨g, rfl, (hlt g rfl).2, ?_⟩⟩
    have ad : ∀ (j : Nat), (⟨g, 0, none⟩ : Addr).add j = ⟨g, j, none⟩ := fun j => by unfold Addr.add; split <;> simp_all
    obtain ⟨c1, c2, c3, c4⟩ := itemCells_get ps vs j h1 hj
    have a1 := hcl g rfl _ _ c1
    have a2 := hcl g rfl _ _ c2
    have a3 := hcl g rfl _ _ c3
    have a4 := hcl g rfl _ _ c4
    rw [ad] at a1 a2 a3 a4
    refine ⟨a1, a2, a3, a4, ?_⟩
    have e1 : ps[j]? = some (ps.getD j default) := by simp [List.getD, hj]
    have e2 : vs[j]? = some (vs.getD j (.nilIface, .nilIface)) := by simp [List.getD, show j < vs.length by omega]
    exact h3 j _ _ e1 e2

/-- a row of truths -/
def RowB (w : World) (b n : Nat) (f : Nat → Bool) : Prop := ∃ cs : Array Value, w.heap[b]? = some (.cells cs 4 (0, 0)) ∧ cs.size = n ∧ ∀ j, j < n → cs[j]? = some (.bool (f j))
section
variable {w w' : World} {b n : Nat} {f : Nat → Bool}
theorem RowB.cell (h : RowB w b n f) {j : Nat} (hj : j < n) : w.cell? ⟨b, j, none⟩ = some (.bool (f j)) := by
  obtain ⟨cs, h1, _, h3⟩ := h
  rw [Lib.cell_of_heap h1]; exact h3 j hj
theorem RowB.fz (h : RowB w b n f) (j : Nat) : w.frozen? ⟨b, j, none⟩ = false := by
  obtain ⟨cs, h1, _, _⟩ := h
  exact Lib.frozen_of_heap h1 j
theorem RowB.lt (h : RowB w b n f) : b < w.heap.size := by
  obtain ⟨cs, h1, _, _⟩ := h
  exact (Array.getElem?_eq_some_iff.1 h1).1
theorem RowB.below (h : RowB w b n f) {B : Nat} (hB : b < B) (hb : Below B w w') : RowB w' b n f := by
  obtain ⟨cs, h1, h2, h3⟩ := h
  exact ⟨cs, (hb.block b hB).trans h1, h2, h3⟩
theorem RowB.congr (h : RowB w b n f) {g : Nat → Bool} (hg : ∀ j, j < n → f j = g j) : RowB w b n g := by
  obtain ⟨cs, h1, h2, h3⟩ := h
  exact ⟨cs, h1, h2, fun j hj => by rw [← hg j hj]; exact h3 j hj⟩
theorem RowB.set (h : RowB w b n f) (j : Nat) (v : Bool) : RowB (w.setCell ⟨b, j, none⟩ (.bool v)) b n (fun t => if t = j then v else f t) := by
  obtain ⟨cs, h1, h2, h3⟩ := h
  refine ⟨_, cells_set h1 (.bool v), by simpa using h2, fun t ht => ?_⟩
  rw [Array.getElem?_setIfInBounds]
  by_cases e : t = j
  · subst e; simp [h2, ht]
  · rw [if_neg (fun e2 => e e2.symm), h3 t ht]; simp [e]
theorem RowB.made {base : Nat} (h : w.ownsRow base 4 1 (.slice (some ⟨b, 0, none⟩) n n) n (madeCells #[Value.bool false] n).toList) : RowB w b n (fun _ => false) := by
  rcases h.2 with ⟨h0, _⟩ | ⟨g, cap, cur, e, _, hg, _, _, hsz, htake⟩
  · cases h0
  · simp only [Value.slice.injEq, Option.some.injEq, Addr.mk.injEq] at e
    obtain ⟨⟨rfl, _⟩, _, rfl⟩ := e
    refine ⟨cur, hg, by omega, fun j hj => ?_⟩
    rw [List.take_of_length_le (by simp; omega)] at htake
    have hcur : cur = madeCells #[Value.bool false] n := Array.toList_inj.1 htake
    rw [hcur]
    simp [madeCells, hj, Nat.mod_one]
end
theorem info_bool : (Tryd.prog.info? 4).map (fun i => (i.zero, i.size, i.bytes)) = some (some (.bool false), 1, 1) := by kernel_rfl

/-- a round of the table's row -/
def nextF (l : List Prt) (S : List Int) (i j : Nat) : Nat → Bool := fun t => decide (t < j) && cellB l S (i + 1) t
theorem next_step {w : World} {b n : Nat} {l : List Prt} {S : List Int} {i j : Nat} (h : RowB w b n (nextF l S i j)) (v : Bool) (hv : v = cellB l S (i + 1) j) : RowB (w.setCell ⟨b, j, none⟩ (.bool v)) b n (nextF l S i (j + 1)) := by
  refine (h.set j v).congr fun t _ => ?_
  unfold nextF
  by_cases e : t = j
  · subst e; rw [if_pos rfl, hv]; simp
  · rw [if_neg e]; congr 1; rw [decide_eq_decide]; omega
theorem next_skip {w : World} {b n : Nat} {l : List Prt} {S : List Int} {i j : Nat} (h : RowB w b n (nextF l S i j)) (hv : cellB l S (i + 1) j = false) : RowB w b n (nextF l S i (j + 1)) := by
  refine h.congr fun t _ => ?_
  unfold nextF
  by_cases e : t = j
  · subst e; rw [hv]; simp
  · congr 1; rw [decide_eq_decide]; omega

set_option maxRecDepth 100000 in
set_option maxHeartbeats 8000000 in
theorem refMatch (p s : ByteArray) (w : World) (hp : p.size ≤ 1099511627000) (hs : s.size ≤ 1099511627000) :
    Calls Tryd.prog 29 #[.string p, .string s] w fun e w' => e = .returned (.bool (matchB p s)) ∧ Below w.heap.size w w' := by
  obtain ⟨i0, hi0, hz0, hz1, hz2⟩ := info_parts info_bool
  have hlp := pts_len p
  have hls := pts_len s
  cases hq : parseF p with
  | inr k =>
    have HE : Hid (matchB p s = false) := by show _ = _; unfold matchB; rw [hq]
    have HP := Lib.hid hq
    clear hq
    go_enter Tryd.func29, Tryd.ntmps29
    go_wp2_with fail
    refine (ritems_any p _ (by omega)).mono ?_
    rw [HP.out]
    rintro e w1 ⟨rfl, hb⟩
    generalize (((plc p).getD k 0 : Nat) : Int) = pk at *
    go_wp2
    go_ret
    exact ⟨ret_bool HE.out.symm, hb⟩
  | inl l =>
    have hbd := parse_bd (acc := []) (Nat.le_refl _) (Nat.zero_le _) (by intro p h; simp at h) (show parseGo (pts p) ((pts p).length + 1) 0 [] = .inl l from hq)
    have hll := hbd.1
    have HE : Hid (matchB p s = mtB l (pts s)) := by show _ = _; unfold matchB; rw [hq]
    have HP := Lib.hid hq
    have HBD := Lib.hid hbd
    clear hq hbd
    go_enter Tryd.func29, Tryd.ntmps29
    go_wp2_with fail
    refine (ritems_any p _ (by omega)).mono ?_
    rw [HP.out]
    rintro e w1 ⟨v, vs, rfl, hI, _, hb⟩
    have HI1 := Lib.hid hI
    clear hI
    go_wp2_with fail
    refine (refPoints_any s _ (by omega)).mono ?_
    rintro e w2 ⟨u, rfl, hu, hb2⟩
    have HU := Lib.hid (ListAt.of_own hu)
    have HI := Lib.hid (HI1.out.below hb2)
    have HB := Lib.hid (bt hb hb2)
    have hbs2 := (bt hb hb2).size
    obtain ⟨pa, pc, hpv, hR⟩ := HI.out.reads
    subst hpv
    have HRD := Lib.hid hR
    obtain ⟨_, ua, uc, huv, _, hC⟩ := HU.out
    subst huv
    have HCC := Lib.hid hC
    clear hu hb hb2 hR hC HI1
    go_wp2_with (at_make; go_loud (refine wpList_make_full _ rfl _ _ 61 rfl w2.heap.size 4 i0 (.bool false) 1 Tryd.underlying61 hi0 hz0 hz1 .i64 .i64 _ _ ((pts s).length + 1) rfl rfl (by push_cast; omega) (by push_cast; omega) (by rw [hz2]; omega) (by unfold maxLen; omega) (Nat.le_refl _) ?_))
    intro w3 hown hgrow
    have hrow := RowB.made hown
    have hb3 : Below w2.heap.size w2 w3 := (Below.refl _ _).grown hgrow (Nat.le_refl _) (fun k h => by cases h)
    have fz := hrow.fz 0
    have hrow0 : Hid (RowB (w3.setCell ⟨w2.heap.size, 0, none⟩ (.bool true)) w2.heap.size ((pts s).length + 1) (cellB l (pts s) 0)) := by
      refine (hrow.set 0 true).congr fun t ht => ?_
      rw [cell_zero l (pts s) t (by omega)]
      by_cases e : t = 0 <;> simp [e]
    have HB3 : Hid (Below w2.heap.size w2 (w3.setCell ⟨w2.heap.size, 0, none⟩ (.bool true))) := hb3.setCell (p := ⟨w2.heap.size, 0, none⟩) (Nat.le_refl _) _
    have z0 := hrow.cell (j := 0) (by omega)
    clear hrow hb3 hown hgrow
    go_wp2
    go_loopg [9, 10] (l.length + 1) (fun g a9 a10 wr => ∃ i b : Nat, a9 = .slice (some ⟨b, 0, none⟩) ((pts s).length + 1) ((pts s).length + 1) ∧ a10 = .int .i64 i ∧ i ≤ l.length ∧ l.length + 1 - i ≤ g ∧ RowB wr b ((pts s).length + 1) (cellB l (pts s) i) ∧ Below w2.heap.size w2 wr)
    case atStart => exact ⟨0, w2.heap.size, rfl, rfl, by omega, by omega, hrow0.out, HB3.out⟩
    case round =>
      obtain ⟨i, b, rfl, rfl, hi, hg, hrow, hb⟩ := hrel
      obtain ⟨wo, hwo⟩ : ∃ wo, wo = wr := ⟨_, rfl⟩
      subst hwo
      obtain ⟨g, rfl⟩ : ∃ g, gk = g + 1 := ⟨gk - 1, by omega⟩
      have HROW := Lib.hid hrow
      have HBR := Lib.hid hb
      have hbs := hb.size
      have hblt := hrow.lt
      by_cases hlt : i < l.length
      · clear hrow hb
        go_wp2_with (at_make; go_loud (refine wpList_make_full _ rfl _ _ 61 rfl wo.heap.size 4 i0 (.bool false) 1 Tryd.underlying61 hi0 hz0 hz1 .i64 .i64 _ _ ((pts s).length + 1) rfl rfl (by push_cast; omega) (by push_cast; omega) (by rw [hz2]; omega) (by unfold maxLen; omega) (Nat.le_refl _) ?_))
        intro wm hown hgrow
        have hrm := (RowB.made hown).congr (g := nextF l (pts s) i 0) (fun t _ => by unfold nextF; simp)
        have hbm : Below wo.heap.size wo wm := (Below.refl _ _).grown hgrow (Nat.le_refl _) (fun k h => by cases h)
        have HRM := Lib.hid hrm
        have HBM := Lib.hid hbm
        clear hrm hbm hown hgrow
        go_wp2
        go_loopw [12] (fun a12 wr => ∃ j : Nat, j ≤ (pts s).length + 1 ∧ a12 = .int .i64 j ∧ RowB wr wo.heap.size ((pts s).length + 1) (nextF l (pts s) i j) ∧ Below wo.heap.size wo wr) (fun a12 _ => (pts s).length + 1 - (intOf a12).toNat)
        case atStart => exact ⟨0, by omega, rfl, HRM.out, HBM.out⟩
        case round =>
          obtain ⟨j, hj, rfl, hnx, hbw⟩ := hrel
          have HNX := Lib.hid hnx
          have HBW := Lib.hid hbw
          by_cases hjl : j ≤ (pts s).length
          · obtain ⟨gp, rfl, hgp, k0, k1, k2, k3, hrows⟩ := HRD.out i hlt
            have hbx : Below w2.heap.size w2 wo := HBR.out
            have hby : Below w2.heap.size w2 wr := hbx.trans (hbw.mono hbs)
            have c0 : wr.cell? ⟨gp, i * 4, none⟩ = some (.bool (l.getD i default).star) := (hby.cell (p := ⟨gp, i * 4, none⟩) hgp).trans k0
            have c1 : wr.cell? ⟨gp, i * 4 + 1, none⟩ = some (.bool (l.getD i default).neg) := (hby.cell (p := ⟨gp, i * 4 + 1, none⟩) hgp).trans k1
            have c2 : wr.cell? ⟨gp, i * 4 + 2, none⟩ = some (vs.getD i (.nilIface, .nilIface)).1 := (hby.cell (p := ⟨gp, i * 4 + 2, none⟩) hgp).trans k2
            have c3 : wr.cell? ⟨gp, i * 4 + 3, none⟩ = some (vs.getD i (.nilIface, .nilIface)).2 := (hby.cell (p := ⟨gp, i * 4 + 3, none⟩) hgp).trans k3
            have HRW := Lib.hid (hrows.below hby)
            have d0 := (HROW.out.below hblt hbw).cell (j := j) (by omega)
            have d1 : 0 < j → wr.cell? ⟨b, j - 1, none⟩ = some (.bool (cellB l (pts s) i (j - 1))) := fun h => (HROW.out.below hblt hbw).cell (by omega)
            have n1 : 0 < j → wr.cell? ⟨wo.heap.size, j - 1, none⟩ = some (.bool (cellB l (pts s) (i + 1) (j - 1))) := fun h => by
              have := hnx.cell (j := j - 1) (by omega)
              rw [this]; unfold nextF; rw [decide_eq_true (by omega)]; rfl
            have f0 := hnx.fz j
            have n0 := hnx.cell (j := j) (by omega)
            have hili : (i : Int) < (l.length : Int) := by omega
            clear k0 k1 k2 k3 hrows hnx hbx hby hbw
            cases hst : (l.getD i default).star with
            | true =>
              rw [hst] at c0
              have HST := Lib.hid (cell_star (s := pts s) hlt hjl hst)
              clear hst c1 c2 c3
              generalize hcv : cellB l (pts s) i j = cv at *
              cases cv with
              | true =>
                have HNB : Hid (RowB (wr.setCell ⟨wo.heap.size, j, none⟩ (.bool true)) wo.heap.size ((pts s).length + 1) (nextF l (pts s) i (j + 1))) := next_step HNX.out true (by rw [HST.out]; rfl)
                clear hcv d1 n1
                go_wp2
                go_roundw
                case measure => simp [intOf]; try omega
                case rel => exact ⟨j + 1, by omega, by push_cast; rfl, HNB.out, by first | exact HBW.out | exact HBW.out.setCell (p := ⟨wo.heap.size, j, none⟩) (Nat.le_refl _) _⟩
              | false =>
                by_cases h0 : 0 < j
                · have n1' := n1 h0
                  have HNB : Hid (RowB (wr.setCell ⟨wo.heap.size, j, none⟩ (.bool (cellB l (pts s) (i + 1) (j - 1)))) wo.heap.size ((pts s).length + 1) (nextF l (pts s) i (j + 1))) := next_step HNX.out _ (by rw [HST.out, decide_eq_true h0]; rfl)
                  have hjn : ((j : Int) - 1).toNat = j - 1 := by omega
                  clear hcv d1 n1
                  generalize cellB l (pts s) (i + 1) (j - 1) = nv at *
                  go_wp2
                  go_roundw
                  case measure => simp [intOf]; try omega
                  case rel => exact ⟨j + 1, by omega, by push_cast; rfl, HNB.out, by first | exact HBW.out | exact HBW.out.setCell (p := ⟨wo.heap.size, j, none⟩) (Nat.le_refl _) _⟩
                · obtain rfl : j = 0 := by omega
                  have HNB : Hid (RowB (wr.setCell ⟨wo.heap.size, 0, none⟩ (.bool false)) wo.heap.size ((pts s).length + 1) (nextF l (pts s) i (0 + 1))) := next_step HNX.out false (by rw [HST.out]; rfl)
                  clear hcv d1 n1
                  go_wp2
                  go_roundw
                  case measure => simp [intOf]; try omega
                  case rel => exact ⟨0 + 1, by omega, by push_cast; rfl, HNB.out, by first | exact HBW.out | exact HBW.out.setCell (p := ⟨wo.heap.size, 0, none⟩) (Nat.le_refl _) _⟩
            | false =>
              rw [hst] at c0
              have HST := Lib.hid (cell_one (s := pts s) hlt hjl hst)
              have HSF := Lib.hid hst
              clear hst n1
              by_cases h0 : 0 < j
              · have d1' := d1 h0
                have hjn : ((j : Int) - 1).toNat = j - 1 := by omega
                generalize hcv : cellB l (pts s) i (j - 1) = cv at *
                cases cv with
                | true =>
                  obtain ⟨ub, uo, rfl, hub, hus⟩ := HCC.out.resolve_left (by omega)
                  have hbw := HBW.out
                  have hbwo := hbw.size
                  have hgp4 : gp < wr.heap.size := by omega
                  have hub4 : ub < wr.heap.size := by omega
                  have hgpn : gp ≠ wo.heap.size := by omega
                  have hubn : ub ≠ wo.heap.size := by omega
                  have dS : wr.cell? ⟨ub, uo + (j - 1), none⟩ = some (.int .i32 ((pts s).getD (j - 1) 0)) := ((HBR.out.trans (hbw.mono hbs)).cell (p := ⟨ub, uo + (j - 1), none⟩) hub).trans (ListAt.i32 hus (j - 1) (by omega))
                  have hmem : Hid ((l.getD i default).spans.length ≤ (pts p).length + 1) := HBD.out.2 (l.getD i default) (by rw [List.getD, List.getElem?_eq_getElem hlt]; exact List.getElem_mem hlt)
                  have HV : Hid (takesB (l.getD i default) ((pts s).getD (j - 1) 0) = cellB l (pts s) (i + 1) j) := by
                    show _ = _
                    rw [HST.out, decide_eq_true h0]; rfl
                  have hneg : wo.heap.size < wr.heap.size := HNX.out.lt
                  clear hus hcv d1 hbw
                  generalize l.getD i default = pp at *
                  generalize (pts s).getD (j - 1) 0 = c at *
                  generalize vs.getD i (.nilIface, .nilIface) = vx at *
                  obtain ⟨lo, hiv⟩ := vx
                  obtain ⟨la, lc, hlo⟩ := slice_of_own HRW.out.1
                  obtain ⟨ra, rc, hhi⟩ := slice_of_own HRW.out.2
                  simp only at hlo hhi c2 c3
                  subst hlo hhi
                  have TK : Hid (∀ W, ListAt W (.slice la pp.spans.length lc) pp.spans.length (i32s (pp.spans.map Prod.fst)) → ListAt W (.slice ra pp.spans.length rc) pp.spans.length (i32s (pp.spans.map Prod.snd)) →
                      Calls Tryd.prog 41 #[.agg #[.bool false, .bool pp.neg, .slice la pp.spans.length lc, .slice ra pp.spans.length rc], .int .i32 c] W fun e w' => e = .returned (.bool (takesB pp c)) ∧ Below W.heap.size W w') := by
                    intro W h1 h2
                    have := in_any _ _ pp c W h1 h2 (by have := hmem.out; omega)
                    rw [HSF.out] at this; exact this
                  have HL1 : Hid (ListAt wr.drew (.slice la pp.spans.length lc) pp.spans.length (i32s (pp.spans.map Prod.fst))) := (ListAt.of_own HRW.out.1).below (Below.refl _ _).drew
                  have HL2 : Hid (ListAt wr.drew (.slice ra pp.spans.length rc) pp.spans.length (i32s (pp.spans.map Prod.snd))) := (ListAt.of_own HRW.out.2).below (Below.refl _ _).drew
                  have BASE : wr.cell? ⟨gp, i * 4, none⟩ = some (.bool false) ∧ wr.cell? ⟨gp, i * 4 + 1, none⟩ = some (.bool pp.neg) ∧ wr.cell? ⟨gp, i * 4 + 2, none⟩ = some (.slice la pp.spans.length lc) ∧ wr.cell? ⟨gp, i * 4 + 3, none⟩ = some (.slice ra pp.spans.length rc) ∧ wr.cell? ⟨ub, uo + (j - 1), none⟩ = some (.int .i32 c) := ⟨c0, c1, c2, c3, dS⟩
                  have ALL : Hid (∀ w5, Below wr.drew.heap.size wr.drew w5 → (w5.cell? ⟨gp, i * 4, none⟩ = some (.bool false) ∧ w5.cell? ⟨gp, i * 4 + 1, none⟩ = some (.bool pp.neg) ∧ w5.cell? ⟨gp, i * 4 + 2, none⟩ = some (.slice la pp.spans.length lc) ∧ w5.cell? ⟨gp, i * 4 + 3, none⟩ = some (.slice ra pp.spans.length rc) ∧ w5.cell? ⟨ub, uo + (j - 1), none⟩ = some (.int .i32 c)) ∧ (∀ u, (w5.setCell ⟨wo.heap.size, j, none⟩ u).cell? ⟨gp, i * 4, none⟩ = some (.bool false) ∧ (w5.setCell ⟨wo.heap.size, j, none⟩ u).cell? ⟨gp, i * 4 + 1, none⟩ = some (.bool pp.neg) ∧ (w5.setCell ⟨wo.heap.size, j, none⟩ u).cell? ⟨gp, i * 4 + 2, none⟩ = some (.slice la pp.spans.length lc) ∧ (w5.setCell ⟨wo.heap.size, j, none⟩ u).cell? ⟨gp, i * 4 + 3, none⟩ = some (.slice ra pp.spans.length rc) ∧ (w5.setCell ⟨wo.heap.size, j, none⟩ u).cell? ⟨ub, uo + (j - 1), none⟩ = some (.int .i32 c)) ∧ RowB w5 wo.heap.size ((pts s).length + 1) (nextF l (pts s) i j) ∧ Below wo.heap.size wo w5) := by
                    intro w5 h5
                    have h6 : Below wr.heap.size wr w5 := (Below.refl _ _).drew.trans h5
                    have A : w5.cell? ⟨gp, i * 4, none⟩ = some (.bool false) ∧ w5.cell? ⟨gp, i * 4 + 1, none⟩ = some (.bool pp.neg) ∧ w5.cell? ⟨gp, i * 4 + 2, none⟩ = some (.slice la pp.spans.length lc) ∧ w5.cell? ⟨gp, i * 4 + 3, none⟩ = some (.slice ra pp.spans.length rc) ∧ w5.cell? ⟨ub, uo + (j - 1), none⟩ = some (.int .i32 c) := ⟨(h6.cell (p := ⟨gp, i * 4, none⟩) hgp4).trans BASE.1, (h6.cell (p := ⟨gp, i * 4 + 1, none⟩) hgp4).trans BASE.2.1, (h6.cell (p := ⟨gp, i * 4 + 2, none⟩) hgp4).trans BASE.2.2.1, (h6.cell (p := ⟨gp, i * 4 + 3, none⟩) hgp4).trans BASE.2.2.2.1, (h6.cell (p := ⟨ub, uo + (j - 1), none⟩) hub4).trans BASE.2.2.2.2⟩
                    have oth : ∀ (u : Value) (q : Addr), q.block ≠ wo.heap.size → (w5.setCell ⟨wo.heap.size, j, none⟩ u).cell? q = w5.cell? q := fun u q hq => World.cell?_setCell_other _ _ _ _ (fun e => hq (by rw [← e]))
                    exact ⟨A, fun u => ⟨(oth u _ hgpn).trans A.1, (oth u _ hgpn).trans A.2.1, (oth u _ hgpn).trans A.2.2.1, (oth u _ hgpn).trans A.2.2.2.1, (oth u _ hubn).trans A.2.2.2.2⟩, HNX.out.below hneg h6, HBW.out.trans (h6.mono hbwo)⟩
                  have hjnn : (0 : Int) ≤ (j : Int) - 1 := by omega
                  have hjn1 : (j : Int) - 1 < ((pts s).length : Int) := by omega
                  have hjn2 : (j : Int) < ((pts s).length : Int) + 1 := by omega
                  have hjn3 : (0 : Int) ≤ (j : Int) := by omega
                  have hjn4 : (1 : Int) ≤ (j : Int) := by omega
                  have hjw : IntKind.i64.wrap ((j : Int) - 1) = (j : Int) - 1 := IntWalk.i64_in _ (by omega)
                  clear hgp hub c0 c1 c2 c3 dS hgpn hubn
                  obtain ⟨c0, c1, c2, c3, dS⟩ := BASE
                  go_wp2
                  go_region_held3 (fun w' => w'.cell? ⟨gp, i * 4, none⟩ = some (.bool false) ∧ w'.cell? ⟨gp, i * 4 + 1, none⟩ = some (.bool pp.neg) ∧ w'.cell? ⟨gp, i * 4 + 2, none⟩ = some (.slice la pp.spans.length lc) ∧ w'.cell? ⟨gp, i * 4 + 3, none⟩ = some (.slice ra pp.spans.length rc) ∧ w'.cell? ⟨ub, uo + (j - 1), none⟩ = some (.int .i32 c))
                    (first
                      | exact ⟨c0, c1, c2, c3, dS⟩
                      | exact ⟨by simpa using c0, by simpa using c1, by simpa using c2, by simpa using c3, by simpa using dS⟩
                      | exact A5
                      | exact A6 _)
                    (first | (go_at_call 41; refine (TK.out _ HL1.out HL2.out).mono ?_; rintro e w5 ⟨rfl, h5⟩; obtain ⟨A5, A6, r5, b5⟩ := ALL.out w5 h5; have f5 := r5.fz j; have n5 := r5.cell (j := j) (by omega); have R5 := Lib.hid r5; have B5 := Lib.hid b5; clear r5 b5 h5))
                  have HNB := Lib.hid (next_step R5.out (takesB pp c) HV.out)
                  go_wp2
                  go_roundw
                  case measure => simp [intOf]; try omega
                  case rel => exact ⟨j + 1, by omega, by push_cast; rfl, HNB.out, B5.out.setCell (p := ⟨wo.heap.size, j, none⟩) (Nat.le_refl _) _⟩
                | false =>
                  have HNB : Hid (RowB wr wo.heap.size ((pts s).length + 1) (nextF l (pts s) i (j + 1))) := next_skip HNX.out (by rw [HST.out, decide_eq_true h0]; rfl)
                  clear hcv d1 c1 c2 c3
                  go_wp2
                  go_roundw
                  case measure => simp [intOf]; try omega
                  case rel => exact ⟨j + 1, by omega, by push_cast; rfl, HNB.out, by first | exact HBW.out | exact HBW.out.setCell (p := ⟨wo.heap.size, j, none⟩) (Nat.le_refl _) _⟩
              · obtain rfl : j = 0 := by omega
                have HNB : Hid (RowB wr wo.heap.size ((pts s).length + 1) (nextF l (pts s) i (0 + 1))) := next_skip HNX.out (by rw [HST.out]; rfl)
                clear d1 c1 c2 c3
                go_wp2
                go_roundw
                case measure => simp [intOf]; try omega
                case rel => exact ⟨0 + 1, by omega, by push_cast; rfl, HNB.out, by first | exact HBW.out | exact HBW.out.setCell (p := ⟨wo.heap.size, 0, none⟩) (Nat.le_refl _) _⟩
          · obtain rfl : j = (pts s).length + 1 := by omega
            have HNB : Hid (RowB wr wo.heap.size ((pts s).length + 1) (cellB l (pts s) (i + 1))) := hnx.congr fun t ht => by unfold nextF; rw [decide_eq_true ht]; rfl
            clear hnx
            go_wp2
            go_roundg g
            case measure => omega
            case rel => exact ⟨i + 1, wo.heap.size, rfl, by push_cast; rfl, by omega, by omega, HNB.out, HBR.out.trans (hbw.mono hbs)⟩
      · obtain rfl : i = l.length := by omega
        have d0 := hrow.cell (j := (pts s).length) (by omega)
        rw [cell_all] at d0
        clear hrow
        go_wp2
        go_ret
        exact ⟨ret_bool HE.out.symm, HB.out.trans (hb.mono hbs2)⟩
end Go.Proofs.YthkkphfnfggpaaaDoor
