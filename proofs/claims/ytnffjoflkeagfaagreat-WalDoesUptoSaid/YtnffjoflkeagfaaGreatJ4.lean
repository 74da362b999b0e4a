/- The document's journal: Open, Append, Rewrite. Printed by genrwal.py. -/
import Derived.Test.YtnffjoflkeagfaaGreatJ2
import Derived.Test.YtnffjoflkeagfaaGreatE4
import Derived.Test.YtnffjoflkeagfaaGreatF5
import Derived.StillTailTactics
namespace Go.Proofs.YtnffjoflkeagfaaGreat
open Go.RowKit Go.Maps

abbrev rwalO (rb : Nat) (name : ByteArray) (rv : Value) : Obj := .cells #[ptrV rb, .string name, rv] 61 (0, 0)
structure RWalO (S : Nat → Prop) (w : World) (xb rb : Nat) (name : ByteArray) (L : Recs) (rv : Value) : Prop where
  mine : S xb
  block : w.heap[xb]? = some (rwalO rb name rv)
  row : RowS S w rv L
def RWalQ (xb rb : Nat) (name : ByteArray) (L : Recs) : (Nat → Prop) → World → Prop := fun S w => ∃ rv, RWalO S w xb rb name L rv
section
variable {S S' : Nat → Prop} {w w' : World} {xb rb : Nat} {name : ByteArray} {L : Recs} {rv : Value}
theorem RWalO.lt (h : RWalO S w xb rb name L rv) : xb < w.heap.size := (Array.getElem?_eq_some_iff.1 h.block).1
theorem RWalO.c0 (h : RWalO S w xb rb name L rv) : w.cell? ⟨xb, 0, none⟩ = some (ptrV rb) := by rw [Lib.cell_of_heap h.block]; rfl
theorem RWalO.c1 (h : RWalO S w xb rb name L rv) : w.cell? ⟨xb, 1, none⟩ = some (.string name) := by rw [Lib.cell_of_heap h.block]; rfl
theorem RWalO.c2 (h : RWalO S w xb rb name L rv) : w.cell? ⟨xb, 2, none⟩ = some rv := by rw [Lib.cell_of_heap h.block]; rfl
theorem RWalO.f (h : RWalO S w xb rb name L rv) (j : Nat) : w.frozen? ⟨xb, j, none⟩ = false := Lib.frozen_of_heap h.block j
theorem RWalO.apart (h : RWalO S w xb rb name L rv) {g : Nat} (hg : rv.ownBlock = some g) : g ≠ xb := by
  rcases h.row.1.2 with ⟨e, _⟩ | ⟨g', cap, cur, e, _, hb, _⟩
  · rw [e] at hg; simp [Value.ownBlock] at hg
  · rw [e] at hg
    have : g' = g := by simpa [Value.ownBlock] using hg
    subst this
    rintro rfl
    have := h.block.symm.trans hb
    injection this with e1
    injection e1 with _ e2 _
    exact absurd e2 (by decide)
theorem RWalO.other (h : RWalO S w xb rb name L rv) (hk : Kept S' w w') (hS : ∀ k, k < w.heap.size → S k → ¬ S' k) : RWalO S w' xb rb name L rv :=
  ⟨h.mine, (hk.block xb h.lt (hS xb h.lt h.mine)).trans h.block, h.row.keep (fun g hg hl => hk.block g hl (hS g hl hg)) (fun _ _ hg => hg)⟩
theorem RWalO.mono (h : RWalO S w xb rb name L rv) (hS : ∀ k, k < w.heap.size → S k → S' k) : RWalO S' w xb rb name L rv :=
  ⟨hS xb h.lt h.mine, h.block, h.row.keep (fun _ _ _ => rfl) hS⟩
end
theorem rwalThing (xb rb : Nat) (name : ByteArray) (L : Recs) : Thing (RWalQ xb rb name L) :=
  ⟨fun h hS => by obtain ⟨rv, h⟩ := h; exact ⟨rv, h.mono hS⟩, fun h => by obtain ⟨rv, h⟩ := h; exact ⟨rv, h.mono (fun _ hl hk => ⟨hk, hl⟩)⟩, fun h hk hS => by obtain ⟨rv, h⟩ := h; exact ⟨rv, h.other hk hS⟩⟩
theorem RWalO.push {S : Nat → Prop} {w w2 w3 : World} {xb rb : Nat} {name : ByteArray} {L L' : Recs} {rv v' : Value} (h : RWalO S w xb rb name L rv) (hS : ∀ k, w.heap.size ≤ k → S k) (hb : Below w.heap.size w w2) (hg : w2.grownBy w3 rv.ownBlock)
    (ho : w3.ownsRow 0 9 1 v' L'.length (cellsOf strC L')) (hat : ∀ g, v'.ownBlock = some g → rv.ownBlock = some g ∨ w.heap.size ≤ g) :
    RWalO S (w3.setCell ⟨xb, 2, none⟩ v') xb rb name L' v' ∧ Kept S w (w3.setCell ⟨xb, 2, none⟩ v') := by
  have k2 : Kept S w w2 := Kept.of_below hb
  have k3 : Kept S w2 w3 := by
    cases e : rv.ownBlock with
    | none => rw [e] at hg; exact ⟨hg.os, hg.tape, hg.output, hg.size, fun i hi _ => hg.block i hi (by simp)⟩
    | some g => rw [e] at hg; exact Kept.of_but hg (h.row.2 g e)
  have hblk : w3.heap[xb]? = some (rwalO rb name rv) := by
    have h1 := (hb.block xb h.lt).trans h.block
    refine (hg.block xb (Nat.lt_of_lt_of_le h.lt hb.size) ?_).trans h1
    intro e
    exact h.apart e.symm rfl
  have hSg : ∀ g, v'.ownBlock = some g → S g := fun g hg => (hat g hg).elim (fun h' => h.row.2 g h') (fun h' => hS g h')
  have hne : ∀ g, v'.ownBlock = some g → g ≠ xb := fun g hg => (hat g hg).elim (fun h' => h.apart h') (fun h' => by have := h.lt; omega)
  refine ⟨⟨h.mine, ?_, ?_, hSg⟩, (k2.trans k3).set (.inl h.mine) _⟩
  · simp [World.setCell, Array.getElem?_modify, hblk, rwalO]
  · exact own_keep ho (fun g hg => heap_setCell_other _ _ _ _ (by show g ≠ xb; exact hne g hg))
def ROpenQ (rb : Nat) (name : ByteArray) (o : Option Recs) (s' : St) (pv : Value) (S : Nat → Prop) (w : World) : Prop :=
  match o with
  | none => pv = .pointer none ∧ RefQ rb s' S w
  | some L => ∃ xb, pv = ptrV xb ∧ Pair (RefQ rb s') (RWalQ xb rb name L) S w
theorem rwal_built {S : Nat → Prop} {w : World} {rb : Nat} {s : St} {name : ByteArray} {v : Value} {L : Recs} (h : Pair (RefQ rb s) (RowQ v L) S w) (hS : ∀ k, w.heap.size ≤ k → S k) :
    ROpenQ rb name (some L) s (ptrV w.heap.size) S (w.alloc (rwalO rb name v)) ∧ Kept S w (w.alloc (rwalO rb name v)) := by
  have hp := Pair.upd2 (refThing _ _) (rowThing _ _) (rwalThing w.heap.size rb name L) (w' := w.alloc (rwalO rb name v)) h hS (fun T hT _ hq => by
    have hb2 : Below w.heap.size w (w.alloc (rwalO rb name v)) := (Below.refl _ _).alloc (Nat.le_refl _) _
    exact ⟨⟨v, hT _ (Nat.le_refl _), heap_alloc_new w _, RowS.keep hq (fun g _ hl => hb2.block g hl) (fun _ _ hg => hg)⟩, Kept.of_below hb2⟩)
  exact ⟨⟨_, rfl, hp.1⟩, hp.2⟩
theorem ret2b {v v' : Value} {c c' : Bool} (h1 : v = v') (h2 : c = c') : Ending.returned (.tuple #[v, .bool c]) = .returned (.tuple #[v', .bool c']) := by rw [h1, h2]
set_option maxHeartbeats 4000000 in
set_option maxRecDepth 100000 in
theorem ROpen_any {S : Nat → Prop} {w : World} {rb : Nat} {s : St} (h : RefAt S w rb s) (hS : ∀ k, w.heap.size ≤ k → S k) (hc : s.fs.length ≤ 1099511627776) (hu : usedF s.fs ≤ 1099511627776) (name : ByteArray) (hn : name.size ≤ 281474976710656) :
    Calls Tryz.prog 19 #[ptrV rb, .string name] w fun e w' => ∃ pv, e = .returned (.tuple #[pv, .bool (openS s (bs name)).1.isSome]) ∧ ROpenQ rb name (openS s (bs name)).1 (openS s (bs name)).2.2 pv S w' ∧ Kept S w w' := by
  have hrd := refRead_any h hc name
  have HD := Lib.hid h
  have c2 : w.cell? ⟨rb, 2, none⟩ = some (.bool s.down) := by obtain ⟨fv, wv, left, h⟩ := h; exact h.c2
  clear h
  cases hd : s.down with
  | true =>
    rw [hd] at c2
    have HO : Hid (openS s (bs name) = (none, 41, s)) := by show _ = _; unfold openS; rw [if_pos hd]
    clear hd
    generalize openS s (bs name) = R at *
    go_enter Tryz.func19, Tryz.ntmps19
    go_wp2
    go_ret2
    rw [HO.out]
    exact ⟨_, rfl, ⟨rfl, HD.out⟩, Kept.refl _ _⟩
  | false =>
    rw [hd] at c2
    obtain ⟨e1, _⟩ := read_up hd (bs name)
    have hopen : openS s (bs name) = cutsS s (bs name) (getF s.fs (bs name)).b := by unfold openS; rw [if_neg (by rw [hd]; simp)]
    have hlb : (getF s.fs (bs name)).b.length ≤ 1099511627776 := Nat.le_trans (get_le _ _) hu
    have hb2 : (mk (getF s.fs (bs name)).b).size = (getF s.fs (bs name)).b.length := mk_size _
    have hsc := fun w' => Fr.refScan_any (mk (getF s.fs (bs name)).b) w' (by rw [hb2]; exact hlb)
    have hbm : Fr.bs (mk (getF s.fs (bs name)).b) = (getF s.fs (bs name)).b := bs_mk _
    rw [hbm] at hsc
    obtain ⟨er, her⟩ : ∃ er, er = (readS s (bs name)).2 := ⟨_, rfl⟩
    rw [e1, ← her] at hrd
    have hsl := Fr.scan_len (getF s.fs (bs name)).b
    have hsn := Fr.scanN_le (getF s.fs (bs name)).b
    have hcut : ∀ T w', RefAt T w' rb s → _ := fun T w' hq => refCut_any (S := T) (w := w') hq hc name (by omega) (Fr.scanN (getF s.fs (bs name)).b : Int)
    have HOP : Hid (openS s (bs name) = cutsS s (bs name) (getF s.fs (bs name)).b) := hopen
    have HCUT := Lib.hid hcut
    clear e1 her hopen hbm hcut
    by_cases hl : Fr.scanN (getF s.fs (bs name)).b < (getF s.fs (bs name)).b.length
    · have hli : (Fr.scanN (getF s.fs (bs name)).b : Int) < ((getF s.fs (bs name)).b.length : Int) := by omega
      by_cases hc : (cutS s (bs name) (Fr.scanN (getF s.fs (bs name)).b : Int)).1 = 0
      · have HO : Hid (openS s (bs name) = (some (Fr.scanT (getF s.fs (bs name)).b), 0, (cutS s (bs name) (Fr.scanN (getF s.fs (bs name)).b : Int)).2)) := by show _ = _; rw [HOP.out]; unfold cutsS; rw [if_pos hl, if_pos hc]
        have HC0 := Lib.hid hc
        clear HOP hd hc
        generalize cutS s (bs name) (Fr.scanN (getF s.fs (bs name)).b : Int) = C at *
        generalize openS s (bs name) = R at *
        generalize (getF s.fs (bs name)).b = b at *
        generalize Fr.scanT b = T at *
        generalize Fr.scanN b = n at *
        go_enter Tryz.func19, Tryz.ntmps19
        go_wp2_with fail
        refine hrd.mono ?_
        rintro e w1 ⟨rfl, rfl⟩
        go_wp2_with fail
        refine (hsc w).mono ?_
        rintro e w2 ⟨v, rfl, ho, b2⟩
        obtain ⟨va, vc, rfl⟩ := row_slice ho
        have P2 : Hid (Pair (RefQ rb s) (RowQ (.slice va T.length vc) T) S w2) := Pair.of (refThing _ _) (rowThing _ _) HD.out b2 ⟨Fr.ownsRow_mono ho (Nat.zero_le _), fun g hg => (ho.lt g hg).1⟩ hS
        have K2 : Hid (Kept S w w2) := Kept.of_below b2
        clear ho b2 hsc
        have HCL := Lib.hid (Pair.step1 (refThing _ _) (refThing rb C.2) (rowThing _ _) P2.out (fun k hk => hS k (Nat.le_trans K2.out.size hk)) (X := fun e _ => e = .returned (.int .i64 C.1)) (fun T _ _ hq => HCUT.out T _ hq))
        rw [HC0.out] at HCL
        go_wp2_with fail
        refine HCL.out.mono ?_
        rintro e w3 ⟨rfl, p3, k3⟩
        have P3 := Lib.hid p3
        have K3 : Hid (Kept S w w3) := K2.out.trans k3
        have hS3 : ∀ k, w3.heap.size ≤ k → S k := fun k hk => hS k (Nat.le_trans K3.out.size hk)
        have HS3 := Lib.hid hS3
        clear p3 k3 hS3
        go_wp2
        go_ret2
        rw [HO.out]
        have := rwal_built (name := name) P3.out HS3.out
        exact ⟨_, rfl, this.1, K3.out.trans this.2⟩
      · have HO : Hid (openS s (bs name) = (none, (cutS s (bs name) (Fr.scanN (getF s.fs (bs name)).b : Int)).1, (cutS s (bs name) (Fr.scanN (getF s.fs (bs name)).b : Int)).2)) := by show _ = _; rw [HOP.out]; unfold cutsS; rw [if_pos hl, if_neg hc]
        have hci : ((cutS s (bs name) (Fr.scanN (getF s.fs (bs name)).b : Int)).1 != 0) = true := by simpa using hc
        clear HOP hd hc
        generalize cutS s (bs name) (Fr.scanN (getF s.fs (bs name)).b : Int) = C at *
        generalize openS s (bs name) = R at *
        generalize (getF s.fs (bs name)).b = b at *
        generalize Fr.scanT b = T at *
        generalize Fr.scanN b = n at *
        obtain ⟨c1', c2'⟩ := C
        go_enter Tryz.func19, Tryz.ntmps19
        go_wp2_with fail
        refine hrd.mono ?_
        rintro e w1 ⟨rfl, rfl⟩
        go_wp2_with fail
        refine (hsc w).mono ?_
        rintro e w2 ⟨v, rfl, ho, b2⟩
        obtain ⟨va, vc, rfl⟩ := row_slice ho
        have D2 := Lib.hid (HD.out.below b2)
        have K2 : Hid (Kept S w w2) := Kept.of_below b2
        clear ho b2 hsc
        have HCL := Lib.hid (HCUT.out S w2 D2.out)
        go_wp2_with fail
        refine HCL.out.mono ?_
        rintro e w3 ⟨rfl, d3, k3⟩
        have D3 := Lib.hid d3
        have K3 : Hid (Kept S w w3) := K2.out.trans k3
        clear d3 k3
        go_wp2
        go_ret2
        rw [HO.out]
        exact ⟨_, rfl, ⟨rfl, D3.out⟩, K3.out⟩
    · have HO : Hid (openS s (bs name) = (some (Fr.scanT (getF s.fs (bs name)).b), 0, s)) := by show _ = _; rw [HOP.out]; unfold cutsS; rw [if_neg hl]
      have hli : ¬ (Fr.scanN (getF s.fs (bs name)).b : Int) < ((getF s.fs (bs name)).b.length : Int) := by omega
      clear HOP hd HCUT
      generalize openS s (bs name) = R at *
      generalize (getF s.fs (bs name)).b = b at *
      generalize Fr.scanT b = T at *
      generalize Fr.scanN b = n at *
      go_enter Tryz.func19, Tryz.ntmps19
      go_wp2_with fail
      refine hrd.mono ?_
      rintro e w1 ⟨rfl, rfl⟩
      go_wp2_with fail
      refine (hsc w).mono ?_
      rintro e w2 ⟨v, rfl, ho, b2⟩
      obtain ⟨va, vc, rfl⟩ := row_slice ho
      have P2 : Hid (Pair (RefQ rb s) (RowQ (.slice va T.length vc) T) S w2) := Pair.of (refThing _ _) (rowThing _ _) HD.out b2 ⟨Fr.ownsRow_mono ho (Nat.zero_le _), fun g hg => (ho.lt g hg).1⟩ hS
      have K2 : Hid (Kept S w w2) := Kept.of_below b2
      have hS2 : ∀ k, w2.heap.size ≤ k → S k := fun k hk => hS k (Nat.le_trans K2.out.size hk)
      have HS2 := Lib.hid hS2
      clear ho b2 hsc hS2
      go_wp2
      go_ret2
      rw [HO.out]
      have := rwal_built (name := name) P2.out HS2.out
      exact ⟨_, rfl, this.1, K2.out.trans this.2⟩
set_option maxHeartbeats 1000000 in
theorem rAppend_none (v : Value) (xb : Value) (w : World) (hv : ∃ a c, v = .slice a 0 c) :
    Calls Tryz.prog 21 #[xb, v] w fun e w' => e = .returned (.int .i64 0) ∧ w = w' := by
  obtain ⟨a, c, rfl⟩ := hv
  go_enter Tryz.func21, Tryz.ntmps21
  go_wp2
  go_ret
  exact ⟨rfl, rfl⟩
set_option maxHeartbeats 4000000 in
set_option maxRecDepth 100000 in
theorem rAppend_any {S : Nat → Prop} {w : World} {xb rb : Nat} {s : St} {name : ByteArray} {L : Recs} (h : Pair (RefQ rb s) (RWalQ xb rb name L) S w) (hS : ∀ k, w.heap.size ≤ k → S k) (hm : s.fs.length ≤ 1048576) (hu : usedF s.fs ≤ 274877906944)
    (hn : name.size ≤ 281474976710656) {v : Value} {l : Recs} (hv : TxtOff S w v l) (hall : ∀ c ∈ l, c.size ≤ 65536) (hl : l.length ≤ 1048576) (hL : L.length ≤ 1099511627776) (hne : l ≠ []) :
    Calls Tryz.prog 21 #[ptrV xb, v] w fun e w' => e = .returned (.int .i64 (writeS s (bs name) L l).1) ∧ Pair (RefQ rb (writeS s (bs name) L l).2.2) (RWalQ xb rb name (writeS s (bs name) L l).2.1) S w' ∧ Kept S w w' := by
  have hjoin := Fr.refJoin_any v l w (off_at hv.1) hl hall
  have hjs := joinB_small hall hl
  have hjm : (mk (Fr.joinB l)).size = (Fr.joinB l).length := mk_size _
  have hfit : Fit s := by
    obtain ⟨_, _, _, hq⟩ : RefAt S w rb s := Pair.fst (refThing _ _) h
    exact hq.fit
  obtain ⟨va, vc, rfl⟩ := hv.slice
  have HV := Lib.hid hv
  have HP := Lib.hid h
  have hl0 : 0 < l.length := List.length_pos_iff.2 hne
  have hsm := small_append hfit (bs name) (Fr.joinB l) (by rw [bs_len]; omega)
  have happ : ∀ T w', RefAt T w' rb s → (∀ k, w'.heap.size ≤ k → T k) → _ := fun T w' hq hT => refAppend_any (S := T) (w := w') hq hT (by omega) name (mk (Fr.joinB l)) (by omega) (by omega)
  rw [bs_mk] at happ
  have HAPP := Lib.hid happ
  have hwr : Hid (writeS s (bs name) L l = if (appendS s (bs name) (Fr.joinB l)).1 = 0 then
    if (syncS (appendS s (bs name) (Fr.joinB l)).2 (bs name)).1 = 0 then (0, L ++ l, (syncS (appendS s (bs name) (Fr.joinB l)).2 (bs name)).2) else ((syncS (appendS s (bs name) (Fr.joinB l)).2 (bs name)).1, L, (syncS (appendS s (bs name) (Fr.joinB l)).2 (bs name)).2)
    else ((appendS s (bs name) (Fr.joinB l)).1, L, (appendS s (bs name) (Fr.joinB l)).2)) := rfl
  clear happ hfit hall h hv hne
  have hjx : (Fr.mk (Fr.joinB l)) = mk (Fr.joinB l) := rfl
  rw [hjx] at hjoin
  clear hjx
  generalize Fr.joinB l = J at *
  generalize appendS s (bs name) J = A at *
  obtain ⟨a1, a2⟩ := A
  simp only at hsm hwr
  by_cases ha : a1 = 0
  · subst ha
    have hsy : ∀ T w', RefAt T w' rb a2 → _ := fun T w' hq => refSync_any (S := T) (w := w') hq (by omega) name (by omega)
    have HSY := Lib.hid hsy
    clear hsy
    generalize syncS a2 (bs name) = Y at *
    obtain ⟨y1, y2⟩ := Y
    simp only [if_true] at hwr
    by_cases hy : y1 = 0
    · subst hy
      simp only [if_true] at hwr
      generalize writeS s (bs name) L l = R at *
      obtain ⟨i0, hi, hz0, hz1, hz2⟩ := info_parts info_str5
      go_enter Tryz.func21, Tryz.ntmps21
      go_wp2_with fail
      refine hjoin.mono ?_
      rintro e w1 ⟨rfl, b1⟩
      have P1 := Lib.hid ((pairThing (refThing _ _) (rwalThing _ _ _ _)).below HP.out b1)
      have K1 : Hid (Kept S w w1) := Kept.of_below b1
      clear b1 hjoin
      obtain ⟨rvw1, hww1⟩ : RWalQ xb rb name L S w1 := Pair.snd (rwalThing _ _ _ _) P1.out
      have x0 := hww1.c0
      have x1 := hww1.c1
      clear hww1
      have HBw1 := (pairThing (refThing rb _) (rwalThing xb rb name L)).below P1.out ((Below.refl _ w1).drew)
      have HCw1 := Lib.hid (Pair.step1 (refThing _ _) (refThing rb a2) (rwalThing _ _ _ _) HBw1 (fun k hk => hS k (Nat.le_trans K1.out.size hk)) (X := fun e _ => e = .returned (.int .i64 0)) (fun T hT _ hq => HAPP.out T _ hq hT))
      clear HBw1
      go_wp2_with fail
      go_still_tail 9, (by kernel_rfl)
      change wpList _ _ _ _ _ w1.drew
      go_wp2_with fail
      refine HCw1.out.mono ?_
      rintro e w3 ⟨rfl, pw3, kw3⟩
      have P3 := Lib.hid pw3
      have K3 : Hid (Kept S w w3) := (K1.out.trans ((Kept.refl _ _).drewN 1 : Kept S w1 w1.drew)).trans kw3
      clear pw3 kw3
      obtain ⟨rvw3, hww3⟩ : RWalQ xb rb name L S w3 := Pair.snd (rwalThing _ _ _ _) P3.out
      have x0 := hww3.c0
      have x1 := hww3.c1
      clear hww3
      have HBw3 := (pairThing (refThing rb _) (rwalThing xb rb name L)).below P3.out ((Below.refl _ w3).drew)
      have HCw3 := Lib.hid (Pair.step1 (refThing _ _) (refThing rb y2) (rwalThing _ _ _ _) HBw3 (fun k hk => hS k (Nat.le_trans K3.out.size hk)) (X := fun e _ => e = .returned (.int .i64 0)) (fun T _ _ hq => HSY.out T _ hq))
      clear HBw3
      go_wp2_with fail
      go_still_tail 8, (by kernel_rfl)
      change wpList _ _ _ _ _ w3.drew
      go_wp2_with fail
      refine HCw3.out.mono ?_
      rintro e w5 ⟨rfl, pw5, kw5⟩
      have P5 := Lib.hid pw5
      have K5 : Hid (Kept S w w5) := (K3.out.trans ((Kept.refl _ _).drewN 1 : Kept S w3 w3.drew)).trans kw5
      clear pw5 kw5
      obtain ⟨rv, hwx⟩ : RWalQ xb rb name L S w5 := Pair.snd (rwalThing _ _ _ _) P5.out
      obtain ⟨ra, rc, rfl⟩ := hwx.row.slice
      have W5 := Lib.hid hwx
      have x2 := hwx.c2
      have hlt5 := hwx.lt
      have HSRC := Lib.hid (HV.out.kept K5.out).src
      clear hwx
      go_wp2_with (at_builtin; go_loud (refine wpList_append_row rfl _ _ 35 rfl 0 9 i0 (.string ⟨#[]⟩) 1 16 Tryz.underlying35 hi hz0 hz1 hz2 rfl (by decide) _ _ _ rfl W5.out.row.1 _ l.length (cellsOf strC l) rfl HSRC.out (by simp [cellsOf]) (ones_str l) (by unfold maxLen; omega) (by omega) (Nat.zero_le _) ?_))
      intro v8 w8 ho hg hat
      obtain ⟨a8, c8, rfl⟩ := row_slice ho
      have hgx : w5.grownBy w8 (Value.slice ra L.length rc).ownBlock := hg
      have y2 : w8.cell? ⟨xb, 2, none⟩ = some (.slice ra L.length rc) := (hgx.cell_far ⟨xb, 2, none⟩ hlt5 (fun e => W5.out.apart e.symm rfl)).trans x2
      have f2 : w8.frozen? ⟨xb, 2, none⟩ = false := (hgx.frozen_far ⟨xb, 2, none⟩ hlt5 (fun e => W5.out.apart e.symm rfl)).trans (W5.out.f 2)
      have HO8 := Lib.hid ho
      have HG8 := Lib.hid hgx
      have HAT := Lib.hid hat
      clear ho hg hat hgx HSRC
      go_wp2
      go_ret
      rw [hwr.out]
      refine ⟨rfl, ?_⟩
      have := Pair.upd2 (refThing _ _) (rwalThing _ _ _ _) (rwalThing xb rb name (L ++ l)) (w' := w8.setCell ⟨xb, 2, none⟩ (.slice a8 (L.length + l.length) c8)) P5.out (fun k hk => hS k (Nat.le_trans K5.out.size hk)) (fun T hT _ hq => by
        obtain ⟨rv', hq⟩ := hq
        have e1 : rv' = .slice ra L.length rc := by have := hq.c2.symm.trans W5.out.c2; simpa using this
        subst e1
        have hp := hq.push hT (Below.refl _ _) HG8.out (L' := L ++ l) (by have := HO8.out; simpa [cellsOf] using this) (fun g' hg' => by
          rcases HAT.out with e | e
          · exact .inl (e ▸ hg')
          · rw [e] at hg'; exact .inr (Nat.le_of_eq (by simpa using hg')))
        exact ⟨⟨_, hp.1⟩, hp.2⟩)
      exact ⟨this.1, K5.out.trans this.2⟩
    · have hyi : (y1 != 0) = true := by simpa using hy
      rw [if_neg hy] at hwr
      generalize writeS s (bs name) L l = R at *
      go_enter Tryz.func21, Tryz.ntmps21
      go_wp2_with fail
      refine hjoin.mono ?_
      rintro e w1 ⟨rfl, b1⟩
      have P1 := Lib.hid ((pairThing (refThing _ _) (rwalThing _ _ _ _)).below HP.out b1)
      have K1 : Hid (Kept S w w1) := Kept.of_below b1
      clear b1 hjoin
      obtain ⟨rvw1, hww1⟩ : RWalQ xb rb name L S w1 := Pair.snd (rwalThing _ _ _ _) P1.out
      have x0 := hww1.c0
      have x1 := hww1.c1
      clear hww1
      have HBw1 := (pairThing (refThing rb _) (rwalThing xb rb name L)).below P1.out ((Below.refl _ w1).drew)
      have HCw1 := Lib.hid (Pair.step1 (refThing _ _) (refThing rb a2) (rwalThing _ _ _ _) HBw1 (fun k hk => hS k (Nat.le_trans K1.out.size hk)) (X := fun e _ => e = .returned (.int .i64 0)) (fun T hT _ hq => HAPP.out T _ hq hT))
      clear HBw1
      go_wp2_with fail
      go_still_tail 9, (by kernel_rfl)
      change wpList _ _ _ _ _ w1.drew
      go_wp2_with fail
      refine HCw1.out.mono ?_
      rintro e w3 ⟨rfl, pw3, kw3⟩
      have P3 := Lib.hid pw3
      have K3 : Hid (Kept S w w3) := (K1.out.trans ((Kept.refl _ _).drewN 1 : Kept S w1 w1.drew)).trans kw3
      clear pw3 kw3
      obtain ⟨rvw3, hww3⟩ : RWalQ xb rb name L S w3 := Pair.snd (rwalThing _ _ _ _) P3.out
      have x0 := hww3.c0
      have x1 := hww3.c1
      clear hww3
      have HBw3 := (pairThing (refThing rb _) (rwalThing xb rb name L)).below P3.out ((Below.refl _ w3).drew)
      have HCw3 := Lib.hid (Pair.step1 (refThing _ _) (refThing rb y2) (rwalThing _ _ _ _) HBw3 (fun k hk => hS k (Nat.le_trans K3.out.size hk)) (X := fun e _ => e = .returned (.int .i64 y1)) (fun T _ _ hq => HSY.out T _ hq))
      clear HBw3
      go_wp2_with fail
      go_still_tail 8, (by kernel_rfl)
      change wpList _ _ _ _ _ w3.drew
      go_wp2_with fail
      refine HCw3.out.mono ?_
      rintro e w5 ⟨rfl, pw5, kw5⟩
      have P5 := Lib.hid pw5
      have K5 : Hid (Kept S w w5) := (K3.out.trans ((Kept.refl _ _).drewN 1 : Kept S w3 w3.drew)).trans kw5
      clear pw5 kw5
      go_wp2
      go_ret
      rw [hwr.out]
      exact ⟨rfl, P5.out, K5.out⟩
  · have hai : (a1 != 0) = true := by simpa using ha
    rw [if_neg ha] at hwr
    generalize writeS s (bs name) L l = R at *
    go_enter Tryz.func21, Tryz.ntmps21
    go_wp2_with fail
    refine hjoin.mono ?_
    rintro e w1 ⟨rfl, b1⟩
    have P1 := Lib.hid ((pairThing (refThing _ _) (rwalThing _ _ _ _)).below HP.out b1)
    have K1 : Hid (Kept S w w1) := Kept.of_below b1
    clear b1 hjoin
    obtain ⟨rvw1, hww1⟩ : RWalQ xb rb name L S w1 := Pair.snd (rwalThing _ _ _ _) P1.out
    have x0 := hww1.c0
    have x1 := hww1.c1
    clear hww1
    have HBw1 := (pairThing (refThing rb _) (rwalThing xb rb name L)).below P1.out ((Below.refl _ w1).drew)
    have HCw1 := Lib.hid (Pair.step1 (refThing _ _) (refThing rb a2) (rwalThing _ _ _ _) HBw1 (fun k hk => hS k (Nat.le_trans K1.out.size hk)) (X := fun e _ => e = .returned (.int .i64 a1)) (fun T hT _ hq => HAPP.out T _ hq hT))
    clear HBw1
    go_wp2_with fail
    go_still_tail 9, (by kernel_rfl)
    change wpList _ _ _ _ _ w1.drew
    go_wp2_with fail
    refine HCw1.out.mono ?_
    rintro e w3 ⟨rfl, pw3, kw3⟩
    have P3 := Lib.hid pw3
    have K3 : Hid (Kept S w w3) := (K1.out.trans ((Kept.refl _ _).drewN 1 : Kept S w1 w1.drew)).trans kw3
    clear pw3 kw3
    go_wp2
    go_ret
    rw [hwr.out]
    exact ⟨rfl, P3.out, K3.out⟩
set_option maxHeartbeats 4000000 in
set_option maxRecDepth 100000 in
theorem rRewrite_any {S : Nat → Prop} {w : World} {xb rb : Nat} {s : St} {name : ByteArray} {L : Recs} (h : Pair (RefQ rb s) (RWalQ xb rb name L) S w) (hS : ∀ k, w.heap.size ≤ k → S k) (hm : s.fs.length ≤ 1048576) (hu : usedF s.fs ≤ 274877906944)
    (hn : name.size ≤ 281474976710656) {v : Value} {l : Recs} (hv : TxtOff S w v l) (hall : ∀ c ∈ l, c.size ≤ 65536) (hl : l.length ≤ 1048576) :
    Calls Tryz.prog 23 #[ptrV xb, v] w fun e w' => e = .returned (.int .i64 (otherS s (bs name) L l).1) ∧ Pair (RefQ rb (otherS s (bs name) L l).2.2) (RWalQ xb rb name (otherS s (bs name) L l).2.1) S w' ∧ Kept S w w' := by
  have hjoin := Fr.refJoin_any v l w (off_at hv.1) hl hall
  have hjs := joinB_small hall hl
  have hjm : (mk (Fr.joinB l)).size = (Fr.joinB l).length := mk_size _
  obtain ⟨va, vc, rfl⟩ := hv.slice
  have HV := Lib.hid hv
  have HP := Lib.hid h
  have happ : ∀ T w', RefAt T w' rb s → (∀ k, w'.heap.size ≤ k → T k) → _ := fun T w' hq hT => refReplace_any (S := T) (w := w') hq hT (by omega) name (mk (Fr.joinB l)) (by omega) (by omega)
  rw [bs_mk] at happ
  have HAPP := Lib.hid happ
  have hwr : Hid (otherS s (bs name) L l = if (replaceS s (bs name) (Fr.joinB l)).1 = 0 then (0, l, (replaceS s (bs name) (Fr.joinB l)).2) else ((replaceS s (bs name) (Fr.joinB l)).1, L, (replaceS s (bs name) (Fr.joinB l)).2)) := rfl
  have hjx : (Fr.mk (Fr.joinB l)) = mk (Fr.joinB l) := rfl
  rw [hjx] at hjoin
  clear happ hall h hv hjx
  generalize Fr.joinB l = J at *
  generalize replaceS s (bs name) J = A at *
  obtain ⟨a1, a2⟩ := A
  simp only at hwr
  by_cases ha : a1 = 0
  · subst ha
    simp only [if_true] at hwr
    generalize otherS s (bs name) L l = R at *
    obtain ⟨i0, hi, hz0, hz1, hz2⟩ := info_parts info_str5
    go_enter Tryz.func23, Tryz.ntmps23
    go_wp2_with fail
    refine hjoin.mono ?_
    rintro e w1 ⟨rfl, b1⟩
    have P1 := Lib.hid ((pairThing (refThing _ _) (rwalThing _ _ _ _)).below HP.out b1)
    have K1 : Hid (Kept S w w1) := Kept.of_below b1
    clear b1 hjoin
    obtain ⟨rvw1, hww1⟩ : RWalQ xb rb name L S w1 := Pair.snd (rwalThing _ _ _ _) P1.out
    have x0 := hww1.c0
    have x1 := hww1.c1
    clear hww1
    have HBw1 := (pairThing (refThing rb _) (rwalThing xb rb name L)).below P1.out ((Below.refl _ w1).drew)
    have HCw1 := Lib.hid (Pair.step1 (refThing _ _) (refThing rb a2) (rwalThing _ _ _ _) HBw1 (fun k hk => hS k (Nat.le_trans K1.out.size hk)) (X := fun e _ => e = .returned (.int .i64 0)) (fun T hT _ hq => HAPP.out T _ hq hT))
    clear HBw1
    go_wp2_with fail
    go_still_tail 9, (by kernel_rfl)
    change wpList _ _ _ _ _ w1.drew
    go_wp2_with fail
    refine HCw1.out.mono ?_
    rintro e w5 ⟨rfl, pw5, kw5⟩
    have P5 := Lib.hid pw5
    have K5 : Hid (Kept S w w5) := (K1.out.trans ((Kept.refl _ _).drewN 1 : Kept S w1 w1.drew)).trans kw5
    clear pw5 kw5
    obtain ⟨rv, hwx⟩ : RWalQ xb rb name L S w5 := Pair.snd (rwalThing _ _ _ _) P5.out
    obtain ⟨ra, rc, rfl⟩ := hwx.row.slice
    have W5 := Lib.hid hwx
    have x2 := hwx.c2
    have hlt5 := hwx.lt
    have HSRC := Lib.hid (HV.out.kept K5.out).src
    clear hwx
    go_wp2_with (at_builtin; go_loud (refine wpList_append_row rfl _ _ 35 rfl w5.heap.size 9 i0 (.string ⟨#[]⟩) 1 16 Tryz.underlying35 hi hz0 hz1 hz2 rfl (by decide) _ _ _ rfl (World.ownsRow_nil w5 _ _ _) _ l.length (cellsOf strC l) rfl HSRC.out (by simp [cellsOf]) (ones_str l) (by unfold maxLen; omega) (by omega) (Nat.le_refl _) ?_))
    intro v8 w8 ho hg hat
    obtain ⟨a8, c8, rfl⟩ := row_slice ho
    have hgx : w5.grownBy w8 (Value.slice ra L.length rc).ownBlock := ⟨hg.os, hg.tape, hg.output, hg.size, fun k hk _ => hg.block k hk (by simp [Value.ownBlock])⟩
    have y2 : w8.cell? ⟨xb, 2, none⟩ = some (.slice ra L.length rc) := (hgx.cell_far ⟨xb, 2, none⟩ hlt5 (fun e => W5.out.apart e.symm rfl)).trans x2
    have f2 : w8.frozen? ⟨xb, 2, none⟩ = false := (hgx.frozen_far ⟨xb, 2, none⟩ hlt5 (fun e => W5.out.apart e.symm rfl)).trans (W5.out.f 2)
    have HO8 := Lib.hid ho
    have HG8 := Lib.hid hgx
    have HAT := Lib.hid hat
    clear ho hg hat hgx HSRC
    go_wp2
    go_ret
    rw [hwr.out]
    refine ⟨rfl, ?_⟩
    have := Pair.upd2 (refThing _ _) (rwalThing _ _ _ _) (rwalThing xb rb name (l)) (w' := w8.setCell ⟨xb, 2, none⟩ (.slice a8 l.length c8)) P5.out (fun k hk => hS k (Nat.le_trans K5.out.size hk)) (fun T hT _ hq => by
      obtain ⟨rv', hq⟩ := hq
      have e1 : rv' = .slice ra L.length rc := by have := hq.c2.symm.trans W5.out.c2; simpa using this
      subst e1
      have hp := hq.push hT (Below.refl _ _) HG8.out (L' := l) (by have := Fr.ownsRow_mono HO8.out (Nat.zero_le _); simpa [cellsOf] using this) (fun g' hg' => by
        exact .inr (HO8.out.lt g' hg').1)
      exact ⟨⟨_, hp.1⟩, hp.2⟩)
    exact ⟨this.1, K5.out.trans this.2⟩
  · have hai : (a1 != 0) = true := by simpa using ha
    rw [if_neg ha] at hwr
    generalize otherS s (bs name) L l = R at *
    go_enter Tryz.func23, Tryz.ntmps23
    go_wp2_with fail
    refine hjoin.mono ?_
    rintro e w1 ⟨rfl, b1⟩
    have P1 := Lib.hid ((pairThing (refThing _ _) (rwalThing _ _ _ _)).below HP.out b1)
    have K1 : Hid (Kept S w w1) := Kept.of_below b1
    clear b1 hjoin
    obtain ⟨rvw1, hww1⟩ : RWalQ xb rb name L S w1 := Pair.snd (rwalThing _ _ _ _) P1.out
    have x0 := hww1.c0
    have x1 := hww1.c1
    clear hww1
    have HBw1 := (pairThing (refThing rb _) (rwalThing xb rb name L)).below P1.out ((Below.refl _ w1).drew)
    have HCw1 := Lib.hid (Pair.step1 (refThing _ _) (refThing rb a2) (rwalThing _ _ _ _) HBw1 (fun k hk => hS k (Nat.le_trans K1.out.size hk)) (X := fun e _ => e = .returned (.int .i64 a1)) (fun T hT _ hq => HAPP.out T _ hq hT))
    clear HBw1
    go_wp2_with fail
    go_still_tail 9, (by kernel_rfl)
    change wpList _ _ _ _ _ w1.drew
    go_wp2_with fail
    refine HCw1.out.mono ?_
    rintro e w3 ⟨rfl, pw3, kw3⟩
    have P3 := Lib.hid pw3
    have K3 : Hid (Kept S w w3) := (K1.out.trans ((Kept.refl _ _).drewN 1 : Kept S w1 w1.drew)).trans kw3
    clear pw3 kw3
    go_wp2
    go_ret
    rw [hwr.out]
    exact ⟨rfl, P3.out, K3.out⟩
end Go.Proofs.YtnffjoflkeagfaaGreat
