/- A journal's Open, Append, Rewrite. A journal's Append, Rewrite. -/
import Derived.Test.YtnffjoflkeagfaaGreatJ1
import Derived.Deep.RegionLaw
namespace Go.Proofs.YtnffjoflkeagfaaGreat
open Go.RowKit Go.Maps

section
variable {Q1 Q2 Q2' : (Nat → Prop) → World → Prop} {S : Nat → Prop} {w w' : World}
/-- the second is made anew, outside of a call -/
theorem Pair.upd2 (t1 : Thing Q1) (t2 : Thing Q2) (t2' : Thing Q2') (h : Pair Q1 Q2 S w) (hS : ∀ k, w.heap.size ≤ k → S k)
    (hc : ∀ T : Nat → Prop, (∀ k, w.heap.size ≤ k → T k) → (∀ k, T k → S k) → Q2 T w → Q2' T w' ∧ Kept T w w') : Pair Q1 Q2' S w' ∧ Kept S w w' := by
  obtain ⟨Sa, Sb, h1, h2, h3, h4, h5⟩ := h
  have hT : ∀ k, (Sb k ∨ w.heap.size ≤ k) → S k := fun k hk => hk.elim (fun h => (h5 k h).1) (hS k)
  obtain ⟨hq, hk⟩ := hc (fun k => Sb k ∨ w.heap.size ≤ k) (fun k hk => .inr hk) hT (t2.mono h2 (fun k _ hk => .inl hk))
  refine ⟨⟨Sa, _, t1.other h1 hk (fun k hlt ha hb => hb.elim (fun h => h3 k ha h) (fun h => by omega)), t2'.tight hq, fun k ha hb => hb.1.elim (fun h => h3 k ha h) (fun h => by have := (h4 k ha).2; omega),
    fun k ha => ⟨(h4 k ha).1, Nat.lt_of_lt_of_le (h4 k ha).2 hk.size⟩, fun k hb => ⟨hT k hb.1, hb.2⟩⟩, hk.mono (fun k _ => hT k)⟩
end
def RowQ (v : Value) (L : Recs) : (Nat → Prop) → World → Prop := fun S w => RowS S w v L
theorem rowThing (v : Value) (L : Recs) : Thing (RowQ v L) :=
  ⟨fun h hS => RowS.keep h (fun _ _ _ => rfl) hS, fun h => ⟨h.1, fun g hg => ⟨h.2 g hg, own_lt h.1 hg⟩⟩, fun h hk hS => RowS.keep h (fun g hg hl => hk.block g hl (hS g hl hg)) (fun _ _ hg => hg)⟩
def OpenQ (db : Nat) (name : ByteArray) (o : Option Recs) (s' : St) (pv : Value) (S : Nat → Prop) (w : World) : Prop :=
  match o with
  | none => pv = .pointer none ∧ DiskQ db s' S w
  | some L => ∃ wb, pv = ptrV wb ∧ Pair (DiskQ db s') (WalQ wb db name L) S w
theorem ret2p {v v' : Value} {c c' : Int} {z : IntKind} (h1 : v = v') (h2 : c = c') : Ending.returned (.tuple #[v, .int z c]) = .returned (.tuple #[v', .int z c']) := by rw [h1, h2]
/-- the journal is built -/
theorem wal_built {S : Nat → Prop} {w w2 : World} {db : Nat} {s : St} {name : ByteArray} {v : Value} {L : Recs} (h : Pair (DiskQ db s) (RowQ v L) S w) (hS : ∀ k, w.heap.size ≤ k → S k) (hb : Below w.heap.size w w2) :
    OpenQ db name (some L) s (ptrV w2.heap.size) S (w2.alloc (walO db name v)) ∧ Kept S w (w2.alloc (walO db name v)) := by
  have hp := Pair.upd2 (diskThing _ _) (rowThing _ _) (walThing w2.heap.size db name L) (w' := w2.alloc (walO db name v)) h hS (fun T hT _ hq => by
    have hb2 : Below w.heap.size w (w2.alloc (walO db name v)) := hb.alloc hb.size _
    exact ⟨⟨v, hT _ hb.size, heap_alloc_new w2 _, RowS.keep hq (fun g _ hl => hb2.block g hl) (fun _ _ hg => hg)⟩, Kept.of_below hb2⟩)
  exact ⟨⟨_, rfl, hp.1⟩, hp.2⟩
set_option maxHeartbeats 4000000 in
set_option maxRecDepth 100000 in
theorem Open_any {S : Nat → Prop} {w : World} {db : Nat} {s : St} (h : DiskAt S w db s) (hS : ∀ k, w.heap.size ≤ k → S k) (hm : Small s) (hu : usedF s.fs ≤ 1099511627776) (name : ByteArray) (hn : name.size ≤ 281474976710656) :
    Calls Tryz.prog 13 #[ptrV db, .string name] w fun e w' => ∃ pv, e = .returned (.tuple #[pv, .int .i64 (openS s (bs name)).2.1]) ∧ OpenQ db name (openS s (bs name)).1 (openS s (bs name)).2.2 pv S w' ∧ Kept S w w' := by
  have hrd := Read_any h name (by omega)
  have HD := Lib.hid h
  have hfit := h.fit
  have HM := Lib.hid hm
  clear h hm
  cases hd : s.down with
  | true =>
    rw [read_down hd] at hrd
    have HO : Hid (openS s (bs name) = (none, 41, s)) := by show _ = _; unfold openS; rw [if_pos hd]
    clear hd hfit
    generalize openS s (bs name) = R at *
    go_enter Tryz.func13, Tryz.ntmps13
    go_wp2_with fail
    refine hrd.mono ?_
    rintro e w1 ⟨rfl, b1⟩
    have D1 := Lib.hid (HD.out.below b1)
    have K1 : Hid (Kept S w w1) := Kept.of_below b1
    clear hrd b1
    go_wp2
    go_ret2
    rw [HO.out]
    exact ⟨_, rfl, ⟨rfl, D1.out⟩, K1.out⟩
  | false =>
    obtain ⟨e1, e2⟩ := read_up hd (bs name)
    have hopen : openS s (bs name) = cutsS s (bs name) (getF s.fs (bs name)).b := by unfold openS; rw [if_neg (by rw [hd]; simp)]
    have hlb : (getF s.fs (bs name)).b.length ≤ 1099511627776 := Nat.le_trans (get_le _ _) hu
    have hb2 : (mk (getF s.fs (bs name)).b).size = (getF s.fs (bs name)).b.length := mk_size _
    have hsc := fun w' => Fr.Scan_any (mk (getF s.fs (bs name)).b) w' (by rw [hb2]; exact hlb)
    have hbm : Fr.bs (mk (getF s.fs (bs name)).b) = (getF s.fs (bs name)).b := bs_mk _
    rw [hbm] at hsc
    obtain ⟨er, her⟩ : ∃ er, er = (readS s (bs name)).2 := ⟨_, rfl⟩
    rw [e1, ← her] at hrd
    rw [← her] at e2
    have hsl := Fr.scan_len (getF s.fs (bs name)).b
    have hsn := Fr.scanN_le (getF s.fs (bs name)).b
    have hcut : ∀ T w', DiskAt T w' db s → (∀ k, w'.heap.size ≤ k → T k) → _ := fun T w' hq hT => Cut_any hq hT HM.out name (Fr.scanN (getF s.fs (bs name)).b : Int) hn
    have HOP : Hid (openS s (bs name) = cutsS s (bs name) (getF s.fs (bs name)).b) := hopen
    have HCUT := Lib.hid hcut
    clear hfit e1 her hopen hbm hcut
    by_cases hl : Fr.scanN (getF s.fs (bs name)).b < (getF s.fs (bs name)).b.length
    · by_cases hc : (cutS s (bs name) (Fr.scanN (getF s.fs (bs name)).b : Int)).1 = 0
      · have HO : Hid (openS s (bs name) = (some (Fr.scanT (getF s.fs (bs name)).b), 0, (cutS s (bs name) (Fr.scanN (getF s.fs (bs name)).b : Int)).2)) := by show _ = _; rw [HOP.out]; unfold cutsS; rw [if_pos hl, if_pos hc]
        have HC0 := Lib.hid hc
        have hli : (Fr.scanN (getF s.fs (bs name)).b : Int) < ((getF s.fs (bs name)).b.length : Int) := by omega
        clear HOP hd hc
        generalize cutS s (bs name) (Fr.scanN (getF s.fs (bs name)).b : Int) = C at *
        generalize openS s (bs name) = R at *
        generalize (getF s.fs (bs name)).b = b at *
        generalize Fr.scanT b = T at *
        generalize Fr.scanN b = n at *
        go_enter Tryz.func13, Tryz.ntmps13
        go_wp2_with fail
        refine hrd.mono ?_
        rintro e w1 ⟨rfl, b1⟩
        have D1 := Lib.hid (HD.out.below b1)
        have K1 : Hid (Kept S w w1) := Kept.of_below b1
        clear hrd b1
        have hS1 : ∀ k, w1.heap.size ≤ k → S k := fun k hk => hS k (Nat.le_trans K1.out.size hk)
        have HS1 := Lib.hid hS1
        clear hS1
        rcases e2 with rfl | rfl
        all_goals
          go_wp2_with fail
          refine (hsc w1).mono ?_
          rintro e w2 ⟨v, rfl, ho, b2⟩
          obtain ⟨va, vc, rfl⟩ := row_slice ho
          have P2 : Hid (Pair (DiskQ db s) (RowQ (.slice va T.length vc) T) S w2) := Pair.of (diskThing _ _) (rowThing _ _) D1.out b2 ⟨Fr.ownsRow_mono ho (Nat.zero_le _), fun g hg => (ho.lt g hg).1⟩ HS1.out
          have K2 : Hid (Kept S w w2) := K1.out.trans (Kept.of_below b2)
          clear ho b2 hsc
          have HCL := Lib.hid (Pair.step1 (diskThing _ _) (diskThing db C.2) (rowThing _ _) P2.out (fun k hk => hS k (Nat.le_trans K2.out.size hk)) (X := fun e _ => e = .returned (.int .i64 C.1)) (fun T hT _ hq => HCUT.out T _ hq hT))
          rw [HC0.out] at HCL
          go_wp2_with fail
          refine HCL.out.mono ?_
          rintro e w3 ⟨rfl, p3, k3⟩
          have P3 := Lib.hid p3
          have K3 : Hid (Kept S w w3) := K2.out.trans k3
          have hS3 : ∀ k, w3.heap.size ≤ k → S k := fun k hk => hS k (Nat.le_trans K3.out.size hk)
          have HS3 := Lib.hid hS3
          clear p3 k3 hS3
          go_wp2_with fail
          refine (Fr.clone_any name _ hn).mono ?_
          rintro e w4 ⟨rfl, b4⟩
          have HB4 := Lib.hid b4
          clear b4
          go_wp2
          go_ret2
          rw [HO.out]
          have := wal_built (name := name) P3.out HS3.out HB4.out
          exact ⟨_, rfl, this.1, K3.out.trans this.2⟩
      · have HO : Hid (openS s (bs name) = (none, (cutS s (bs name) (Fr.scanN (getF s.fs (bs name)).b : Int)).1, (cutS s (bs name) (Fr.scanN (getF s.fs (bs name)).b : Int)).2)) := by show _ = _; rw [HOP.out]; unfold cutsS; rw [if_pos hl, if_neg hc]
        have hci : ((cutS s (bs name) (Fr.scanN (getF s.fs (bs name)).b : Int)).1 != 0) = true := by simpa using hc
        have hli : (Fr.scanN (getF s.fs (bs name)).b : Int) < ((getF s.fs (bs name)).b.length : Int) := by omega
        clear HOP hd hc
        generalize cutS s (bs name) (Fr.scanN (getF s.fs (bs name)).b : Int) = C at *
        generalize openS s (bs name) = R at *
        generalize (getF s.fs (bs name)).b = b at *
        generalize Fr.scanT b = T at *
        generalize Fr.scanN b = n at *
        obtain ⟨c1, c2⟩ := C
        go_enter Tryz.func13, Tryz.ntmps13
        go_wp2_with fail
        refine hrd.mono ?_
        rintro e w1 ⟨rfl, b1⟩
        have D1 := Lib.hid (HD.out.below b1)
        have K1 : Hid (Kept S w w1) := Kept.of_below b1
        clear hrd b1
        have hS1 : ∀ k, w1.heap.size ≤ k → S k := fun k hk => hS k (Nat.le_trans K1.out.size hk)
        have HS1 := Lib.hid hS1
        clear hS1
        rcases e2 with rfl | rfl
        all_goals
          go_wp2_with fail
          refine (hsc w1).mono ?_
          rintro e w2 ⟨v, rfl, ho, b2⟩
          obtain ⟨va, vc, rfl⟩ := row_slice ho
          have D2 := Lib.hid (D1.out.below b2)
          have K2 : Hid (Kept S w w2) := K1.out.trans (Kept.of_below b2)
          clear ho b2 hsc
          have HCL := Lib.hid (HCUT.out S w2 D2.out (fun k hk => hS k (Nat.le_trans K2.out.size hk)))
          go_wp2_with fail
          refine HCL.out.mono ?_
          rintro e w3 ⟨rfl, d3, k3⟩
          have D3 := Lib.hid d3
          have K3 : Hid (Kept S w w3) := K2.out.trans k3
          clear d3 k3
          go_wp2
          go_ret2
          rw [HO.out]
          exact ⟨_, rfl, ⟨rfl, D3.out⟩, K3.out⟩
    · have HO : Hid (openS s (bs name) = (some (Fr.scanT (getF s.fs (bs name)).b), 0, s)) := by show _ = _; rw [HOP.out]; unfold cutsS; rw [if_neg hl]
      have hli : ¬ (Fr.scanN (getF s.fs (bs name)).b : Int) < ((getF s.fs (bs name)).b.length : Int) := by omega
      clear HOP hd HCUT
      generalize openS s (bs name) = R at *
      generalize (getF s.fs (bs name)).b = b at *
      generalize Fr.scanT b = T at *
      generalize Fr.scanN b = n at *
      go_enter Tryz.func13, Tryz.ntmps13
      go_wp2_with fail
      refine hrd.mono ?_
      rintro e w1 ⟨rfl, b1⟩
      have D1 := Lib.hid (HD.out.below b1)
      have K1 : Hid (Kept S w w1) := Kept.of_below b1
      clear hrd b1
      have hS1 : ∀ k, w1.heap.size ≤ k → S k := fun k hk => hS k (Nat.le_trans K1.out.size hk)
      have HS1 := Lib.hid hS1
      clear hS1
      rcases e2 with rfl | rfl
      all_goals
        go_wp2_with fail
        refine (hsc w1).mono ?_
        rintro e w2 ⟨v, rfl, ho, b2⟩
        obtain ⟨va, vc, rfl⟩ := row_slice ho
        have P2 : Hid (Pair (DiskQ db s) (RowQ (.slice va T.length vc) T) S w2) := Pair.of (diskThing _ _) (rowThing _ _) D1.out b2 ⟨Fr.ownsRow_mono ho (Nat.zero_le _), fun g hg => (ho.lt g hg).1⟩ HS1.out
        have K2 : Hid (Kept S w w2) := K1.out.trans (Kept.of_below b2)
        have hS2 : ∀ k, w2.heap.size ≤ k → S k := fun k hk => hS k (Nat.le_trans K2.out.size hk)
        have HS2 := Lib.hid hS2
        clear ho b2 hsc hS2
        go_wp2_with fail
        refine (Fr.clone_any name _ hn).mono ?_
        rintro e w4 ⟨rfl, b4⟩
        have HB4 := Lib.hid b4
        clear b4
        go_wp2
        go_ret2
        rw [HO.out]
        have := wal_built (name := name) P2.out HS2.out HB4.out
        exact ⟨_, rfl, this.1, K2.out.trans this.2⟩
end Go.Proofs.YtnffjoflkeagfaaGreat
namespace Go.Proofs.YtnffjoflkeagfaaGreat
open Go.RowKit Go.Maps

theorem small_append {s : St} (hf : Fit s) (k b : List UInt8) (hk : k.length ≤ 9223372036854775807) : (appendS s k b).2.fs.length ≤ s.fs.length + 1 ∧ usedF (appendS s k b).2.fs ≤ usedF s.fs + b.length := by
  have := most_append ⟨Nat.le_refl _, Nat.le_refl _, hf.keys⟩ hf.sorted (b := b) hk
  exact ⟨this.count, this.bytes⟩
theorem joinB_small {l : Recs} (hall : ∀ c ∈ l, c.size ≤ 65536) (hl : l.length ≤ 1048576) : (Fr.joinB l).length ≤ 274877906944 := by
  have := Fr.joinB_le l hall; omega
set_option maxHeartbeats 4000000 in
set_option maxRecDepth 100000 in
theorem wAppend_none (v : Value) (wb : Value) (w : World) (hv : ∃ a c, v = .slice a 0 c) :
    Calls Tryz.prog 14 #[wb, v] w fun e w' => e = .returned (.int .i64 0) ∧ w = w' := by
  obtain ⟨a, c, rfl⟩ := hv
  go_enter Tryz.func14, Tryz.ntmps14
  go_wp2
  go_ret
  exact ⟨rfl, rfl⟩
set_option maxHeartbeats 4000000 in
set_option maxRecDepth 100000 in
theorem wAppend_any {S : Nat → Prop} {w : World} {wb db : Nat} {s : St} {name : ByteArray} {L : Recs} (h : Pair (DiskQ db s) (WalQ wb db name L) S w) (hS : ∀ k, w.heap.size ≤ k → S k) (hm : s.fs.length ≤ 1048576) (hu : usedF s.fs ≤ 274877906944)
    (hn : name.size ≤ 281474976710656) {v : Value} {l : Recs} (hv : TxtOff S w v l) (hall : ∀ c ∈ l, c.size ≤ 65536) (hl : l.length ≤ 1048576) (hL : L.length ≤ 1099511627776) (hne : l ≠ []) :
    Calls Tryz.prog 14 #[ptrV wb, v] w fun e w' => e = .returned (.int .i64 (writeS s (bs name) L l).1) ∧ Pair (DiskQ db (writeS s (bs name) L l).2.2) (WalQ wb db name (writeS s (bs name) L l).2.1) S w' ∧ Kept S w w' := by
  have hl0 : 0 < l.length := List.length_pos_iff.2 hne
  have hjoin := Fr.Join_any v l w (off_at hv.1) hl hall
  have hjs := joinB_small hall hl
  have hjm : (mk (Fr.joinB l)).size = (Fr.joinB l).length := mk_size _
  have hfit : Fit s := DiskAt.fit (Pair.fst (diskThing _ _) h : DiskAt S w db s)
  have hsm := small_append hfit (bs name) (Fr.joinB l) (by rw [bs_len]; omega)
  obtain ⟨va, vc, rfl⟩ := hv.slice
  have HV := Lib.hid hv
  have HP := Lib.hid h
  have HALL := Lib.hid hall
  have happ : ∀ T w', DiskAt T w' db s → (∀ k, w'.heap.size ≤ k → T k) → _ := fun T w' hq hT => Append_gen hq hT ⟨by omega, by omega⟩ name (mk (Fr.joinB l)) hn (by omega) (fun _ => by omega)
  rw [bs_mk] at happ
  have HAPP := Lib.hid happ
  have hwr : Hid (writeS s (bs name) L l = if (appendS s (bs name) (Fr.joinB l)).1 = 0 then
    if (syncS (appendS s (bs name) (Fr.joinB l)).2 (bs name)).1 = 0 then (0, L ++ l, (syncS (appendS s (bs name) (Fr.joinB l)).2 (bs name)).2) else ((syncS (appendS s (bs name) (Fr.joinB l)).2 (bs name)).1, L, (syncS (appendS s (bs name) (Fr.joinB l)).2 (bs name)).2)
    else ((appendS s (bs name) (Fr.joinB l)).1, L, (appendS s (bs name) (Fr.joinB l)).2)) := rfl
  clear happ hfit hall h hv
  generalize Fr.joinB l = J at *
  generalize appendS s (bs name) J = A at *
  obtain ⟨a1, a2⟩ := A
  simp only at hsm hwr
  by_cases ha : a1 = 0
  · subst ha
    have hsy : ∀ T w', DiskAt T w' db a2 → (∀ k, w'.heap.size ≤ k → T k) → _ := fun T w' hq hT => Sync_any hq hT ⟨by omega, by omega⟩ name hn
    have HSY := Lib.hid hsy
    clear hsy
    generalize syncS a2 (bs name) = Y at *
    obtain ⟨y1, y2⟩ := Y
    simp only [if_true] at hwr
    by_cases hy : y1 = 0
    · subst hy
      simp only [if_true] at hwr
      generalize writeS s (bs name) L l = R at *
      obtain ⟨i0, hi, hz0, hz1, hz2⟩ := info_parts info_str5
      go_enter Tryz.func14, Tryz.ntmps14
      go_wp2_with fail
      refine hjoin.mono ?_
      rintro e w1 ⟨rfl, b1⟩
      have P1 := Lib.hid ((pairThing (diskThing _ _) (walThing _ _ _ _)).below HP.out b1)
      have K1 : Hid (Kept S w w1) := Kept.of_below b1
      clear b1 hjoin
      go_wp2_with fail
      refine (file_any (Pair.snd (walThing _ _ _ _) P1.out)).mono ?_
      rintro e w2 ⟨rfl, q, hq⟩
      have hb2 : Below w1.heap.size w1 w2 := by rw [hq]; exact below_drewN (Below.refl _ _) q
      have P2 := Lib.hid ((pairThing (diskThing _ _) (walThing _ _ _ _)).below P1.out hb2)
      have K2 : Hid (Kept S w w2) := K1.out.trans (Kept.of_below hb2)
      clear hb2 hq
      go_wp2_with fail
      refine (Pair.step1 (diskThing _ _) (diskThing db a2) (walThing _ _ _ _) P2.out (fun k hk => hS k (Nat.le_trans K2.out.size hk)) (X := fun e _ => e = .returned (.int .i64 0)) (fun T hT _ hq => HAPP.out T _ hq hT)).mono ?_
      rintro e w3 ⟨rfl, p3, k3⟩
      have P3 := Lib.hid p3
      have K3 : Hid (Kept S w w3) := K2.out.trans k3
      clear p3 k3
      go_wp2_with fail
      refine (Pair.step1 (diskThing _ _) (diskThing db y2) (walThing _ _ _ _) P3.out (fun k hk => hS k (Nat.le_trans K3.out.size hk)) (X := fun e _ => e = .returned (.int .i64 0)) (fun T hT _ hq => HSY.out T _ hq hT)).mono ?_
      rintro e w5 ⟨rfl, p5, k5⟩
      have P5 := Lib.hid p5
      have K5 : Hid (Kept S w w5) := K3.out.trans k5
      clear p5 k5
      have hq5 : WalQ wb db name L S w5 := Pair.snd (walThing _ _ _ _) P5.out
      obtain ⟨rv, hw5⟩ := hq5
      obtain ⟨ra, rc, rfl⟩ := hw5.row.slice
      have c2 := hw5.c2
      have W5 := Lib.hid hw5
      have hlt5 := hw5.lt
      have hcp : ∀ w', Below w5.heap.size w5 w' → Calls Tryz.prog 36 #[.slice va l.length vc] w' fun e w'' => ∃ B, e = .returned (.slice (some ⟨B, 0, none⟩) l.length l.length) ∧ (∀ j u, (cellsOf strC l)[j]? = some u → w''.cell? ((⟨B, 0, none⟩ : Addr).add j) = some u) ∧ Below w5.heap.size w5 w'' ∧ w''.cell? ⟨wb, 2, none⟩ = some (.slice ra L.length rc) ∧ w''.ownsRow 0 9 1 (.slice ra L.length rc) L.length (cellsOf strC L) ∧ (∀ j, w''.frozen? ⟨wb, j, none⟩ = false) := by
        intro w' hb'
        refine (copies_any ((HV.out.kept K5.out).below hb') hl (fun c hc => Nat.le_trans (HALL.out c hc) (by decide))).mono ?_
        rintro e w'' ⟨rfl, ho, hb''⟩
        have hb := hb'.trans (hb''.mono hb'.size)
        exact ⟨_, rfl, ho.cells rfl, hb, (hb.cell (p := ⟨wb, 2, none⟩) hlt5).trans W5.out.c2, own_keep W5.out.row.1 (fun g hg => hb.block g (own_lt W5.out.row.1 hg)), fun j => by rw [World.frozen?_of_block (a := ⟨wb, j, none⟩) (hb.block wb hlt5)]; exact W5.out.f j⟩
      have HCP := Lib.hid hcp
      clear hcp hw5
      go_wp2_with fail
      go_region_law (first
        | (go_simp; go_at_call 36; refine (HCP.out _ ((Below.refl _ _).drew)).mono ?_; rintro e w6 ⟨B, rfl, hn6, hb6, cc6, ho6, hf6⟩; have ff6 := hf6 2; have HN6 := Lib.hid hn6; have HB6 := Lib.hid hb6; have HO6 := Lib.hid ho6; clear hn6 hb6 ho6 hf6)
        | (refine step_append_lies _ rfl (.tmp 44) (.tmp 46) 35 rfl 0 9 i0 (.string ⟨#[]⟩) 1 16 Tryz.underlying35 hi hz0 hz1 hz2 rfl (by decide) _ L.length (cellsOf strC L) rfl HO6.out ⟨B, 0, none⟩ l.length l.length (cellsOf strC l) rfl (by simp [cellsOf]) HN6.out (ones_str l) hl0 (by unfold maxLen; omega) (by omega) (Nat.zero_le _) w6.heap.size rfl ?_; intro g cap w7 ho7 hg7 hl7 hlt7; have cc7 : w7.cell? ⟨wb, 2, none⟩ = some (.slice ra L.length rc) := (hg7.cell_far ⟨wb, 2, none⟩ (Nat.lt_of_lt_of_le hlt5 HB6.out.size) (fun e => W5.out.apart e.symm rfl)).trans cc6; have ff7 : w7.frozen? ⟨wb, 2, none⟩ = false := (hg7.frozen_far ⟨wb, 2, none⟩ (Nat.lt_of_lt_of_le hlt5 HB6.out.size) (fun e => W5.out.apart e.symm rfl)).trans ff6; have HO7 := Lib.hid ho7; have HG7 := Lib.hid hg7; have HL7 := Lib.hid hl7; clear ho7 hg7 hl7 hlt7))
      all_goals
        go_wp2
        go_ret
        rw [hwr.out]
        refine ⟨rfl, ?_⟩
        have := Pair.upd2 (diskThing _ _) (walThing _ _ _ _) (walThing wb db name (L ++ l)) (w' := w7.setCell ⟨wb, 2, none⟩ (.slice (some ⟨g, 0, none⟩) (L.length + l.length) cap)) P5.out (fun k hk => hS k (Nat.le_trans K5.out.size hk)) (fun T hT _ hq => by
          obtain ⟨rv', hq⟩ := hq
          have e1 : rv' = .slice ra L.length rc := by have := hq.c2.symm.trans W5.out.c2; simpa using this
          subst e1
          have hp := hq.push hT HB6.out HG7.out (L' := L ++ l) (by have := HO7.out; simpa [cellsOf] using this) (fun g' hg' => by
            have e2 : g = g' := by simpa [Value.ownBlock] using hg'
            subst e2
            exact HL7.out.imp id (fun e => by rw [e]; exact HB6.out.size))
          exact ⟨⟨_, hp.1⟩, hp.2⟩)
        exact ⟨this.1, K5.out.trans this.2⟩
    · have hyi : (y1 != 0) = true := by simpa using hy
      rw [if_neg hy] at hwr
      generalize writeS s (bs name) L l = R at *
      go_enter Tryz.func14, Tryz.ntmps14
      go_wp2_with fail
      refine hjoin.mono ?_
      rintro e w1 ⟨rfl, b1⟩
      have P1 := Lib.hid ((pairThing (diskThing _ _) (walThing _ _ _ _)).below HP.out b1)
      have K1 : Hid (Kept S w w1) := Kept.of_below b1
      clear b1 hjoin
      go_wp2_with fail
      refine (file_any (Pair.snd (walThing _ _ _ _) P1.out)).mono ?_
      rintro e w2 ⟨rfl, q, hq⟩
      have hb2 : Below w1.heap.size w1 w2 := by rw [hq]; exact below_drewN (Below.refl _ _) q
      have P2 := Lib.hid ((pairThing (diskThing _ _) (walThing _ _ _ _)).below P1.out hb2)
      have K2 : Hid (Kept S w w2) := K1.out.trans (Kept.of_below hb2)
      clear hb2 hq
      go_wp2_with fail
      refine (Pair.step1 (diskThing _ _) (diskThing db a2) (walThing _ _ _ _) P2.out (fun k hk => hS k (Nat.le_trans K2.out.size hk)) (X := fun e _ => e = .returned (.int .i64 0)) (fun T hT _ hq => HAPP.out T _ hq hT)).mono ?_
      rintro e w3 ⟨rfl, p3, k3⟩
      have P3 := Lib.hid p3
      have K3 : Hid (Kept S w w3) := K2.out.trans k3
      clear p3 k3
      go_wp2_with fail
      refine (Pair.step1 (diskThing _ _) (diskThing db y2) (walThing _ _ _ _) P3.out (fun k hk => hS k (Nat.le_trans K3.out.size hk)) (X := fun e _ => e = .returned (.int .i64 y1)) (fun T hT _ hq => HSY.out T _ hq hT)).mono ?_
      rintro e w5 ⟨rfl, p5, k5⟩
      have P5 := Lib.hid p5
      have K5 : Hid (Kept S w w5) := K3.out.trans k5
      clear p5 k5
      go_wp2
      go_ret
      rw [hwr.out]
      exact ⟨rfl, P5.out, K5.out⟩
  · have hai : (a1 != 0) = true := by simpa using ha
    rw [if_neg ha] at hwr
    generalize writeS s (bs name) L l = R at *
    go_enter Tryz.func14, Tryz.ntmps14
    go_wp2_with fail
    refine hjoin.mono ?_
    rintro e w1 ⟨rfl, b1⟩
    have P1 := Lib.hid ((pairThing (diskThing _ _) (walThing _ _ _ _)).below HP.out b1)
    have K1 : Hid (Kept S w w1) := Kept.of_below b1
    clear b1 hjoin
    go_wp2_with fail
    refine (file_any (Pair.snd (walThing _ _ _ _) P1.out)).mono ?_
    rintro e w2 ⟨rfl, q, hq⟩
    have hb2 : Below w1.heap.size w1 w2 := by rw [hq]; exact below_drewN (Below.refl _ _) q
    have P2 := Lib.hid ((pairThing (diskThing _ _) (walThing _ _ _ _)).below P1.out hb2)
    have K2 : Hid (Kept S w w2) := K1.out.trans (Kept.of_below hb2)
    clear hb2 hq
    go_wp2_with fail
    refine (Pair.step1 (diskThing _ _) (diskThing db a2) (walThing _ _ _ _) P2.out (fun k hk => hS k (Nat.le_trans K2.out.size hk)) (X := fun e _ => e = .returned (.int .i64 a1)) (fun T hT _ hq => HAPP.out T _ hq hT)).mono ?_
    rintro e w3 ⟨rfl, p3, k3⟩
    have P3 := Lib.hid p3
    have K3 : Hid (Kept S w w3) := K2.out.trans k3
    clear p3 k3
    go_wp2
    go_ret
    rw [hwr.out]
    exact ⟨rfl, P3.out, K3.out⟩
set_option maxHeartbeats 4000000 in
set_option maxRecDepth 100000 in
theorem wRewrite_any {S : Nat → Prop} {w : World} {wb db : Nat} {s : St} {name : ByteArray} {L : Recs} (h : Pair (DiskQ db s) (WalQ wb db name L) S w) (hS : ∀ k, w.heap.size ≤ k → S k) (hm : s.fs.length ≤ 1048576) (hu : usedF s.fs ≤ 274877906944)
    (hn : name.size ≤ 281474976710656) {v : Value} {l : Recs} (hv : TxtOff S w v l) (hall : ∀ c ∈ l, c.size ≤ 65536) (hl : l.length ≤ 1048576) :
    Calls Tryz.prog 22 #[ptrV wb, v] w fun e w' => e = .returned (.int .i64 (otherS s (bs name) L l).1) ∧ Pair (DiskQ db (otherS s (bs name) L l).2.2) (WalQ wb db name (otherS s (bs name) L l).2.1) S w' ∧ Kept S w w' := by
  have hjoin := Fr.Join_any v l w (off_at hv.1) hl hall
  have hjs := joinB_small hall hl
  have hjm : (mk (Fr.joinB l)).size = (Fr.joinB l).length := mk_size _
  obtain ⟨va, vc, rfl⟩ := hv.slice
  have HV := Lib.hid hv
  have HP := Lib.hid h
  have HALL := Lib.hid hall
  have happ : ∀ T w', DiskAt T w' db s → (∀ k, w'.heap.size ≤ k → T k) → _ := fun T w' hq hT => Replace_any hq hT ⟨by omega, by omega⟩ name (mk (Fr.joinB l)) hn (by omega)
  rw [bs_mk] at happ
  have HAPP := Lib.hid happ
  have hwr : Hid (otherS s (bs name) L l = if (replaceS s (bs name) (Fr.joinB l)).1 = 0 then (0, l, (replaceS s (bs name) (Fr.joinB l)).2) else ((replaceS s (bs name) (Fr.joinB l)).1, L, (replaceS s (bs name) (Fr.joinB l)).2)) := rfl
  clear happ hall h hv
  generalize Fr.joinB l = J at *
  generalize replaceS s (bs name) J = A at *
  obtain ⟨a1, a2⟩ := A
  simp only at hwr
  by_cases ha : a1 = 0
  · subst ha
    simp only [if_true] at hwr
    generalize otherS s (bs name) L l = R at *
    go_enter Tryz.func22, Tryz.ntmps22
    go_wp2_with fail
    refine hjoin.mono ?_
    rintro e w1 ⟨rfl, b1⟩
    have P1 := Lib.hid ((pairThing (diskThing _ _) (walThing _ _ _ _)).below HP.out b1)
    have K1 : Hid (Kept S w w1) := Kept.of_below b1
    clear b1 hjoin
    go_wp2_with fail
    refine (file_any (Pair.snd (walThing _ _ _ _) P1.out)).mono ?_
    rintro e w2 ⟨rfl, q, hq⟩
    have hb2 : Below w1.heap.size w1 w2 := by rw [hq]; exact below_drewN (Below.refl _ _) q
    have P2 := Lib.hid ((pairThing (diskThing _ _) (walThing _ _ _ _)).below P1.out hb2)
    have K2 : Hid (Kept S w w2) := K1.out.trans (Kept.of_below hb2)
    clear hb2 hq
    go_wp2_with fail
    refine (Pair.step1 (diskThing _ _) (diskThing db a2) (walThing _ _ _ _) P2.out (fun k hk => hS k (Nat.le_trans K2.out.size hk)) (X := fun e _ => e = .returned (.int .i64 0)) (fun T hT _ hq => HAPP.out T _ hq hT)).mono ?_
    rintro e w5 ⟨rfl, p5, k5⟩
    have P5 := Lib.hid p5
    have K5 : Hid (Kept S w w5) := K2.out.trans k5
    clear p5 k5
    have hq5 : WalQ wb db name L S w5 := Pair.snd (walThing _ _ _ _) P5.out
    obtain ⟨rv, hw5⟩ := hq5
    have W5 := Lib.hid hw5
    have hlt5 := hw5.lt
    have hcp := copies_any (HV.out.kept K5.out) hl (fun c hc => Nat.le_trans (HALL.out c hc) (by decide))
    clear hw5
    go_wp2_with fail
    refine hcp.mono ?_
    rintro e w6 ⟨rfl, ho6, hb6⟩
    have cc6 : w6.cell? ⟨wb, 2, none⟩ = some rv := (hb6.cell (p := ⟨wb, 2, none⟩) hlt5).trans W5.out.c2
    have ff6 : w6.frozen? ⟨wb, 2, none⟩ = false := by rw [World.frozen?_of_block (a := ⟨wb, 2, none⟩) (hb6.block wb hlt5)]; exact W5.out.f 2
    have HO6 := Lib.hid ho6
    have HB6 := Lib.hid hb6
    clear ho6 hb6 hcp
    go_wp2
    go_ret
    rw [hwr.out]
    refine ⟨rfl, ?_⟩
    have := Pair.upd2 (diskThing _ _) (walThing _ _ _ _) (walThing wb db name l) (w' := w6.setCell ⟨wb, 2, none⟩ (.slice (some ⟨w5.heap.size, 0, none⟩) l.length l.length)) P5.out (fun k hk => hS k (Nat.le_trans K5.out.size hk)) (fun T hT _ hq => by
      obtain ⟨rv', hq⟩ := hq
      have hp := hq.push hT HB6.out (⟨rfl, rfl, rfl, Nat.le_refl _, fun _ _ _ => rfl⟩ : w6.grownBy w6 _) (L' := l) (Fr.ownsRow_mono HO6.out (Nat.zero_le _)) (fun g' hg' => by
        have e2 : w5.heap.size = g' := by simpa [Value.ownBlock] using hg'
        exact .inr (by omega))
      exact ⟨⟨_, hp.1⟩, hp.2⟩)
    exact ⟨this.1, K5.out.trans this.2⟩
  · have hai : (a1 != 0) = true := by simpa using ha
    rw [if_neg ha] at hwr
    generalize otherS s (bs name) L l = R at *
    go_enter Tryz.func22, Tryz.ntmps22
    go_wp2_with fail
    refine hjoin.mono ?_
    rintro e w1 ⟨rfl, b1⟩
    have P1 := Lib.hid ((pairThing (diskThing _ _) (walThing _ _ _ _)).below HP.out b1)
    have K1 : Hid (Kept S w w1) := Kept.of_below b1
    clear b1 hjoin
    go_wp2_with fail
    refine (file_any (Pair.snd (walThing _ _ _ _) P1.out)).mono ?_
    rintro e w2 ⟨rfl, q, hq⟩
    have hb2 : Below w1.heap.size w1 w2 := by rw [hq]; exact below_drewN (Below.refl _ _) q
    have P2 := Lib.hid ((pairThing (diskThing _ _) (walThing _ _ _ _)).below P1.out hb2)
    have K2 : Hid (Kept S w w2) := K1.out.trans (Kept.of_below hb2)
    clear hb2 hq
    go_wp2_with fail
    refine (Pair.step1 (diskThing _ _) (diskThing db a2) (walThing _ _ _ _) P2.out (fun k hk => hS k (Nat.le_trans K2.out.size hk)) (X := fun e _ => e = .returned (.int .i64 a1)) (fun T hT _ hq => HAPP.out T _ hq hT)).mono ?_
    rintro e w3 ⟨rfl, p3, k3⟩
    have P3 := Lib.hid p3
    have K3 : Hid (Kept S w w3) := K2.out.trans k3
    clear p3 k3
    go_wp2
    go_ret
    rw [hwr.out]
    exact ⟨rfl, P3.out, K3.out⟩
end Go.Proofs.YtnffjoflkeagfaaGreat
