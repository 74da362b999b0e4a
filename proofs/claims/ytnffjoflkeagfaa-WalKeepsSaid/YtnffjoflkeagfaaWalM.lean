/- A journal's Open, Append, Rewrite. -/
import Derived.Test.YtnffjoflkeagfaaWal
namespace Go.Proofs.Ytnffjoflkeagfaa
open Go.RowKit Go.Maps

section
variable {Q1 Q2 Q2' : (Nat → Prop) → World → Prop} {S : Nat → Prop} {w w' : World}
/-- the second is made anew, outside of a call -/
theorem Pair.upd2 (t1 : Thing Q1) (t2 : Thing Q2) (t2' : Thing Q2') (h : Pair Q1 Q2 S w) (hS : ∀ k, w.heap.size ≤ k → S k)
    (hc : ∀ T : Nat → Prop, (∀ k, w.heap.size ≤ k → T k) → (∀ k, T k → S k) → Q2 T w → Q2' T w' ∧ Kept T w w') : Pair Q1 Q2' S w' ∧ Kept S w w' := by
  obtain ⟨Sa, Sb, h1, h2, h3, h4, h5⟩ := h
  have hT : ∀ k, (Sb k ∨ w.heap.size ≤ k) → S k := fun k hk => hk.elim (fun h => (h5 k h).1) (hS k)
  obtain ⟨hq, hk⟩ := hc (fun k => Sb k ∨ w.heap.size ≤ k) (fun k hk => .inr hk) hT (t2.mono h2 (fun k _ hk => .inl hk))
  refine ⟨⟨Sa, _, t1.other h1 hk (fun k hlt ha hb => hb.elim (fun h => h3 k ha h) (fun h => by omega)), t2'.tight hq, fun k ha hb => hb.1.elim (fun h => h3 k ha h) (fun h => by have := (h4 k ha).2; omega),
    fun k ha => ⟨(h4 k ha).1, Nat.lt_of_lt_of_le (h4 k ha).2 hk.size⟩, fun k hb => ⟨hT k hb.1, hb.2⟩⟩, hk.mono (fun k _ => hT k)⟩
end
def RowQ (v : Value) (L : Recs) : (Nat → Prop) → World → Prop := fun S w => RowS S w v L
theorem rowThing (v : Value) (L : Recs) : Thing (RowQ v L) :=
  ⟨fun h hS => RowS.keep h (fun _ _ _ => rfl) hS, fun h => ⟨h.1, fun g hg => ⟨h.2 g hg, own_lt h.1 hg⟩⟩, fun h hk hS => RowS.keep h (fun g hg hl => hk.block g hl (hS g hl hg)) (fun _ _ hg => hg)⟩
def OpenQ (db : Nat) (name : ByteArray) (o : Option Recs) (s' : St) (pv : Value) (S : Nat → Prop) (w : World) : Prop :=
  match o with
  | none => pv = .pointer none ∧ DiskQ db s' S w
  | some L => ∃ wb, pv = ptrV wb ∧ Pair (DiskQ db s') (WalQ wb db name L) S w
theorem ret2p {v v' : Value} {c c' : Int} {z : IntKind} (h1 : v = v') (h2 : c = c') : Ending.returned (.tuple #[v, .int z c]) = .returned (.tuple #[v', .int z c']) := by rw [h1, h2]
/-- the journal is built -/
theorem wal_built {S : Nat → Prop} {w w2 : World} {db : Nat} {s : St} {name : ByteArray} {v : Value} {L : Recs} (h : Pair (DiskQ db s) (RowQ v L) S w) (hS : ∀ k, w.heap.size ≤ k → S k) (hb : Below w.heap.size w w2) :
    OpenQ db name (some L) s (ptrV w2.heap.size) S (w2.alloc (walO db name v)) ∧ Kept S w (w2.alloc (walO db name v)) := by
  have hp := Pair.upd2 (diskThing _ _) (rowThing _ _) (walThing w2.heap.size db name L) (w' := w2.alloc (walO db name v)) h hS (fun T hT _ hq => by
    have hb2 : Below w.heap.size w (w2.alloc (walO db name v)) := hb.alloc hb.size _
    exact ⟨⟨v, hT _ hb.size, heap_alloc_new w2 _, RowS.keep hq (fun g _ hl => hb2.block g hl) (fun _ _ hg => hg)⟩, Kept.of_below hb2⟩)
  exact ⟨⟨_, rfl, hp.1⟩, hp.2⟩
set_option maxHeartbeats 4000000 in
set_option maxRecDepth 100000 in
theorem Open_any {S : Nat → Prop} {w : World} {db : Nat} {s : St} (h : DiskAt S w db s) (hS : ∀ k, w.heap.size ≤ k → S k) (hm : Small s) (hu : usedF s.fs ≤ 1099511627776) (name : ByteArray) (hn : name.size ≤ 281474976710656) :
    Calls Try.prog 25 #[ptrV db, .string name] w fun e w' => ∃ pv, e = .returned (.tuple #[pv, .int .i64 (openS s (bs name)).2.1]) ∧ OpenQ db name (openS s (bs name)).1 (openS s (bs name)).2.2 pv S w' ∧ Kept S w w' := by
  have hrd := Read_any h name (by omega)
  have HD := Lib.hid h
  have hfit := h.fit
  have HM := Lib.hid hm
  clear h hm
  cases hd : s.down with
  | true =>
    rw [read_down hd] at hrd
    have HO : Hid (openS s (bs name) = (none, 41, s)) := by show _ = _; unfold openS; rw [if_pos hd]
    clear hd hfit
    generalize openS s (bs name) = R at *
    go_enter Try.func25, Try.ntmps25
    go_wp2_with fail
    refine hrd.mono ?_
    rintro e w1 ⟨rfl, b1⟩
    have D1 := Lib.hid (HD.out.below b1)
    have K1 : Hid (Kept S w w1) := Kept.of_below b1
    clear hrd b1
    go_wp2
    go_ret2
    rw [HO.out]
    exact ⟨_, rfl, ⟨rfl, D1.out⟩, K1.out⟩
  | false =>
    obtain ⟨e1, e2⟩ := read_up hd (bs name)
    have hopen : openS s (bs name) = cutsS s (bs name) (getF s.fs (bs name)).b := by unfold openS; rw [if_neg (by rw [hd]; simp)]
    have hlb : (getF s.fs (bs name)).b.length ≤ 1099511627776 := Nat.le_trans (get_le _ _) hu
    have hb2 : (mk (getF s.fs (bs name)).b).size = (getF s.fs (bs name)).b.length := mk_size _
    have hsc := fun w' => Fr.Scan_any (mk (getF s.fs (bs name)).b) w' (by rw [hb2]; exact hlb)
    have hbm : Fr.bs (mk (getF s.fs (bs name)).b) = (getF s.fs (bs name)).b := bs_mk _
    rw [hbm] at hsc
    obtain ⟨er, her⟩ : ∃ er, er = (readS s (bs name)).2 := ⟨_, rfl⟩
    rw [e1, ← her] at hrd
    rw [← her] at e2
    have hsl := Fr.scan_len (getF s.fs (bs name)).b
    have hsn := Fr.scanN_le (getF s.fs (bs name)).b
    have hcut : ∀ T w', DiskAt T w' db s → (∀ k, w'.heap.size ≤ k → T k) → _ := fun T w' hq hT => Cut_any hq hT HM.out name (Fr.scanN (getF s.fs (bs name)).b : Int) hn
    have HOP : Hid (openS s (bs name) = cutsS s (bs name) (getF s.fs (bs name)).b) := hopen
    have HCUT := Lib.hid hcut
    clear hfit e1 her hopen hbm hcut
    by_cases hl : Fr.scanN (getF s.fs (bs name)).b < (getF s.fs (bs name)).b.length
    · by_cases hc : (cutS s (bs name) (Fr.scanN (getF s.fs (bs name)).b : Int)).1 = 0
      · have HO : Hid (openS s (bs name) = (some (Fr.scanT (getF s.fs (bs name)).b), 0, (cutS s (bs name) (Fr.scanN (getF s.fs (bs name)).b : Int)).2)) := by show _ = _; rw [HOP.out]; unfold cutsS; rw [if_pos hl, if_pos hc]
        have HC0 := Lib.hid hc
        have hli : (Fr.scanN (getF s.fs (bs name)).b : Int) < ((getF s.fs (bs name)).b.length : Int) := by omega
        clear HOP hd hc
        generalize cutS s (bs name) (Fr.scanN (getF s.fs (bs name)).b : Int) = C at *
        generalize openS s (bs name) = R at *
        generalize (getF s.fs (bs name)).b = b at *
        generalize Fr.scanT b = T at *
        generalize Fr.scanN b = n at *
        go_enter Try.func25, Try.ntmps25
        go_wp2_with fail
        refine hrd.mono ?_
        rintro e w1 ⟨rfl, b1⟩
        have D1 := Lib.hid (HD.out.below b1)
        have K1 : Hid (Kept S w w1) := Kept.of_below b1
        clear hrd b1
        have hS1 : ∀ k, w1.heap.size ≤ k → S k := fun k hk => hS k (Nat.le_trans K1.out.size hk)
        have HS1 := Lib.hid hS1
        clear hS1
        rcases e2 with rfl | rfl
        all_goals
          go_wp2_with fail
          refine (hsc w1).mono ?_
          rintro e w2 ⟨v, rfl, ho, b2⟩
          obtain ⟨va, vc, rfl⟩ := row_slice ho
          have P2 : Hid (Pair (DiskQ db s) (RowQ (.slice va T.length vc) T) S w2) := Pair.of (diskThing _ _) (rowThing _ _) D1.out b2 ⟨Fr.ownsRow_mono ho (Nat.zero_le _), fun g hg => (ho.lt g hg).1⟩ HS1.out
          have K2 : Hid (Kept S w w2) := K1.out.trans (Kept.of_below b2)
          clear ho b2 hsc
          have HCL := Lib.hid (Pair.step1 (diskThing _ _) (diskThing db C.2) (rowThing _ _) P2.out (fun k hk => hS k (Nat.le_trans K2.out.size hk)) (X := fun e _ => e = .returned (.int .i64 C.1)) (fun T hT _ hq => HCUT.out T _ hq hT))
          rw [HC0.out] at HCL
          go_wp2_with fail
          refine HCL.out.mono ?_
          rintro e w3 ⟨rfl, p3, k3⟩
          have P3 := Lib.hid p3
          have K3 : Hid (Kept S w w3) := K2.out.trans k3
          have hS3 : ∀ k, w3.heap.size ≤ k → S k := fun k hk => hS k (Nat.le_trans K3.out.size hk)
          have HS3 := Lib.hid hS3
          clear p3 k3 hS3
          go_wp2_with fail
          refine (Fr.clone_any name _ hn).mono ?_
          rintro e w4 ⟨rfl, b4⟩
          have HB4 := Lib.hid b4
          clear b4
          go_wp2
          go_ret2
          rw [HO.out]
          have := wal_built (name := name) P3.out HS3.out HB4.out
          exact ⟨_, rfl, this.1, K3.out.trans this.2⟩
      · have HO : Hid (openS s (bs name) = (none, (cutS s (bs name) (Fr.scanN (getF s.fs (bs name)).b : Int)).1, (cutS s (bs name) (Fr.scanN (getF s.fs (bs name)).b : Int)).2)) := by show _ = _; rw [HOP.out]; unfold cutsS; rw [if_pos hl, if_neg hc]
        have hci : ((cutS s (bs name) (Fr.scanN (getF s.fs (bs name)).b : Int)).1 != 0) = true := by simpa using hc
        have hli : (Fr.scanN (getF s.fs (bs name)).b : Int) < ((getF s.fs (bs name)).b.length : Int) := by omega
        clear HOP hd hc
        generalize cutS s (bs name) (Fr.scanN (getF s.fs (bs name)).b : Int) = C at *
        generalize openS s (bs name) = R at *
        generalize (getF s.fs (bs name)).b = b at *
        generalize Fr.scanT b = T at *
        generalize Fr.scanN b = n at *
        obtain ⟨c1, c2⟩ := C
        go_enter Try.func25, Try.ntmps25
        go_wp2_with fail
        refine hrd.mono ?_
        rintro e w1 ⟨rfl, b1⟩
        have D1 := Lib.hid (HD.out.below b1)
        have K1 : Hid (Kept S w w1) := Kept.of_below b1
        clear hrd b1
        have hS1 : ∀ k, w1.heap.size ≤ k → S k := fun k hk => hS k (Nat.le_trans K1.out.size hk)
        have HS1 := Lib.hid hS1
        clear hS1
        rcases e2 with rfl | rfl
        all_goals
          go_wp2_with fail
          refine (hsc w1).mono ?_
          rintro e w2 ⟨v, rfl, ho, b2⟩
          obtain ⟨va, vc, rfl⟩ := row_slice ho
          have D2 := Lib.hid (D1.out.below b2)
          have K2 : Hid (Kept S w w2) := K1.out.trans (Kept.of_below b2)
          clear ho b2 hsc
          have HCL := Lib.hid (HCUT.out S w2 D2.out (fun k hk => hS k (Nat.le_trans K2.out.size hk)))
          go_wp2_with fail
          refine HCL.out.mono ?_
          rintro e w3 ⟨rfl, d3, k3⟩
          have D3 := Lib.hid d3
          have K3 : Hid (Kept S w w3) := K2.out.trans k3
          clear d3 k3
          go_wp2
          go_ret2
          rw [HO.out]
          exact ⟨_, rfl, ⟨rfl, D3.out⟩, K3.out⟩
    · have HO : Hid (openS s (bs name) = (some (Fr.scanT (getF s.fs (bs name)).b), 0, s)) := by show _ = _; rw [HOP.out]; unfold cutsS; rw [if_neg hl]
      have hli : ¬ (Fr.scanN (getF s.fs (bs name)).b : Int) < ((getF s.fs (bs name)).b.length : Int) := by omega
      clear HOP hd HCUT
      generalize openS s (bs name) = R at *
      generalize (getF s.fs (bs name)).b = b at *
      generalize Fr.scanT b = T at *
      generalize Fr.scanN b = n at *
      go_enter Try.func25, Try.ntmps25
      go_wp2_with fail
      refine hrd.mono ?_
      rintro e w1 ⟨rfl, b1⟩
      have D1 := Lib.hid (HD.out.below b1)
      have K1 : Hid (Kept S w w1) := Kept.of_below b1
      clear hrd b1
      have hS1 : ∀ k, w1.heap.size ≤ k → S k := fun k hk => hS k (Nat.le_trans K1.out.size hk)
      have HS1 := Lib.hid hS1
      clear hS1
      rcases e2 with rfl | rfl
      all_goals
        go_wp2_with fail
        refine (hsc w1).mono ?_
        rintro e w2 ⟨v, rfl, ho, b2⟩
        obtain ⟨va, vc, rfl⟩ := row_slice ho
        have P2 : Hid (Pair (DiskQ db s) (RowQ (.slice va T.length vc) T) S w2) := Pair.of (diskThing _ _) (rowThing _ _) D1.out b2 ⟨Fr.ownsRow_mono ho (Nat.zero_le _), fun g hg => (ho.lt g hg).1⟩ HS1.out
        have K2 : Hid (Kept S w w2) := K1.out.trans (Kept.of_below b2)
        have hS2 : ∀ k, w2.heap.size ≤ k → S k := fun k hk => hS k (Nat.le_trans K2.out.size hk)
        have HS2 := Lib.hid hS2
        clear ho b2 hsc hS2
        go_wp2_with fail
        refine (Fr.clone_any name _ hn).mono ?_
        rintro e w4 ⟨rfl, b4⟩
        have HB4 := Lib.hid b4
        clear b4
        go_wp2
        go_ret2
        rw [HO.out]
        have := wal_built (name := name) P2.out HS2.out HB4.out
        exact ⟨_, rfl, this.1, K2.out.trans this.2⟩
end Go.Proofs.Ytnffjoflkeagfaa
