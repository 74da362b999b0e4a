/- A journal's Append, Rewrite. -/
import Derived.Test.YtnffjoflkeagfaaWalM
import Derived.Deep.RegionLaw
namespace Go.Proofs.Ytnffjoflkeagfaa
open Go.RowKit Go.Maps

theorem small_append {s : St} (hf : Fit s) (k b : List UInt8) (hk : k.length ≤ 9223372036854775807) : (appendS s k b).2.fs.length ≤ s.fs.length + 1 ∧ usedF (appendS s k b).2.fs ≤ usedF s.fs + b.length := by
  have := most_append ⟨Nat.le_refl _, Nat.le_refl _, hf.keys⟩ hf.sorted (b := b) hk
  exact ⟨this.count, this.bytes⟩
theorem joinB_small {l : Recs} (hall : ∀ c ∈ l, c.size ≤ 65536) (hl : l.length ≤ 1048576) : (Fr.joinB l).length ≤ 274877906944 := by
  have := Fr.joinB_le l hall; omega
set_option maxHeartbeats 4000000 in
set_option maxRecDepth 100000 in
theorem wAppend_none (v : Value) (wb : Value) (w : World) (hv : ∃ a c, v = .slice a 0 c) :
    Calls Try.prog 26 #[wb, v] w fun e w' => e = .returned (.int .i64 0) ∧ w = w' := by
  obtain ⟨a, c, rfl⟩ := hv
  go_enter Try.func26, Try.ntmps26
  go_wp2
  go_ret
  exact ⟨rfl, rfl⟩
set_option maxHeartbeats 4000000 in
set_option maxRecDepth 100000 in
theorem wAppend_any {S : Nat → Prop} {w : World} {wb db : Nat} {s : St} {name : ByteArray} {L : Recs} (h : Pair (DiskQ db s) (WalQ wb db name L) S w) (hS : ∀ k, w.heap.size ≤ k → S k) (hm : s.fs.length ≤ 1048576) (hu : usedF s.fs ≤ 274877906944)
    (hn : name.size ≤ 281474976710656) {v : Value} {l : Recs} (hv : TxtOff S w v l) (hall : ∀ c ∈ l, c.size ≤ 65536) (hl : l.length ≤ 1048576) (hL : L.length ≤ 1048576) (hne : l ≠ []) :
    Calls Try.prog 26 #[ptrV wb, v] w fun e w' => e = .returned (.int .i64 (writeS s (bs name) L l).1) ∧ Pair (DiskQ db (writeS s (bs name) L l).2.2) (WalQ wb db name (writeS s (bs name) L l).2.1) S w' ∧ Kept S w w' := by
  have hl0 : 0 < l.length := List.length_pos_iff.2 hne
  have hjoin := Fr.Join_any v l w (off_at hv.1) hl hall
  have hjs := joinB_small hall hl
  have hjm : (mk (Fr.joinB l)).size = (Fr.joinB l).length := mk_size _
  have hfit : Fit s := DiskAt.fit (Pair.fst (diskThing _ _) h : DiskAt S w db s)
  have hsm := small_append hfit (bs name) (Fr.joinB l) (by rw [bs_len]; omega)
  obtain ⟨va, vc, rfl⟩ := hv.slice
  have HV := Lib.hid hv
  have HP := Lib.hid h
  have HALL := Lib.hid hall
  have happ : ∀ T w', DiskAt T w' db s → (∀ k, w'.heap.size ≤ k → T k) → _ := fun T w' hq hT => Append_gen hq hT ⟨by omega, by omega⟩ name (mk (Fr.joinB l)) hn (by omega) (fun _ => by omega)
  rw [bs_mk] at happ
  have HAPP := Lib.hid happ
  have hwr : Hid (writeS s (bs name) L l = if (appendS s (bs name) (Fr.joinB l)).1 = 0 then
    if (syncS (appendS s (bs name) (Fr.joinB l)).2 (bs name)).1 = 0 then (0, L ++ l, (syncS (appendS s (bs name) (Fr.joinB l)).2 (bs name)).2) else ((syncS (appendS s (bs name) (Fr.joinB l)).2 (bs name)).1, L, (syncS (appendS s (bs name) (Fr.joinB l)).2 (bs name)).2)
    else ((appendS s (bs name) (Fr.joinB l)).1, L, (appendS s (bs name) (Fr.joinB l)).2)) := rfl
  clear happ hfit hall h hv
  generalize Fr.joinB l = J at *
  generalize appendS s (bs name) J = A at *
  obtain ⟨a1, a2⟩ := A
  simp only at hsm hwr
  by_cases ha : a1 = 0
  · subst ha
    have hsy : ∀ T w', DiskAt T w' db a2 → (∀ k, w'.heap.size ≤ k → T k) → _ := fun T w' hq hT => Sync_any hq hT ⟨by omega, by omega⟩ name hn
    have HSY := Lib.hid hsy
    clear hsy
    generalize syncS a2 (bs name) = Y at *
    obtain ⟨y1, y2⟩ := Y
    simp only [if_true] at hwr
    by_cases hy : y1 = 0
    · subst hy
      simp only [if_true] at hwr
      generalize writeS s (bs name) L l = R at *
      obtain ⟨i0, hi, hz0, hz1, hz2⟩ := info_parts info_str5
      go_enter Try.func26, Try.ntmps26
      go_wp2_with fail
      refine hjoin.mono ?_
      rintro e w1 ⟨rfl, b1⟩
      have P1 := Lib.hid ((pairThing (diskThing _ _) (walThing _ _ _ _)).below HP.out b1)
      have K1 : Hid (Kept S w w1) := Kept.of_below b1
      clear b1 hjoin
      go_wp2_with fail
      refine (file_any (Pair.snd (walThing _ _ _ _) P1.out)).mono ?_
      rintro e w2 ⟨rfl, q, hq⟩
      have hb2 : Below w1.heap.size w1 w2 := by rw [hq]; exact below_drewN (Below.refl _ _) q
      have P2 := Lib.hid ((pairThing (diskThing _ _) (walThing _ _ _ _)).below P1.out hb2)
      have K2 : Hid (Kept S w w2) := K1.out.trans (Kept.of_below hb2)
      clear hb2 hq
      go_wp2_with fail
      refine (Pair.step1 (diskThing _ _) (diskThing db a2) (walThing _ _ _ _) P2.out (fun k hk => hS k (Nat.le_trans K2.out.size hk)) (X := fun e _ => e = .returned (.int .i64 0)) (fun T hT _ hq => HAPP.out T _ hq hT)).mono ?_
      rintro e w3 ⟨rfl, p3, k3⟩
      have P3 := Lib.hid p3
      have K3 : Hid (Kept S w w3) := K2.out.trans k3
      clear p3 k3
      go_wp2_with fail
      refine (Pair.step1 (diskThing _ _) (diskThing db y2) (walThing _ _ _ _) P3.out (fun k hk => hS k (Nat.le_trans K3.out.size hk)) (X := fun e _ => e = .returned (.int .i64 0)) (fun T hT _ hq => HSY.out T _ hq hT)).mono ?_
      rintro e w5 ⟨rfl, p5, k5⟩
      have P5 := Lib.hid p5
      have K5 : Hid (Kept S w w5) := K3.out.trans k5
      clear p5 k5
      have hq5 : WalQ wb db name L S w5 := Pair.snd (walThing _ _ _ _) P5.out
      obtain ⟨rv, hw5⟩ := hq5
      obtain ⟨ra, rc, rfl⟩ := hw5.row.slice
      have c2 := hw5.c2
      have W5 := Lib.hid hw5
      have hlt5 := hw5.lt
      have hcp : ∀ w', Below w5.heap.size w5 w' → Calls Try.prog 53 #[.slice va l.length vc] w' fun e w'' => ∃ B, e = .returned (.slice (some ⟨B, 0, none⟩) l.length l.length) ∧ (∀ j u, (cellsOf strC l)[j]? = some u → w''.cell? ((⟨B, 0, none⟩ : Addr).add j) = some u) ∧ Below w5.heap.size w5 w'' ∧ w''.cell? ⟨wb, 2, none⟩ = some (.slice ra L.length rc) ∧ w''.ownsRow 0 9 1 (.slice ra L.length rc) L.length (cellsOf strC L) ∧ (∀ j, w''.frozen? ⟨wb, j, none⟩ = false) := by
        intro w' hb'
        refine (copies_any ((HV.out.kept K5.out).below hb') hl (fun c hc => Nat.le_trans (HALL.out c hc) (by decide))).mono ?_
        rintro e w'' ⟨rfl, ho, hb''⟩
        have hb := hb'.trans (hb''.mono hb'.size)
        exact ⟨_, rfl, ho.cells rfl, hb, (hb.cell (p := ⟨wb, 2, none⟩) hlt5).trans W5.out.c2, own_keep W5.out.row.1 (fun g hg => hb.block g (own_lt W5.out.row.1 hg)), fun j => by rw [World.frozen?_of_block (a := ⟨wb, j, none⟩) (hb.block wb hlt5)]; exact W5.out.f j⟩
      have HCP := Lib.hid hcp
      clear hcp hw5
      go_wp2_with fail
      go_region_law (first
        | (go_simp; go_at_call 53; refine (HCP.out _ ((Below.refl _ _).drew)).mono ?_; rintro e w6 ⟨B, rfl, hn6, hb6, cc6, ho6, hf6⟩; have ff6 := hf6 2; have HN6 := Lib.hid hn6; have HB6 := Lib.hid hb6; have HO6 := Lib.hid ho6; clear hn6 hb6 ho6 hf6)
        | (refine step_append_lies _ rfl (.tmp 44) (.tmp 46) 41 rfl 0 9 i0 (.string ⟨#[]⟩) 1 16 Try.underlying41 hi hz0 hz1 hz2 rfl (by decide) _ L.length (cellsOf strC L) rfl HO6.out ⟨B, 0, none⟩ l.length l.length (cellsOf strC l) rfl (by simp [cellsOf]) HN6.out (ones_str l) hl0 (by unfold maxLen; omega) (by omega) (Nat.zero_le _) w6.heap.size rfl ?_; intro g cap w7 ho7 hg7 hl7 hlt7; have cc7 : w7.cell? ⟨wb, 2, none⟩ = some (.slice ra L.length rc) := (hg7.cell_far ⟨wb, 2, none⟩ (Nat.lt_of_lt_of_le hlt5 HB6.out.size) (fun e => W5.out.apart e.symm rfl)).trans cc6; have ff7 : w7.frozen? ⟨wb, 2, none⟩ = false := (hg7.frozen_far ⟨wb, 2, none⟩ (Nat.lt_of_lt_of_le hlt5 HB6.out.size) (fun e => W5.out.apart e.symm rfl)).trans ff6; have HO7 := Lib.hid ho7; have HG7 := Lib.hid hg7; have HL7 := Lib.hid hl7; clear ho7 hg7 hl7 hlt7))
      all_goals
        go_wp2
        go_ret
        rw [hwr.out]
        refine ⟨rfl, ?_⟩
        have := Pair.upd2 (diskThing _ _) (walThing _ _ _ _) (walThing wb db name (L ++ l)) (w' := w7.setCell ⟨wb, 2, none⟩ (.slice (some ⟨g, 0, none⟩) (L.length + l.length) cap)) P5.out (fun k hk => hS k (Nat.le_trans K5.out.size hk)) (fun T hT _ hq => by
          obtain ⟨rv', hq⟩ := hq
          have e1 : rv' = .slice ra L.length rc := by have := hq.c2.symm.trans W5.out.c2; simpa using this
          subst e1
          have hp := hq.push hT HB6.out HG7.out (L' := L ++ l) (by have := HO7.out; simpa [cellsOf] using this) (fun g' hg' => by
            have e2 : g = g' := by simpa [Value.ownBlock] using hg'
            subst e2
            exact HL7.out.imp id (fun e => by rw [e]; exact HB6.out.size))
          exact ⟨⟨_, hp.1⟩, hp.2⟩)
        exact ⟨this.1, K5.out.trans this.2⟩
    · have hyi : (y1 != 0) = true := by simpa using hy
      rw [if_neg hy] at hwr
      generalize writeS s (bs name) L l = R at *
      go_enter Try.func26, Try.ntmps26
      go_wp2_with fail
      refine hjoin.mono ?_
      rintro e w1 ⟨rfl, b1⟩
      have P1 := Lib.hid ((pairThing (diskThing _ _) (walThing _ _ _ _)).below HP.out b1)
      have K1 : Hid (Kept S w w1) := Kept.of_below b1
      clear b1 hjoin
      go_wp2_with fail
      refine (file_any (Pair.snd (walThing _ _ _ _) P1.out)).mono ?_
      rintro e w2 ⟨rfl, q, hq⟩
      have hb2 : Below w1.heap.size w1 w2 := by rw [hq]; exact below_drewN (Below.refl _ _) q
      have P2 := Lib.hid ((pairThing (diskThing _ _) (walThing _ _ _ _)).below P1.out hb2)
      have K2 : Hid (Kept S w w2) := K1.out.trans (Kept.of_below hb2)
      clear hb2 hq
      go_wp2_with fail
      refine (Pair.step1 (diskThing _ _) (diskThing db a2) (walThing _ _ _ _) P2.out (fun k hk => hS k (Nat.le_trans K2.out.size hk)) (X := fun e _ => e = .returned (.int .i64 0)) (fun T hT _ hq => HAPP.out T _ hq hT)).mono ?_
      rintro e w3 ⟨rfl, p3, k3⟩
      have P3 := Lib.hid p3
      have K3 : Hid (Kept S w w3) := K2.out.trans k3
      clear p3 k3
      go_wp2_with fail
      refine (Pair.step1 (diskThing _ _) (diskThing db y2) (walThing _ _ _ _) P3.out (fun k hk => hS k (Nat.le_trans K3.out.size hk)) (X := fun e _ => e = .returned (.int .i64 y1)) (fun T hT _ hq => HSY.out T _ hq hT)).mono ?_
      rintro e w5 ⟨rfl, p5, k5⟩
      have P5 := Lib.hid p5
      have K5 : Hid (Kept S w w5) := K3.out.trans k5
      clear p5 k5
      go_wp2
      go_ret
      rw [hwr.out]
      exact ⟨rfl, P5.out, K5.out⟩
  · have hai : (a1 != 0) = true := by simpa using ha
    rw [if_neg ha] at hwr
    generalize writeS s (bs name) L l = R at *
    go_enter Try.func26, Try.ntmps26
    go_wp2_with fail
    refine hjoin.mono ?_
    rintro e w1 ⟨rfl, b1⟩
    have P1 := Lib.hid ((pairThing (diskThing _ _) (walThing _ _ _ _)).below HP.out b1)
    have K1 : Hid (Kept S w w1) := Kept.of_below b1
    clear b1 hjoin
    go_wp2_with fail
    refine (file_any (Pair.snd (walThing _ _ _ _) P1.out)).mono ?_
    rintro e w2 ⟨rfl, q, hq⟩
    have hb2 : Below w1.heap.size w1 w2 := by rw [hq]; exact below_drewN (Below.refl _ _) q
    have P2 := Lib.hid ((pairThing (diskThing _ _) (walThing _ _ _ _)).below P1.out hb2)
    have K2 : Hid (Kept S w w2) := K1.out.trans (Kept.of_below hb2)
    clear hb2 hq
    go_wp2_with fail
    refine (Pair.step1 (diskThing _ _) (diskThing db a2) (walThing _ _ _ _) P2.out (fun k hk => hS k (Nat.le_trans K2.out.size hk)) (X := fun e _ => e = .returned (.int .i64 a1)) (fun T hT _ hq => HAPP.out T _ hq hT)).mono ?_
    rintro e w3 ⟨rfl, p3, k3⟩
    have P3 := Lib.hid p3
    have K3 : Hid (Kept S w w3) := K2.out.trans k3
    clear p3 k3
    go_wp2
    go_ret
    rw [hwr.out]
    exact ⟨rfl, P3.out, K3.out⟩
set_option maxHeartbeats 4000000 in
set_option maxRecDepth 100000 in
theorem wRewrite_any {S : Nat → Prop} {w : World} {wb db : Nat} {s : St} {name : ByteArray} {L : Recs} (h : Pair (DiskQ db s) (WalQ wb db name L) S w) (hS : ∀ k, w.heap.size ≤ k → S k) (hm : s.fs.length ≤ 1048576) (hu : usedF s.fs ≤ 274877906944)
    (hn : name.size ≤ 281474976710656) {v : Value} {l : Recs} (hv : TxtOff S w v l) (hall : ∀ c ∈ l, c.size ≤ 65536) (hl : l.length ≤ 1048576) :
    Calls Try.prog 27 #[ptrV wb, v] w fun e w' => e = .returned (.int .i64 (otherS s (bs name) L l).1) ∧ Pair (DiskQ db (otherS s (bs name) L l).2.2) (WalQ wb db name (otherS s (bs name) L l).2.1) S w' ∧ Kept S w w' := by
  have hjoin := Fr.Join_any v l w (off_at hv.1) hl hall
  have hjs := joinB_small hall hl
  have hjm : (mk (Fr.joinB l)).size = (Fr.joinB l).length := mk_size _
  obtain ⟨va, vc, rfl⟩ := hv.slice
  have HV := Lib.hid hv
  have HP := Lib.hid h
  have HALL := Lib.hid hall
  have happ : ∀ T w', DiskAt T w' db s → (∀ k, w'.heap.size ≤ k → T k) → _ := fun T w' hq hT => Replace_any hq hT ⟨by omega, by omega⟩ name (mk (Fr.joinB l)) hn (by omega)
  rw [bs_mk] at happ
  have HAPP := Lib.hid happ
  have hwr : Hid (otherS s (bs name) L l = if (replaceS s (bs name) (Fr.joinB l)).1 = 0 then (0, l, (replaceS s (bs name) (Fr.joinB l)).2) else ((replaceS s (bs name) (Fr.joinB l)).1, L, (replaceS s (bs name) (Fr.joinB l)).2)) := rfl
  clear happ hall h hv
  generalize Fr.joinB l = J at *
  generalize replaceS s (bs name) J = A at *
  obtain ⟨a1, a2⟩ := A
  simp only at hwr
  by_cases ha : a1 = 0
  · subst ha
    simp only [if_true] at hwr
    generalize otherS s (bs name) L l = R at *
    go_enter Try.func27, Try.ntmps27
    go_wp2_with fail
    refine hjoin.mono ?_
    rintro e w1 ⟨rfl, b1⟩
    have P1 := Lib.hid ((pairThing (diskThing _ _) (walThing _ _ _ _)).below HP.out b1)
    have K1 : Hid (Kept S w w1) := Kept.of_below b1
    clear b1 hjoin
    go_wp2_with fail
    refine (file_any (Pair.snd (walThing _ _ _ _) P1.out)).mono ?_
    rintro e w2 ⟨rfl, q, hq⟩
    have hb2 : Below w1.heap.size w1 w2 := by rw [hq]; exact below_drewN (Below.refl _ _) q
    have P2 := Lib.hid ((pairThing (diskThing _ _) (walThing _ _ _ _)).below P1.out hb2)
    have K2 : Hid (Kept S w w2) := K1.out.trans (Kept.of_below hb2)
    clear hb2 hq
    go_wp2_with fail
    refine (Pair.step1 (diskThing _ _) (diskThing db a2) (walThing _ _ _ _) P2.out (fun k hk => hS k (Nat.le_trans K2.out.size hk)) (X := fun e _ => e = .returned (.int .i64 0)) (fun T hT _ hq => HAPP.out T _ hq hT)).mono ?_
    rintro e w5 ⟨rfl, p5, k5⟩
    have P5 := Lib.hid p5
    have K5 : Hid (Kept S w w5) := K2.out.trans k5
    clear p5 k5
    have hq5 : WalQ wb db name L S w5 := Pair.snd (walThing _ _ _ _) P5.out
    obtain ⟨rv, hw5⟩ := hq5
    have W5 := Lib.hid hw5
    have hlt5 := hw5.lt
    have hcp := copies_any (HV.out.kept K5.out) hl (fun c hc => Nat.le_trans (HALL.out c hc) (by decide))
    clear hw5
    go_wp2_with fail
    refine hcp.mono ?_
    rintro e w6 ⟨rfl, ho6, hb6⟩
    have cc6 : w6.cell? ⟨wb, 2, none⟩ = some rv := (hb6.cell (p := ⟨wb, 2, none⟩) hlt5).trans W5.out.c2
    have ff6 : w6.frozen? ⟨wb, 2, none⟩ = false := by rw [World.frozen?_of_block (a := ⟨wb, 2, none⟩) (hb6.block wb hlt5)]; exact W5.out.f 2
    have HO6 := Lib.hid ho6
    have HB6 := Lib.hid hb6
    clear ho6 hb6 hcp
    go_wp2
    go_ret
    rw [hwr.out]
    refine ⟨rfl, ?_⟩
    have := Pair.upd2 (diskThing _ _) (walThing _ _ _ _) (walThing wb db name l) (w' := w6.setCell ⟨wb, 2, none⟩ (.slice (some ⟨w5.heap.size, 0, none⟩) l.length l.length)) P5.out (fun k hk => hS k (Nat.le_trans K5.out.size hk)) (fun T hT _ hq => by
      obtain ⟨rv', hq⟩ := hq
      have hp := hq.push hT HB6.out (⟨rfl, rfl, rfl, Nat.le_refl _, fun _ _ _ => rfl⟩ : w6.grownBy w6 _) (L' := l) (Fr.ownsRow_mono HO6.out (Nat.zero_le _)) (fun g' hg' => by
        have e2 : w5.heap.size = g' := by simpa [Value.ownBlock] using hg'
        exact .inr (by omega))
      exact ⟨⟨_, hp.1⟩, hp.2⟩)
    exact ⟨this.1, K5.out.trans this.2⟩
  · have hai : (a1 != 0) = true := by simpa using ha
    rw [if_neg ha] at hwr
    generalize otherS s (bs name) L l = R at *
    go_enter Try.func27, Try.ntmps27
    go_wp2_with fail
    refine hjoin.mono ?_
    rintro e w1 ⟨rfl, b1⟩
    have P1 := Lib.hid ((pairThing (diskThing _ _) (walThing _ _ _ _)).below HP.out b1)
    have K1 : Hid (Kept S w w1) := Kept.of_below b1
    clear b1 hjoin
    go_wp2_with fail
    refine (file_any (Pair.snd (walThing _ _ _ _) P1.out)).mono ?_
    rintro e w2 ⟨rfl, q, hq⟩
    have hb2 : Below w1.heap.size w1 w2 := by rw [hq]; exact below_drewN (Below.refl _ _) q
    have P2 := Lib.hid ((pairThing (diskThing _ _) (walThing _ _ _ _)).below P1.out hb2)
    have K2 : Hid (Kept S w w2) := K1.out.trans (Kept.of_below hb2)
    clear hb2 hq
    go_wp2_with fail
    refine (Pair.step1 (diskThing _ _) (diskThing db a2) (walThing _ _ _ _) P2.out (fun k hk => hS k (Nat.le_trans K2.out.size hk)) (X := fun e _ => e = .returned (.int .i64 a1)) (fun T hT _ hq => HAPP.out T _ hq hT)).mono ?_
    rintro e w3 ⟨rfl, p3, k3⟩
    have P3 := Lib.hid p3
    have K3 : Hid (Kept S w w3) := K2.out.trans k3
    clear p3 k3
    go_wp2
    go_ret
    rw [hwr.out]
    exact ⟨rfl, P3.out, K3.out⟩
end Go.Proofs.Ytnffjoflkeagfaa
