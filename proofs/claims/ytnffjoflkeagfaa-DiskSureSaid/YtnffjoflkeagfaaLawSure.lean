/- What was synced, replaced or cut stays, whatever the power does; what is left behind a crash is a beginning. -/
import Derived.Test.YtnffjoflkeagfaaLawDoes
namespace Go.Proofs.Ytnffjoflkeagfaa
open Go.RowKit Go.Maps

theorem row_keepD {w w' : World} {B : Nat} {e : TypeId} {sz : Nat} {v : Value} {n : Nat} {xs : List Value} (h : w.ownsRow B e sz v n xs) (hk : ∀ g, B ≤ g → g < w.heap.size → w'.heap[g]? = w.heap[g]?) : w'.ownsRow B e sz v n xs := by
  obtain ⟨h1, h2⟩ := h
  refine ⟨h1, ?_⟩
  rcases h2 with h2 | ⟨g, cap, cur, rfl, hB, hg, r⟩
  · exact .inl h2
  · exact .inr ⟨g, cap, cur, rfl, hB, (hk g hB (Array.getElem?_eq_some_iff.1 hg).1).trans hg, r⟩
theorem neBs {a b : ByteArray} (h : a ≠ b) : (a.toList == b.toList) = false := by
  rw [beq_eq_false_iff_ne]
  intro e
  rw [Lib.toList_data, Lib.toList_data] at e
  exact h (ba_ext e)
theorem crash_parts (fs : Fs) (keep : List Int) (i : Nat) : crashF fs keep = crashF (fs.take i) keep ++ crashF (fs.drop i) (keep.drop (fs.take i).length) := by
  have := crashF_append (fs.take i) (fs.drop i) keep
  rw [List.take_append_drop] at this
  exact this
theorem sorted_crash : ∀ (l : Fs) (kp : List Int), Sorted l → Sorted (crashF l kp)
  | [], _, _ => List.Pairwise.nil
  | q :: r, kp, hs => by
    obtain ⟨h1, h2⟩ := List.pairwise_cons.1 hs
    unfold crashF
    split
    · exact sorted_crash r _ h2
    · refine List.pairwise_cons.2 ⟨fun y hy => ?_, sorted_crash r _ h2⟩
      obtain ⟨z, hz, e⟩ := mem_crash hy
      rw [← e]; exact h1 z hz
/-- a file that is gone: what stands at its place has another name -/
theorem crash_gone {fs : Fs} (hs : Sorted fs) {keep : List Int} {i : Nat} {p q : List UInt8 × F} (hp : fs[i]? = some p) (hn : crashF (fs.take (i + 1)) keep = crashF (fs.take i) keep) (hq : (crashF fs keep)[(crashF (fs.take i) keep).length]? = some q) : q.1 ≠ p.1 := by
  have hi := (List.getElem?_eq_some_iff.1 hp).1
  have e := crash_parts fs keep (i + 1)
  rw [hn] at e
  rw [e, List.getElem?_append_right (Nat.le_refl _), Nat.sub_self] at hq
  obtain ⟨z, hz, hzq⟩ := mem_crash (List.mem_of_getElem? hq)
  rw [← hzq]
  have e2 : fs.drop i = p :: fs.drop (i + 1) := by
    obtain ⟨hi', e3⟩ := List.getElem?_eq_some_iff.1 hp
    rw [List.drop_eq_getElem_cons hi', e3]
  have hso : Sorted (fs.drop i) := List.Pairwise.sublist (List.drop_sublist _ _) hs
  rw [e2] at hso
  exact fun e => ltne ((List.pairwise_cons.1 hso).1 z hz) e.symm
theorem crash_stay {fs : Fs} {keep : List Int} {i : Nat} {p' : List UInt8 × F} (hn : crashF (fs.take (i + 1)) keep = crashF (fs.take i) keep ++ [p']) : (crashF fs keep)[(crashF (fs.take i) keep).length]? = some p' := by
  have e := crash_parts fs keep (i + 1)
  rw [hn] at e
  rw [e, List.append_assoc, List.getElem?_append_right (Nat.le_refl _), Nat.sub_self]
  rfl
theorem crash_again : ∀ (l : Fs) (kp : List Int), (∀ p ∈ l, p.2.s = p.2.b.length ∧ p.2.u = true) → crashF l kp = l
  | [], _, _ => rfl
  | q :: r, kp, h => by
    obtain ⟨h1, h2⟩ := h q (by simp)
    have hl : leftF q.2 (kp.headD 0) = q.2.b.length := by unfold leftF; omega
    unfold crashF
    rw [crash_again r _ (fun p hp => h p (by simp [hp])), hl, if_neg (by rw [h2]; simp), List.take_length]
    obtain ⟨n, b, s, u⟩ := q
    simp only at h1 h2
    rw [h1, h2]
theorem crash_full : ∀ (l : Fs) (kp : List Int), (∀ p ∈ l, p.2.s ≤ p.2.b.length) → ∀ p ∈ crashF l kp, p.2.s = p.2.b.length ∧ p.2.u = true
  | [], _, _, p, hp => by simp [crashF] at hp
  | q :: r, kp, h, p, hp => by
    have hq := h q (by simp)
    unfold crashF at hp
    split at hp
    · exact crash_full r _ (fun y hy => h y (by simp [hy])) p hp
    · rcases List.mem_cons.1 hp with rfl | hp
      · refine ⟨?_, rfl⟩
        simp only [List.length_take]
        unfold leftF; omega
      · exact crash_full r _ (fun y hy => h y (by simp [hy])) p hp
theorem crash_twice {s : St} (h : Fit s) (keep : List Int) : crashS (crashS s keep) keep = crashS s keep := by
  unfold crashS
  simp only
  rw [crash_again _ _ (crash_full _ _ h.syn)]
theorem crash_one {fs : Fs} {keep : List Int} {i : Nat} {p : List UInt8 × F} (hp : fs[i]? = some p) : crashF (fs.take (i + 1)) keep = crashF (fs.take i) keep ++ crashOne p (keepAt keep i) := by
  have hk := (List.getElem?_eq_some_iff.1 hp).1
  rw [take_snocA _ _ _ hp, crash_snoc, show (fs.take i).length = i by rw [List.length_take]; omega]
theorem small_crash {s : St} (h : s.fs.length ≤ 1099511627776) (keep : List Int) : (crashS s keep).fs.length ≤ 1099511627776 := Nat.le_trans (crashF_len _ _) h
set_option maxHeartbeats 8000000 in
set_option maxRecDepth 100000 in
theorem law_sure (room : Int) (v : Value) (l : List ActV) (name : ByteArray) (kv : Value) (keep : List Int) (w : World) (hl : ActsOff (From w.heap.size) w v l) (hln : l.length ≤ 9223372036854775807)
    (hkx : ∀ x ∈ l, x.keep.length ≤ 140737488355328 ∧ x.name.size ≤ 140737488355328 ∧ x.b.size ≤ 140737488355328 ∧ x.k < 256 ∧ -9223372036854775808 ≤ x.n ∧ x.n ≤ 9223372036854775807)
    (hname : name.size ≤ 9223372036854775807) (hkeep : ListOff (From w.heap.size) w kv keep.length (keep.map (fun z => Value.int .i64 z))) (hkl : keep.length ≤ 9223372036854775807)
    (_hr0 : -9223372036854775808 ≤ room) (hr1 : room ≤ 9223372036854775807) :
    Calls Try.prog 4 #[.int .i64 room, v, .string name, kv] w fun e w' => e = .returned (.bool true) ∧ Below w.heap.size w w' := by
  have hw := works_any w
  obtain ⟨va, vc, rfl⟩ := hl.slice
  have HL := Lib.hid hl
  have HX := Lib.hid hkx
  have HKP := Lib.hid hkeep
  obtain ⟨_, kpa, kpc, rfl, _⟩ := hkeep
  clear hl hkx
  go_enter Try.func4, Try.ntmps4
  go_wp2_with fail
  refine hw.mono ?_
  rintro e w00 ⟨rfl, b00⟩
  have hh := heavy_any (HL.out.kept (Kept.of_below b00)) hln (fun x hx => by obtain ⟨h1, h2, h3, _⟩ := HX.out x hx; exact ⟨by omega, by omega, by omega⟩)
  have B00 := Lib.hid b00
  clear b00 hw
  go_wp2_with fail
  refine hh.mono ?_
  rintro e w0 ⟨hv, rfl, hhv, b0⟩
  have K0 : Hid (Kept (From w.heap.size) w w0) := (Kept.of_below B00.out).trans (Kept.of_below b0)
  clear b0 hh B00
  have HHV := Lib.hid hhv
  clear hhv
  by_cases hguard : hv = false ∧ name.size ≤ 8192 ∧ keep.length ≤ 8192
  · obtain ⟨rfl, hg2, hg3⟩ := hguard
    have hg2i : ¬ (8192 : Int) < (name.size : Int) := by omega
    have hg3i : ¬ (8192 : Int) < (keep.length : Int) := by omega
    obtain ⟨hlen, hws⟩ := HHV.out rfl
    have hbt : Hid (bytesT l ≤ 140737488355328) := bytesT_le (by decide) (fun x hx => (HX.out x hx).2.2.1) hws
    clear hws
    go_wp2_with fail
    refine (New_any (S := From w.heap.size) w0 (fun k hk => Nat.le_trans K0.out.size hk) room hr1).mono ?_
    rintro e w1 ⟨rfl, d1, b1⟩
    have D1 := Lib.hid d1
    have K1 : Hid (Kept (From w.heap.size) w w1) := K0.out.trans (Kept.of_below b1)
    clear d1 b1
    generalize hdb : w0.heap.size = db at *
    clear hdb
    go_wp2_with fail
    refine (refNew_any (S := fun k => w1.heap.size ≤ k) w1 (fun k hk => hk) room hr1).mono ?_
    rintro e w3 ⟨rfl, d3, b3⟩
    have P3 : Hid (BothQ db w1.heap.size (newS room) (From w.heap.size) w3) := Pair.of (diskThing _ _) (refThing _ _) D1.out b3 d3 (fun k hk => Nat.le_trans K1.out.size hk)
    have K3 : Hid (Kept (From w.heap.size) w w3) := K1.out.trans (Kept.of_below b3)
    clear d3 b3
    generalize hrb : w1.heap.size = rb at *
    clear hrb
    go_wp2
    go_loopw [13] (fun i wr => ∃ (k : Nat) (s : St), k ≤ l.length ∧ i = .int .i64 k ∧ BothQ db rb s (From w.heap.size) wr ∧ Kept (From w.heap.size) w wr ∧ Most s k (bytesT (l.take k)) 140737488355328) (fun i _ => l.length - (intOf i).toNat)
    case atStart => exact ⟨0, _, by omega, rfl, P3.out, K3.out, ⟨by simp [newS], by simp [newS, usedF], by simp [newS]⟩⟩
    case round =>
      obtain ⟨k, s, hk1, rfl, hd, hkp, hmo⟩ := hrel
      have HP := Lib.hid hd
      have HK := Lib.hid hkp
      have HMO := Lib.hid hmo
      have hcnt := hmo.count
      have hBw : w.heap.size ≤ wr.heap.size := hkp.size
      clear hd hkp hmo
      by_cases h1 : k < l.length
      · have h1i : (k : Int) < (l.length : Int) := by omega
        obtain ⟨x, hx⟩ : ∃ x, l[k]? = some x := ⟨l[k], List.getElem?_eq_getElem h1⟩
        obtain ⟨hx1, hx2, hx3, hx4, hx5, hx6⟩ := HX.out x (List.mem_of_getElem? hx)
        have HBT : Hid (bytesT (l.take (k + 1)) = bytesT (l.take k) + x.b.size) := by show _ = _; rw [take_snocA _ _ _ hx, bytesT_snoc]
        have HBG : Hid (usedF s.fs + x.b.size ≤ 140737488355328) := by
          show _ ≤ _
          have := HMO.out.bytes; have := bytesT_take l (k + 1); have := hbt.out; have := HBT.out; omega
        have HKY : Hid (∀ p ∈ s.fs, p.1.length ≤ 281474976710656) := fun p hp => by have := HMO.out.keys p hp; omega
        have hfit : Hid (Fit s) := DiskAt.fit (Pair.fst (diskThing _ _) HP.out : DiskAt _ wr db s)
        have hmo' := most_step HMO.out hfit.out.sorted x hx2
        rw [← HBT.out] at hmo'
        have HMO' := Lib.hid hmo'
        obtain ⟨ba, off, ka, kc, rfl, _, hcap, _, hkv, c0, c1, c2, c3, c4, hko⟩ := act_get (HL.out.kept HK.out) hx
        have HCL := Lib.hid (does_any HP.out (fun j hj => Nat.le_trans hBw hj) x hx4 hx2 hx3 hx5 hx6 hx1 (by omega) HBG.out HKY.out (by rw [hkv]; exact hko))
        rw [hkv] at HCL
        clear hx hko hmo'
        generalize stepS s x = s' at *
        go_wp2_with fail
        refine HCL.out.mono ?_
        rintro e w7 ⟨rfl, p7, k7⟩
        have P7 := Lib.hid p7
        have K7 : Hid (Kept (From w.heap.size) w w7) := HK.out.trans k7
        clear p7 k7 HCL c0 c1 c2 c3 c4
        go_wp2
        go_roundw
        case rel => exact ⟨k + 1, s', by omega, by go_num, P7.out, K7.out, HMO'.out⟩
        case measure => simp [intOf]; omega
      · have h1i : ¬ (k : Int) < (l.length : Int) := by omega
        have hcc : s.fs.length ≤ 1099511627776 := by omega
        have hsm : Hid (Small s) := ⟨hcc, by have := HMO.out.bytes; have := bytesT_take l k; have := hbt.out; omega⟩
        have HKY : Hid (∀ p ∈ s.fs, p.1.length ≤ 281474976710656) := fun p hp => by have := HMO.out.keys p hp; omega
        have hd : DiskAt (From w.heap.size) wr db s := Pair.fst (diskThing _ _) HP.out
        have HD := Lib.hid hd
        have hfit := hd.fit
        have HFIT := Lib.hid hfit
        have hkept := Kept_any hd hcc
        clear hd hfit
        obtain ⟨wo, hwo⟩ : ∃ wo : World, wo = wr := ⟨_, rfl⟩
        subst hwo
        go_wp2_with fail
        refine hkept.mono ?_
        rintro e w5 ⟨kv1, rfl, hrow, b5⟩
        obtain ⟨ra, rc, rfl⟩ := row_slice hrow
        have HR1 := Lib.hid hrow
        have hszb : wo.heap.size ≤ w5.heap.size := b5.size
        have DT5 : Hid (DiskAt (fun j => w.heap.size ≤ j ∧ (j < wo.heap.size ∨ w5.heap.size ≤ j)) w5 db s) := (DiskAt.mono (DiskAt.tight HD.out) (fun j _ hj => ⟨hj.1, .inl hj.2⟩)).below b5
        have K5 : Hid (Kept (From w.heap.size) w w5) := HK.out.trans (Kept.of_below b5)
        clear hrow b5 hkept
        have HCR := Lib.hid (Crash_any DT5.out (fun j hj => ⟨by omega, .inr hj⟩) hsm.out HKY.out _ keep ((HKP.out.kept K5.out).mono (fun j _ hj => hj.1)) hkl)
        go_wp2_with fail
        refine HCR.out.mono ?_
        rintro e w7 ⟨rfl, d7, k7⟩
        have D7 := Lib.hid d7
        have K7 : Hid (Kept (From w.heap.size) w w7) := K5.out.trans (k7.mono (fun j _ hj => hj.1))
        have hrow2 := row_keepD HR1.out (w' := w7) (fun g hg hlt => k7.block g hlt (fun h => h.2.elim (fun h => by omega) (fun h => by omega)))
        have HROW1 := Lib.hid hrow2
        have hsz57 : w5.heap.size ≤ w7.heap.size := k7.size
        have HK7 := Lib.hid (Kept_any d7 (small_crash hcc keep))
        clear d7 k7 hrow2 HCR
        go_wp2_with fail
        refine HK7.out.mono ?_
        rintro e w8 ⟨kv2, rfl, hrow8, b8⟩
        obtain ⟨ra2, rc2, rfl⟩ := row_slice hrow8
        have HROW8 := Lib.hid hrow8
        have HROWW := Lib.hid (own_kept HROW1.out b8)
        have hsz78 : w7.heap.size ≤ w8.heap.size := b8.size
        have D8 : Hid (DiskAt (fun j => w.heap.size ≤ j ∧ (j < w7.heap.size ∨ w8.heap.size ≤ j)) w8 db (crashS s keep)) := (DiskAt.mono (DiskAt.tight D7.out) (fun j _ hj => ⟨hj.1.1, .inl hj.2⟩)).below b8
        have K8 : Hid (Kept (From w.heap.size) w w8) := K7.out.trans (Kept.of_below b8)
        clear hrow8 b8 HK7 HR1 HROW1
        have hlc : (crashS s keep).fs.length = (crashF s.fs keep).length := rfl
        have hlcl : (crashF s.fs keep).length ≤ 1099511627776 := small_crash hcc keep
        go_wp2
        go_loopw [16, 17] (fun kk i wz => ∃ j : Nat, j ≤ s.fs.length ∧ i = .int .i64 j ∧ kk = .int .i64 ((crashF (s.fs.take j) keep).length : Nat) ∧ ∃ q, wz = w8.drewN q) (fun kk i _ => s.fs.length - (intOf i).toNat)
        case atStart => exact ⟨0, by omega, rfl, by simp [crashF], 0, rfl⟩
        case round =>
          obtain ⟨j, hj, rfl, rfl, q, hwz⟩ := hrel
          have hb8 : Below w8.heap.size w8 wr := by rw [hwz]; exact below_drewN (Below.refl _ _) q
          have HB8 := Lib.hid hb8
          have HWZ := Lib.hid hwz
          clear hb8 hwz
          have hprt := crash_parts s.fs keep j
          have hcl1 : (crashF (s.fs.take j) keep).length ≤ (crashF s.fs keep).length := by rw [hprt, List.length_append]; omega
          clear hprt
          by_cases hj1 : j < s.fs.length
          · have hj1i : (j : Int) < (s.fs.length : Int) := by omega
            obtain ⟨p, hp⟩ : ∃ p, s.fs[j]? = some p := ⟨s.fs[j], List.getElem?_eq_getElem hj1⟩
            obtain ⟨g, rfl, hrc2, x0, x1, x2⟩ := kept_row (own_kept HROWW.out HB8.out) hp
            have h1 := crash_one (keep := keep) hp
            have hsy : p.2.s ≤ p.2.b.length := HFIT.out.syn p (List.mem_of_getElem? hp)
            have hsyI : ((p.2.s : Nat) : Int) ≤ 9223372036854775807 := by have := used_ge (List.mem_of_getElem? hp); have := hsm.out.bytes; omega
            by_cases hone : leftF p.2 (keepAt keep j) = 0 ∧ p.2.u = false
            · have e1 : crashOne p (keepAt keep j) = [] := by unfold crashOne; rw [if_pos hone]
              rw [e1, List.append_nil] at h1
              have hs0 : p.2.s = 0 := by have := hone.1; unfold leftF at this; omega
              have HE := Lib.hid (show (crashF (s.fs.take (j + 1)) keep).length = (crashF (s.fs.take j) keep).length by rw [h1])
              rw [hs0] at x2
              by_cases hkn : (crashF (s.fs.take j) keep).length < (crashF s.fs keep).length
              · have hkni : ((crashF (s.fs.take j) keep).length : Int) < ((crashF s.fs keep).length : Int) := by omega
                obtain ⟨r, hr⟩ : ∃ r, (crashF s.fs keep)[(crashF (s.fs.take j) keep).length]? = some r := ⟨_, List.getElem?_eq_getElem hkn⟩
                have hne := crash_gone HFIT.out.sorted hp h1 hr
                obtain ⟨g2, rfl, hrc3, y0, y1, y2⟩ := kept_row (fs := crashF s.fs keep) (own_kept HROW8.out HB8.out) hr
                have hnb := neBs (a := mk r.1) (b := mk p.1) (fun e => hne (by rw [← bs_mk r.1, e, bs_mk]))
                have hq2 : (r.1 == p.1) = false := by rw [beq_eq_false_iff_ne]; exact hne
                have hq3 : ¬ r.1 = p.1 := hne
                clear hp hr hone e1 h1 hs0 hne y1 y2 x1
                generalize (crashF (s.fs.take j) keep).length = K at *
                generalize (crashF s.fs keep).length = KN at *
                go_wp2_with fail
                go_quiet (fail)
                go_wp2
                go_roundw
                case rel => exact ⟨j + 1, by omega, by go_num, by rw [HE.out], _, by rw [HWZ.out, World.drewN_drewN]⟩
                case measure => simp [intOf]; omega
              · have hkni : ¬ ((crashF (s.fs.take j) keep).length : Int) < ((crashF s.fs keep).length : Int) := by omega
                clear hp hone e1 h1 hs0 x1
                generalize (crashF (s.fs.take j) keep).length = K at *
                generalize (crashF s.fs keep).length = KN at *
                go_wp2_with fail
                go_quiet (fail)
                go_wp2
                go_roundw
                case rel => exact ⟨j + 1, by omega, by go_num, by rw [HE.out], _, by rw [HWZ.out, World.drewN_drewN]⟩
                case measure => simp [intOf]; omega
            · obtain ⟨lf, hlf⟩ : ∃ lf, lf = leftF p.2 (keepAt keep j) := ⟨_, rfl⟩
              have e1 : crashOne p (keepAt keep j) = [(p.1, ⟨p.2.b.take lf, lf, true⟩)] := by unfold crashOne; rw [if_neg hone, ← hlf]
              rw [e1] at h1
              have hst := crash_stay h1
              have hkn := (List.getElem?_eq_some_iff.1 hst).1
              have hkni : ((crashF (s.fs.take j) keep).length : Int) < ((crashF s.fs keep).length : Int) := by omega
              obtain ⟨g2, rfl, hrc3, y0, y1, y2⟩ := kept_row (fs := crashF s.fs keep) (own_kept HROW8.out HB8.out) hst
              have HE := Lib.hid (show (crashF (s.fs.take (j + 1)) keep).length = (crashF (s.fs.take j) keep).length + 1 by rw [h1]; simp)
              have hl1 : p.2.s ≤ lf := by rw [hlf]; unfold leftF; omega
              have hl2 : lf ≤ p.2.b.length := by rw [hlf]; unfold leftF; omega
              have hm1 : (mk (p.2.b.take lf)).size = lf := by rw [mk_size, List.length_take]; omega
              have hm2 : (mk p.2.b).size = p.2.b.length := mk_size _
              have hm3 : (mk p.2.b).extract 0 lf = mk (p.2.b.take lf) := mk_take _ _
              have hb63 : p.2.b.length ≤ 9223372036854775807 := by have := used_ge (List.mem_of_getElem? hp); have := hsm.out.bytes; omega
              have q1 : decide ((lf : Int) < (p.2.s : Int)) = false := by simpa using hl1
              have q2 : decide ((p.2.b.length : Int) < (lf : Int)) = false := by simpa using hl2
              have q3 : decide (lf < p.2.s) = false := by simpa using hl1
              have q4 : decide (p.2.b.length < lf) = false := by simpa using hl2
              have q5 : ¬ lf < p.2.s := by omega
              have q6 : ¬ p.2.b.length < lf := by omega
              clear hp hone e1 h1 hst hlf
              generalize hMT : mk (p.2.b.take lf) = mt at *
              generalize hMB : mk p.2.b = mb at *
              generalize hMN : mk p.1 = mn at *
              generalize p.2.s = sy at *
              generalize p.2.b.length = bl at *
              clear hMT hMB hMN
              generalize hKK : (crashF (s.fs.take j) keep).length = K at *
              generalize hKN : (crashF s.fs keep).length = KN at *
              clear hKK hKN
              go_wp2_with fail
              go_quiet (fail)
              go_wp2_with fail
              go_quiet (fail)
              go_wp2
              go_roundw
              case rel => exact ⟨j + 1, by omega, by go_num, by rw [HE.out]; first | (congr 1; omega) | simp, _, by rw [HWZ.out, World.drewN_drewN]⟩
              case measure => simp [intOf]; omega
          · have hj1i : ¬ (j : Int) < (s.fs.length : Int) := by omega
            have hje : s.fs.take j = s.fs := List.take_of_length_le (by omega)
            rw [hje]
            have D9 := Lib.hid (D8.out.below HB8.out)
            have K9 : Hid (Kept (From w.heap.size) w wr) := K8.out.trans (Kept.of_below HB8.out)
            have hsz9 : w8.heap.size ≤ wr.heap.size := HB8.out.size
            have hcs : Small (crashS s keep) := ⟨small_crash hcc keep, Nat.le_trans (crashF_used s.fs keep) hsm.out.bytes⟩
            have HCR := Lib.hid (Crash_any D9.out (fun j hj => ⟨by omega, .inr (by omega)⟩) hcs (fun p hp => by
              obtain ⟨z, hz, e⟩ := mem_crash (show p ∈ crashF s.fs keep from hp)
              rw [← e]; exact HKY.out z hz) _ keep ((HKP.out.kept K9.out).mono (fun j _ hj => hj.1)) hkl)
            rw [crash_twice HFIT.out] at HCR
            obtain ⟨w9, hw9⟩ : ∃ w9 : World, w9 = wr := ⟨_, rfl⟩
            subst hw9
            clear hje hcs hcl1
            go_wp2_with fail
            refine HCR.out.mono ?_
            rintro e w10 ⟨rfl, d10, k10⟩
            have D10 := Lib.hid d10
            have K10 : Hid (Kept (From w.heap.size) w w10) := K9.out.trans (k10.mono (fun j _ hj => hj.1))
            have HROW10 := Lib.hid (row_keepD HROW8.out (w' := w10) (fun g hg hlt => (k10.block g (Nat.lt_of_lt_of_le hlt hsz9) (fun h => h.2.elim (fun h => by omega) (fun h => by omega))).trans (HB8.out.block g hlt)))
            have HKA := Lib.hid (Kept_any d10 (small_crash hcc keep))
            clear d10 k10 HCR
            go_wp2_with fail
            refine HKA.out.mono ?_
            rintro e w11 ⟨kv3, rfl, hrow11, b11⟩
            have D11 := Lib.hid (D10.out.below b11)
            have K11 : Hid (Kept (From w.heap.size) w w11) := K10.out.trans (Kept.of_below b11)
            have HSK := Lib.hid (same_kept (fs := crashF s.fs keep) hrow11 (own_kept HROW10.out b11) hlcl)
            clear hrow11 b11 HKA
            go_wp2_with fail
            refine HSK.out.mono ?_
            rintro e w12 ⟨rfl, b12⟩
            have K12 : Hid (Kept (From w.heap.size) w w12) := K11.out.trans (Kept.of_below b12)
            have hdn := Down_any (D11.out.below b12)
            have hdf : (crashS s keep).down = false := rfl
            rw [hdf] at hdn
            clear b12 HSK hdf
            go_wp2_with fail
            refine hdn.mono ?_
            rintro e w13 ⟨rfl, rfl⟩
            go_wp2
            go_ret
            exact ⟨rfl, K12.out.below (Nat.le_refl _) (fun _ h => h)⟩
  · have HG := Lib.hid hguard
    have K0B := Lib.hid (K0.out.below (Nat.le_refl _) (fun _ h => h))
    clear hguard
    cases hv with
    | true =>
      go_wp2
      go_ret
      exact ⟨rfl, K0B.out⟩
    | false =>
      by_cases hg2 : name.size ≤ 8192
      · have hg3 : ¬ keep.length ≤ 8192 := fun h => HG.out ⟨rfl, hg2, h⟩
        have hg2i : ¬ (8192 : Int) < (name.size : Int) := by omega
        have hg3i : (8192 : Int) < (keep.length : Int) := by omega
        go_wp2
        go_ret
        exact ⟨rfl, K0B.out⟩
      · have hg2i : (8192 : Int) < (name.size : Int) := by omega
        go_wp2
        go_ret
        exact ⟨rfl, K0B.out⟩
end Go.Proofs.Ytnffjoflkeagfaa
