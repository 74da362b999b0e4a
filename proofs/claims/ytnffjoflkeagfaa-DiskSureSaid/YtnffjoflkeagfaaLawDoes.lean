/- Whatever is done, in whatever order: each call answers, and the files are, as the document says. -/
import Derived.Test.YtnffjoflkeagfaaDoes
namespace Go.Proofs.Ytnffjoflkeagfaa
open Go.RowKit Go.Maps

theorem Pair.mid {A B C : (Nat → Prop) → World → Prop} {S : Nat → Prop} {w : World} (h : Pair (Pair A B) C S w) : Pair (Pair A C) B S w := by
  obtain ⟨Sab, Sc, ⟨Sa, Sb, a, b, d1, d2, d3⟩, c, e1, e2, e3⟩ := h
  exact ⟨fun k => Sa k ∨ Sc k, Sb, ⟨Sa, Sc, a, c, fun k h1 h2 => e1 k (d2 k h1).1 h2, fun k hk => ⟨.inl hk, (d2 k hk).2⟩, fun k hk => ⟨.inr hk, (e3 k hk).2⟩⟩, b,
    fun k h1 h2 => h1.elim (fun h => d1 k h h2) (fun h => e1 k (d3 k h2).1 h), fun k hk => hk.elim (fun h => e2 k (d2 k h).1) (fun h => e3 k h), fun k hk => e2 k (d3 k hk).1⟩
theorem own_kept {w w' : World} {B : Nat} {e : TypeId} {sz : Nat} {v : Value} {n : Nat} {xs : List Value} (h : w.ownsRow B e sz v n xs) (hb : Below w.heap.size w w') : w'.ownsRow B e sz v n xs := by
  have hlt := h.lt
  obtain ⟨h1, h2⟩ := h
  refine ⟨h1, ?_⟩
  rcases h2 with h2 | ⟨g, cap, cur, rfl, hB, hg, r⟩
  · exact .inl h2
  · exact .inr ⟨g, cap, cur, rfl, hB, (hb.block g (hlt g rfl).2).trans hg, r⟩
set_option maxHeartbeats 2000000 in
theorem same_texts {w : World} {B1 B2 : Nat} {v1 v2 : Value} {l : List ByteArray} (h1 : w.ownsRow B1 9 1 v1 l.length (l.map Value.string)) (h2 : w.ownsRow B2 9 1 v2 l.length (l.map Value.string)) (hn : l.length ≤ 1099511627776) :
    Calls Try.prog 19 #[v1, v2] w fun e w' => e = .returned (.bool true) ∧ Below w.heap.size w w' := by
  obtain ⟨a1, c1, rfl⟩ := row_slice h1
  obtain ⟨a2, c2, rfl⟩ := row_slice h2
  have H1 := Lib.hid h1
  have H2 := Lib.hid h2
  clear h1 h2
  go_enter Try.func19, Try.ntmps19
  go_wp2
  go_loopw [5] (fun i wr => ∃ k : Nat, k ≤ l.length ∧ i = .int .i64 k ∧ Below w.heap.size w wr) (fun i _ => l.length - (intOf i).toNat)
  case atStart => exact ⟨0, by omega, rfl, Below.refl _ _⟩
  case round =>
    obtain ⟨k, hk, rfl, hb⟩ := hrel
    have HB := Lib.hid hb
    clear hb
    by_cases hlt : k < l.length
    · have hlti : (k : Int) < (l.length : Int) := by omega
      obtain ⟨x, hx⟩ : ∃ x, l[k]? = some x := ⟨l[k], List.getElem?_eq_getElem hlt⟩
      obtain ⟨g, cap, e, hc1, lg, _, x0⟩ := row_cell H1.out (j := k) (u := .string x) (by rw [List.getElem?_map, hx]; rfl)
      obtain ⟨g', cap', e', hc2, lg', _, y0⟩ := row_cell H2.out (j := k) (u := .string x) (by rw [List.getElem?_map, hx]; rfl)
      cases e
      cases e'
      have x1 : _ = _ := (HB.out.cell (p := ⟨g, k, none⟩) lg).trans x0
      have y1 : _ = _ := (HB.out.cell (p := ⟨g', k, none⟩) lg').trans y0
      clear hx x0 y0
      go_wp2
      go_quiet (fail)
      go_wp2
      go_roundw
      case rel => exact ⟨k + 1, by omega, by go_num, below_drewN HB.out _⟩
      case measure => simp [intOf]; omega
    · have hlti : ¬ (k : Int) < (l.length : Int) := by omega
      go_wp2
      go_ret
      exact ⟨rfl, HB.out⟩
theorem names_map (fs : Fs) : fs.map (fun p => Value.string (mk p.1)) = (fs.map (fun p => mk p.1)).map Value.string := by simp
/-- reads that draw -/
theorem used_q {S : Nat → Prop} {w : World} {db : Nat} {s : St} (h : DiskAt S w db s) (q : Nat) : Calls Try.prog 16 #[ptrV db] (w.drewN q) fun e w' => e = .returned (.int .i64 (usedF s.fs : Int)) ∧ w' = w.drewN q :=
  (Used_any (h.below (below_drewN (Below.refl _ _) q))).mono (fun _ _ hh => ⟨hh.1, hh.2.symm⟩)
theorem down_q {S : Nat → Prop} {w : World} {db : Nat} {s : St} (h : DiskAt S w db s) (q : Nat) : Calls Try.prog 18 #[ptrV db] (w.drewN q) fun e w' => e = .returned (.bool s.down) ∧ w' = w.drewN q :=
  (Down_any (h.below (below_drewN (Below.refl _ _) q))).mono (fun _ _ hh => ⟨hh.1, hh.2.symm⟩)
theorem refUsed_q {S : Nat → Prop} {w : World} {rb : Nat} {s : St} (h : RefAt S w rb s) (hc : s.fs.length ≤ 1099511627776) (q : Nat) : Calls Try.prog 17 #[ptrV rb] (w.drewN q) fun e w' => e = .returned (.int .i64 (usedF s.fs : Int)) ∧ w' = w.drewN q :=
  (refUsed_any (h.below (below_drewN (Below.refl _ _) q)) hc).mono (fun _ _ hh => ⟨hh.1, hh.2.symm⟩)
set_option maxHeartbeats 8000000 in
set_option maxRecDepth 100000 in
theorem law_does (room : Int) (v : Value) (l : List ActV) (w : World) (hl : ActsOff (From w.heap.size) w v l) (hln : l.length ≤ 9223372036854775807)
    (hkx : ∀ x ∈ l, x.keep.length ≤ 140737488355328 ∧ x.name.size ≤ 140737488355328 ∧ x.b.size ≤ 140737488355328 ∧ x.k < 256 ∧ -9223372036854775808 ≤ x.n ∧ x.n ≤ 9223372036854775807)
    (_hr0 : -9223372036854775808 ≤ room) (hr1 : room ≤ 9223372036854775807) :
    Calls Try.prog 3 #[.int .i64 room, v] w fun e w' => e = .returned (.bool true) ∧ Below w.heap.size w w' := by
  have hw := works_any w
  obtain ⟨va, vc, rfl⟩ := hl.slice
  have HL := Lib.hid hl
  have HX := Lib.hid hkx
  clear hl hkx
  go_enter Try.func3, Try.ntmps3
  go_wp2_with fail
  refine hw.mono ?_
  rintro e w00 ⟨rfl, b00⟩
  have hh := heavy_any (HL.out.kept (Kept.of_below b00)) hln (fun x hx => by obtain ⟨h1, h2, h3, _⟩ := HX.out x hx; exact ⟨by omega, by omega, by omega⟩)
  have B00 := Lib.hid b00
  clear b00 hw
  go_wp2_with fail
  refine hh.mono ?_
  rintro e w0 ⟨hv, rfl, hhv, b0⟩
  have K0 : Hid (Kept (From w.heap.size) w w0) := (Kept.of_below B00.out).trans (Kept.of_below b0)
  clear b0 hh B00
  cases hv with
  | true =>
    go_wp2
    go_ret
    exact ⟨rfl, K0.out.below (Nat.le_refl _) (fun _ h => h)⟩
  | false =>
    obtain ⟨hlen, hws⟩ := hhv rfl
    have hbt : Hid (bytesT l ≤ 140737488355328) := bytesT_le (by decide) (fun x hx => (HX.out x hx).2.2.1) hws
    clear hhv hws
    go_wp2_with fail
    refine (New_any (S := From w.heap.size) w0 (fun k hk => Nat.le_trans K0.out.size hk) room hr1).mono ?_
    rintro e w1 ⟨rfl, d1, b1⟩
    have D1 := Lib.hid d1
    have K1 : Hid (Kept (From w.heap.size) w w1) := K0.out.trans (Kept.of_below b1)
    clear d1 b1
    generalize hdb : w0.heap.size = db at *
    clear hdb
    go_wp2_with fail
    refine (New_any (S := fun k => w1.heap.size ≤ k) w1 (fun k hk => hk) 5 (by decide)).mono ?_
    rintro e w2 ⟨rfl, d2, b2⟩
    have P2 : Hid (Pair (DiskQ db (newS room)) (DiskQ w1.heap.size (newS 5)) (From w.heap.size) w2) := Pair.of (diskThing _ _) (diskThing _ _) D1.out b2 d2 (fun k hk => Nat.le_trans K1.out.size hk)
    have K2 : Hid (Kept (From w.heap.size) w w2) := K1.out.trans (Kept.of_below b2)
    clear d2 b2
    generalize hob : w1.heap.size = ob at *
    clear hob
    go_wp2_with fail
    refine (refNew_any (S := fun k => w2.heap.size ≤ k) w2 (fun k hk => hk) room hr1).mono ?_
    rintro e w3 ⟨rfl, d3, b3⟩
    have P3 : Hid (Pair (BothQ db w2.heap.size (newS room)) (DiskQ ob (newS 5)) (From w.heap.size) w3) := Pair.mid (Pair.of (pairThing (diskThing _ _) (diskThing _ _)) (refThing _ _) P2.out b3 d3 (fun k hk => Nat.le_trans K2.out.size hk))
    have K3 : Hid (Kept (From w.heap.size) w w3) := K2.out.trans (Kept.of_below b3)
    clear d3 b3
    generalize hrb : w2.heap.size = rb at *
    clear hrb
    go_wp2
    go_loopw [10] (fun i wr => ∃ (k : Nat) (s : St), k ≤ l.length ∧ i = .int .i64 k ∧ Pair (BothQ db rb s) (DiskQ ob (newS 5)) (From w.heap.size) wr ∧ Kept (From w.heap.size) w wr ∧ Most s k (bytesT (l.take k)) 140737488355328) (fun i _ => l.length - (intOf i).toNat)
    case atStart => exact ⟨0, _, by omega, rfl, P3.out, K3.out, ⟨by simp [newS], by simp [newS, usedF], by simp [newS]⟩⟩
    case round =>
      obtain ⟨k, s, hk1, rfl, hd, hkp, hmo⟩ := hrel
      have HP := Lib.hid hd
      have HK := Lib.hid hkp
      have HMO := Lib.hid hmo
      have hcnt := hmo.count
      have hBw : w.heap.size ≤ wr.heap.size := hkp.size
      clear hd hkp hmo
      by_cases h1 : k < l.length
      · have h1i : (k : Int) < (l.length : Int) := by omega
        obtain ⟨x, hx⟩ : ∃ x, l[k]? = some x := ⟨l[k], List.getElem?_eq_getElem h1⟩
        obtain ⟨hx1, hx2, hx3, hx4, hx5, hx6⟩ := HX.out x (List.mem_of_getElem? hx)
        have HBT : Hid (bytesT (l.take (k + 1)) = bytesT (l.take k) + x.b.size) := by show _ = _; rw [take_snocA _ _ _ hx, bytesT_snoc]
        have HBG : Hid (usedF s.fs + x.b.size ≤ 140737488355328) := by
          show _ ≤ _
          have := HMO.out.bytes; have := bytesT_take l (k + 1); have := hbt.out; have := HBT.out; omega
        have HKY : Hid (∀ p ∈ s.fs, p.1.length ≤ 281474976710656) := fun p hp => by have := HMO.out.keys p hp; omega
        have hfit : Hid (Fit s) := DiskAt.fit (Pair.fst (diskThing _ _) (Pair.fst (bothThing _ _ _) HP.out) : DiskAt _ wr db s)
        have hmo' := most_step HMO.out hfit.out.sorted x hx2
        rw [← HBT.out] at hmo'
        have HMO' := Lib.hid hmo'
        have hcnt' := hmo'.count
        obtain ⟨ba, off, ka, kc, rfl, _, hcap, _, hkv, c0, c1, c2, c3, c4, hko⟩ := act_get (HL.out.kept HK.out) hx
        have HCL := Lib.hid (Pair.step1 (bothThing _ _ _) (bothThing db rb (stepS s x)) (diskThing _ _) HP.out (fun j hj => Nat.le_trans hBw hj) (X := fun e _ => e = .returned (.bool true)) (fun T hT hTS hq => does_any hq hT x hx4 hx2 hx3 hx5 hx6 hx1 (by omega) HBG.out HKY.out (by rw [hkv]; exact hko.mono (fun j _ hj => hTS j hj))))
        rw [hkv] at HCL
        clear hx hko hmo'
        generalize stepS s x = s' at *
        go_wp2_with fail
        refine HCL.out.mono ?_
        rintro e w7 ⟨rfl, p7, k7⟩
        have P7 := Lib.hid p7
        have K7 : Hid (Kept (From w.heap.size) w w7) := HK.out.trans k7
        have HKA := Lib.hid (Kept_any (Pair.fst (diskThing _ _) (Pair.fst (bothThing _ _ _) p7) : DiskAt _ w7 db s') (by omega))
        clear p7 k7 HCL c0 c1 c2 c3 c4
        go_wp2_with fail
        refine HKA.out.mono ?_
        rintro e w8 ⟨kv1, rfl, hrow1, b8⟩
        have P8 := Lib.hid ((pairThing (bothThing _ _ _) (diskThing _ _)).below P7.out b8)
        have K8 : Hid (Kept (From w.heap.size) w w8) := K7.out.trans (Kept.of_below b8)
        have HROW1 := Lib.hid hrow1
        have HKR := Lib.hid (refKept_any (Pair.snd (refThing _ _) (Pair.fst (bothThing _ _ _) P8.out) : RefAt _ w8 rb s') (by omega))
        clear hrow1 b8 HKA
        go_wp2_with fail
        refine HKR.out.mono ?_
        rintro e w9 ⟨kv2, rfl, hrow2, b9⟩
        have P9 := Lib.hid ((pairThing (bothThing _ _ _) (diskThing _ _)).below P8.out b9)
        have K9 : Hid (Kept (From w.heap.size) w w9) := K8.out.trans (Kept.of_below b9)
        have HSK := Lib.hid (same_kept (own_kept HROW1.out b9) hrow2 (by omega))
        clear hrow2 b9 HKR
        go_wp2_with fail
        refine HSK.out.mono ?_
        rintro e w10 ⟨rfl, b10⟩
        have P10 := Lib.hid ((pairThing (bothThing _ _ _) (diskThing _ _)).below P9.out b10)
        have K10 : Hid (Kept (From w.heap.size) w w10) := K9.out.trans (Kept.of_below b10)
        have D10 := Lib.hid (Pair.fst (diskThing _ _) (Pair.fst (bothThing _ _ _) P10.out) : DiskAt (From w.heap.size) w10 db s')
        have hr10 : RefAt (From w.heap.size) w10 rb s' := Pair.snd (refThing _ _) (Pair.fst (bothThing _ _ _) P10.out)
        obtain ⟨fv, wv, left, hr10'⟩ := hr10
        have c2 := hr10'.c2
        have R10 := Lib.hid hr10'
        clear b10 HSK hr10'
        have HU1 := Lib.hid (used_q D10.out)
        have HU2 := Lib.hid (refUsed_q ⟨_, _, _, R10.out⟩ (Nat.le_trans hcnt' (by omega)))
        have HD1 := Lib.hid (down_q D10.out)
        generalize s'.down = dn at *
        generalize usedF s'.fs = uf at *
        go_wp2_with fail
        go_quiet (first
          | (go_at_call 16; exact Calls.quiet_of_same (HU1.out _))
          | (go_at_call 17; exact Calls.quiet_of_same (HU2.out _))
          | (go_at_call 18; exact Calls.quiet_of_same (HD1.out _)))
        go_wp2
        go_roundw
        case rel => exact ⟨k + 1, s', by omega, by go_num, (pairThing (bothThing _ _ _) (diskThing _ _)).below P10.out (below_drewN (Below.refl _ _) _), K10.out.trans ((Kept.refl _ _).drewN _), HMO'.out⟩
        case measure => simp [intOf]; omega
      · have h1i : ¬ (k : Int) < (l.length : Int) := by omega
        have HN1 := Lib.hid (Names_any (Pair.fst (diskThing _ _) (Pair.fst (bothThing _ _ _) HP.out) : DiskAt _ wr db s) (by omega))
        go_wp2_with fail
        refine HN1.out.mono ?_
        rintro e w8 ⟨kv1, rfl, hrow1, b8⟩
        have P8 := Lib.hid ((pairThing (bothThing _ _ _) (diskThing _ _)).below HP.out b8)
        have K8 : Hid (Kept (From w.heap.size) w w8) := HK.out.trans (Kept.of_below b8)
        have HROW1 := Lib.hid hrow1
        have HKR := Lib.hid (refNames_any (Pair.snd (refThing _ _) (Pair.fst (bothThing _ _ _) P8.out) : RefAt _ w8 rb s) (by omega))
        clear hrow1 b8 HN1
        go_wp2_with fail
        refine HKR.out.mono ?_
        rintro e w9 ⟨kv2, rfl, hrow2, b9⟩
        have P9 := Lib.hid ((pairThing (bothThing _ _ _) (diskThing _ _)).below P8.out b9)
        have K9 : Hid (Kept (From w.heap.size) w w9) := K8.out.trans (Kept.of_below b9)
        have hr1' := own_kept HROW1.out b9
        unfold nameL at hrow2
        rw [names_map] at hr1' hrow2
        have HSK := Lib.hid (same_texts (l := s.fs.map (fun p => mk p.1)) (by rw [List.length_map]; exact hr1') (by rw [List.length_map]; exact hrow2) (by rw [List.length_map]; omega))
        clear hrow2 b9 HKR hr1'
        go_wp2_with fail
        refine HSK.out.mono ?_
        rintro e w10 ⟨rfl, b10⟩
        have P10 := Lib.hid ((pairThing (bothThing _ _ _) (diskThing _ _)).below P9.out b10)
        have K10 : Hid (Kept (From w.heap.size) w w10) := K9.out.trans (Kept.of_below b10)
        have hu : usedF (newS 5).fs = 0 := rfl
        have hus := Used_any (Pair.snd (diskThing _ _) P10.out : DiskAt _ w10 ob (newS 5))
        rw [hu] at hus
        clear b10 HSK hu
        go_wp2_with fail
        refine hus.mono ?_
        rintro e w11 ⟨rfl, rfl⟩
        go_wp2
        go_ret
        exact ⟨rfl, K10.out.below (Nat.le_refl _) (fun _ h => h)⟩
end Go.Proofs.Ytnffjoflkeagfaa
