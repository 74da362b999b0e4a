/- All files together never have more bytes than there is room; a call that errs has changed nothing. Printed by genroom.py. -/
import Derived.Test.YtaepjknmedemgaaSame
import Derived.Deep.DeepCutAuto
import Derived.Deep.CutBlock
import Derived.StillTailTactics
import Derived.Sort.Walk0
namespace Go.Proofs.Ytaepjknmedemgaa
open Go.RowKit Go.Maps

theorem ListOff.kept' {S : Nat → Prop} {w w' : World} {v : Value} {n : Nat} {xs : List Value} (h : ListOff S w v n xs) (hb : Below w.heap.size w w') : ListOff S w' v n xs := h.kept (Kept.of_below hb)
theorem changeS_tri (s : St) (e : Int) (f1 f2 : Fs) : (changeS s e f1 f2).1 = 0 ∨ (changeS s e f1 f2).2 = s ∨ (s.down = false ∧ (changeS s e f1 f2).2.down = true) := by
  by_cases hd : s.down = true
  · rw [changeS_down hd]; exact .inr (.inl rfl)
  · have hd' : s.down = false := by simpa using hd
    by_cases he : e = 0
    · cases hb : brkB s with
      | true =>
        right; right
        refine ⟨hd', ?_⟩
        rw [changeS_torn hd' he hb]
        unfold brkB at hb
        simp only [Bool.and_eq_true, beq_iff_eq] at hb
        show (brkS s).down = true
        unfold brkS
        rw [if_pos hb.1, if_pos hb.2]
      | false => rw [changeS_whole hd' he hb]; exact .inl rfl
    · rw [changeS_err hd' he]; exact .inr (.inl rfl)
theorem step_room (s : St) (x : ActV) : (stepS s x).room = s.room := by
  unfold stepS
  split
  · exact changeS_room _ _ _ _
  split
  · exact changeS_room _ _ _ _
  split
  · exact changeS_room _ _ _ _
  split
  · exact changeS_room _ _ _ _
  split
  · exact changeS_room _ _ _ _
  split
  · rfl
  split
  · unfold breakS; split <;> rfl
  split <;> rfl
theorem bytes_less : ∀ {x y : List UInt8}, x < y → Op.bytesLess x y = true := by
  intro x y h
  rw [Go.Proofs.bytesLess_eq]; simpa using h
theorem row_keep {w w' : World} {B : Nat} {e : TypeId} {sz : Nat} {v : Value} {n : Nat} {xs : List Value} (h : w.ownsRow B e sz v n xs) (hk : ∀ g, B ≤ g → g < w.heap.size → w'.heap[g]? = w.heap[g]?) : w'.ownsRow B e sz v n xs := by
  obtain ⟨h1, h2⟩ := h
  refine ⟨h1, ?_⟩
  rcases h2 with h2 | ⟨g, cap, cur, rfl, hB, hg, r⟩
  · exact .inl h2
  · exact .inr ⟨g, cap, cur, rfl, hB, (hk g hB (Array.getElem?_eq_some_iff.1 hg).1).trans hg, r⟩
set_option maxHeartbeats 8000000 in
set_option maxRecDepth 100000 in
theorem law_room (room : Int) (v : Value) (l : List ActV) (w : World) (hl : ActsOff (From w.heap.size) w v l) (hln : l.length ≤ 9223372036854775807)
    (hkx : ∀ x ∈ l, x.keep.length ≤ 140737488355328 ∧ x.name.size ≤ 140737488355328 ∧ x.b.size ≤ 140737488355328 ∧ x.k < 256 ∧ -9223372036854775808 ≤ x.n ∧ x.n ≤ 9223372036854775807)
    (_hr0 : -9223372036854775808 ≤ room) (hr1 : room ≤ 9223372036854775807) :
    Calls Try.prog 5 #[.int .i64 room, v] w fun e w' => e = .returned (.bool true) ∧ Below w.heap.size w w' := by
  have hw := works_any w
  obtain ⟨va, vc, rfl⟩ := hl.slice
  have HL := Lib.hid hl
  have HX := Lib.hid hkx
  clear hl hkx
  go_enter Try.func5, Try.ntmps5
  go_wp2_with fail
  refine hw.mono ?_
  rintro e w00 ⟨rfl, b00⟩
  have hh := heavy_any (HL.out.kept (Kept.of_below b00)) hln (fun x hx => by obtain ⟨h1, h2, h3, _⟩ := HX.out x hx; exact ⟨by omega, by omega, by omega⟩)
  have B00 := Lib.hid b00
  clear b00 hw
  go_wp2_with fail
  refine hh.mono ?_
  rintro e w0 ⟨hv, rfl, hhv, b0⟩
  have K0 : Hid (Kept (From w.heap.size) w w0) := (Kept.of_below B00.out).trans (Kept.of_below b0)
  clear b0 hh B00
  cases hv with
  | true =>
    go_wp2
    go_ret
    exact ⟨rfl, K0.out.below (Nat.le_refl _) (fun _ h => h)⟩
  | false =>
    obtain ⟨hlen, hws⟩ := hhv rfl
    have hbt : Hid (bytesT l ≤ 140737488355328) := bytesT_le (by decide) (fun x hx => (HX.out x hx).2.2.1) hws
    clear hhv hws
    go_wp2_with fail
    refine (New_any (S := From w.heap.size) w0 (fun k hk => Nat.le_trans K0.out.size hk) room hr1).mono ?_
    rintro e w1 ⟨rfl, d1, b1⟩
    have D1 := Lib.hid d1
    have K1 : Hid (Kept (From w.heap.size) w w1) := K0.out.trans (Kept.of_below b1)
    clear d1 b1
    generalize hdb : w0.heap.size = db at *
    clear hdb
    have hrm : ((newS room).room : Int) = max room 0 := by simp only [newS]; omega
    have HRM := Lib.hid hrm
    clear hrm
    go_wp2
    go_loopw [8] (fun i wr => ∃ (k : Nat) (s : St), k ≤ l.length ∧ i = .int .i64 k ∧ DiskAt (From w.heap.size) wr db s ∧ Kept (From w.heap.size) w wr ∧ Most s k (bytesT (l.take k)) 140737488355328 ∧ (s.room : Int) = max room 0) (fun i _ => l.length - (intOf i).toNat)
    case atStart => exact ⟨0, _, by omega, rfl, D1.out, K1.out, ⟨by simp [newS], by simp [newS, usedF], by simp [newS]⟩, HRM.out⟩
    case round =>
      obtain ⟨k, s, hk1, rfl, hd, hkp, hmo, hrm⟩ := hrel
      have HD := Lib.hid hd
      have HK := Lib.hid hkp
      have HMO := Lib.hid hmo
      have HRMk := Lib.hid hrm
      have hcnt := hmo.count
      have hBw : w.heap.size ≤ wr.heap.size := hkp.size
      clear hd hkp hmo hrm
      by_cases h1 : k < l.length
      · have h1i : (k : Int) < (l.length : Int) := by omega
        obtain ⟨x, hx⟩ : ∃ x, l[k]? = some x := ⟨l[k], List.getElem?_eq_getElem h1⟩
        obtain ⟨hx1, hx2, hx3, hx4, hx5, hx6⟩ := HX.out x (List.mem_of_getElem? hx)
        have HBT : Hid (bytesT (l.take (k + 1)) = bytesT (l.take k) + x.b.size) := by show _ = _; rw [take_snocA _ _ _ hx, bytesT_snoc]
        have HBG : Hid (usedF s.fs + x.b.size ≤ 140737488355328) := by
          show _ ≤ _
          have := HMO.out.bytes; have := bytesT_take l (k + 1); have := hbt.out; have := HBT.out; omega
        have hsm : Hid (Small s) := ⟨by omega, by have := HBG.out; omega⟩
        have HKY : Hid (∀ p ∈ s.fs, p.1.length ≤ 281474976710656) := fun p hp => by have := HMO.out.keys p hp; omega
        have hkept := Kept_any HD.out (by omega)
        have HXX := Lib.hid hx
        clear hx
        go_wp2_with fail
        refine hkept.mono ?_
        rintro e w5 ⟨kv, rfl, hrow, b5⟩
        obtain ⟨ra, rc, rfl⟩ := row_slice hrow
        have HR1 := Lib.hid hrow
        have hszb : wr.heap.size ≤ w5.heap.size := b5.size
        have DT5 : Hid (DiskAt (fun j => w.heap.size ≤ j ∧ (j < wr.heap.size ∨ w5.heap.size ≤ j)) w5 db s) := (DiskAt.mono (DiskAt.tight HD.out) (fun j _ hj => ⟨hj.1, .inl hj.2⟩)).below b5
        have K5 : Hid (Kept (From w.heap.size) w w5) := HK.out.trans (Kept.of_below b5)
        have HB5 := Lib.hid b5
        clear hrow b5 hkept
        obtain ⟨dn, hdn0⟩ : ∃ b : Bool, b = s.down := ⟨_, rfl⟩
        have n5 := Down_any DT5.out
        rw [← hdn0] at n5
        have N5 := Lib.hid n5
        have HDN := Lib.hid hdn0
        clear hdn0 n5
        go_wp2_with fail
        refine N5.out.mono ?_
        rintro e w6 ⟨rfl, rfl⟩
        obtain ⟨ba, off, ka, kc, rfl, _, hcap, _, _, c0, c1, c2, c3, c4, hko⟩ := act_get (HL.out.kept K5.out) HXX.out
        obtain ⟨r, hr⟩ : ∃ r, r = x.k % 9 := ⟨_, rfl⟩
        have hr9 : r < 9 := by omega
        have hst : Hid (x.k % 9 = r) := hr.symm
        have hit : ((x.k : Int)).tmod 9 = (r : Int) := by rw [Int.tmod_eq_emod_of_nonneg (by omega)]; omega
        clear hr
        go_upto_block 2 with fail
        go_cut [11] (fun e wx => ∃ er : Int, e = .int .i64 er ∧ DiskAt (From w.heap.size) wx db (stepS s x) ∧ Kept (fun j => w.heap.size ≤ j ∧ (j < wr.heap.size ∨ w5.heap.size ≤ j)) w5 wx ∧ (er = 0 ∨ stepS s x = s ∨ (s.down = false ∧ (stepS s x).down = true)))
        case first =>
          have hr10 : r = 0 ∨ r = 1 ∨ r = 2 ∨ r = 3 ∨ r = 4 ∨ r = 5 ∨ r = 6 ∨ r = 7 ∨ r = 8 := by omega
          clear hr9
          rcases hr10 with rfl | rfl | rfl | rfl | rfl | rfl | rfl | rfl | rfl
          · as_aux_lemma =>
            have hit0 : ((x.k : Int)).tmod 9 = 0 := hit
            clear hit
            have hse : Hid (stepS s x = (appendS s (bs x.name) (bs x.b)).2) := by show _ = _; unfold stepS; rw [if_pos hst.out]
            have hac := fun wx (hb : Below w5.heap.size w5 wx) => (act_calls (S := fun j => w.heap.size ≤ j ∧ (j < wr.heap.size ∨ w5.heap.size ≤ j)) (DT5.out.below hb) (fun j hj => by have := hb.size; exact ⟨by omega, .inr (by omega)⟩) hsm.out HKY.out x.name x.b x.n (by omega) HBG.out (by omega) _ x.keep ((hko.mono (fun j _ hj => hj.1)).kept' hb) (by omega)).1
            have HAC := Lib.hid hac
            clear hac
            have htri : Hid ((appendS s (bs x.name) (bs x.b)).1 = 0 ∨ (appendS s (bs x.name) (bs x.b)).2 = s ∨ (s.down = false ∧ (appendS s (bs x.name) (bs x.b)).2.down = true)) := changeS_tri _ _ _ _
            generalize hR : appendS s (bs x.name) (bs x.b) = R at *
            clear hR
            go_wp2_with fail
            go_still_tail 11, (by kernel_rfl)
            change wpList _ _ _ _ _ w5.drew
            go_wp2_with fail
            refine (HAC.out _ ((Below.refl _ _).drew)).mono ?_
            rintro e w7 ⟨rfl, d7, k7⟩
            have D7 := Lib.hid d7
            have K7 : Hid (Kept (fun j => w.heap.size ≤ j ∧ (j < wr.heap.size ∨ w5.heap.size ≤ j)) w5 w7) := ((Kept.refl _ _).drewN 1 : Kept _ w5 w5.drew).trans k7
            clear d7 k7
            go_wp2_with fail
            go_meet
            case rel => exact ⟨R.1, rfl, by rw [hse.out]; exact D7.out.mono (fun j _ hj => hj.1), K7.out, by rw [hse.out]; exact htri.out⟩
          · as_aux_lemma =>
            have hit0 : ((x.k : Int)).tmod 9 = 1 := hit
            clear hit
            have hse : Hid (stepS s x = (syncS s (bs x.name)).2) := by show _ = _; unfold stepS; rw [if_neg (by rw [hst.out]; decide)]; rw [if_pos hst.out]
            have hac := fun wx (hb : Below w5.heap.size w5 wx) => (act_calls (S := fun j => w.heap.size ≤ j ∧ (j < wr.heap.size ∨ w5.heap.size ≤ j)) (DT5.out.below hb) (fun j hj => by have := hb.size; exact ⟨by omega, .inr (by omega)⟩) hsm.out HKY.out x.name x.b x.n (by omega) HBG.out (by omega) _ x.keep ((hko.mono (fun j _ hj => hj.1)).kept' hb) (by omega)).2.1
            have HAC := Lib.hid hac
            clear hac
            have htri : Hid ((syncS s (bs x.name)).1 = 0 ∨ (syncS s (bs x.name)).2 = s ∨ (s.down = false ∧ (syncS s (bs x.name)).2.down = true)) := changeS_tri _ _ _ _
            generalize hR : syncS s (bs x.name) = R at *
            clear hR
            go_wp2_with fail
            refine (HAC.out _ (Below.refl _ _)).mono ?_
            rintro e w7 ⟨rfl, d7, k7⟩
            have D7 := Lib.hid d7
            have K7 : Hid (Kept (fun j => w.heap.size ≤ j ∧ (j < wr.heap.size ∨ w5.heap.size ≤ j)) w5 w7) := k7
            clear d7 k7
            go_wp2_with fail
            go_meet
            case rel => exact ⟨R.1, rfl, by rw [hse.out]; exact D7.out.mono (fun j _ hj => hj.1), K7.out, by rw [hse.out]; exact htri.out⟩
          · as_aux_lemma =>
            have hit0 : ((x.k : Int)).tmod 9 = 2 := hit
            clear hit
            have hse : Hid (stepS s x = (cutS s (bs x.name) x.n).2) := by show _ = _; unfold stepS; rw [if_neg (by rw [hst.out]; decide)]; rw [if_neg (by rw [hst.out]; decide)]; rw [if_pos hst.out]
            have hac := fun wx (hb : Below w5.heap.size w5 wx) => (act_calls (S := fun j => w.heap.size ≤ j ∧ (j < wr.heap.size ∨ w5.heap.size ≤ j)) (DT5.out.below hb) (fun j hj => by have := hb.size; exact ⟨by omega, .inr (by omega)⟩) hsm.out HKY.out x.name x.b x.n (by omega) HBG.out (by omega) _ x.keep ((hko.mono (fun j _ hj => hj.1)).kept' hb) (by omega)).2.2.1
            have HAC := Lib.hid hac
            clear hac
            have htri : Hid ((cutS s (bs x.name) x.n).1 = 0 ∨ (cutS s (bs x.name) x.n).2 = s ∨ (s.down = false ∧ (cutS s (bs x.name) x.n).2.down = true)) := changeS_tri _ _ _ _
            generalize hR : cutS s (bs x.name) x.n = R at *
            clear hR
            go_wp2_with fail
            go_still_tail 11, (by kernel_rfl)
            change wpList _ _ _ _ _ w5.drew
            go_wp2_with fail
            refine (HAC.out _ ((Below.refl _ _).drew)).mono ?_
            rintro e w7 ⟨rfl, d7, k7⟩
            have D7 := Lib.hid d7
            have K7 : Hid (Kept (fun j => w.heap.size ≤ j ∧ (j < wr.heap.size ∨ w5.heap.size ≤ j)) w5 w7) := ((Kept.refl _ _).drewN 1 : Kept _ w5 w5.drew).trans k7
            clear d7 k7
            go_wp2_with fail
            go_meet
            case rel => exact ⟨R.1, rfl, by rw [hse.out]; exact D7.out.mono (fun j _ hj => hj.1), K7.out, by rw [hse.out]; exact htri.out⟩
          · as_aux_lemma =>
            have hit0 : ((x.k : Int)).tmod 9 = 3 := hit
            clear hit
            have hse : Hid (stepS s x = (replaceS s (bs x.name) (bs x.b)).2) := by show _ = _; unfold stepS; rw [if_neg (by rw [hst.out]; decide)]; rw [if_neg (by rw [hst.out]; decide)]; rw [if_neg (by rw [hst.out]; decide)]; rw [if_pos hst.out]
            have hac := fun wx (hb : Below w5.heap.size w5 wx) => (act_calls (S := fun j => w.heap.size ≤ j ∧ (j < wr.heap.size ∨ w5.heap.size ≤ j)) (DT5.out.below hb) (fun j hj => by have := hb.size; exact ⟨by omega, .inr (by omega)⟩) hsm.out HKY.out x.name x.b x.n (by omega) HBG.out (by omega) _ x.keep ((hko.mono (fun j _ hj => hj.1)).kept' hb) (by omega)).2.2.2.1
            have HAC := Lib.hid hac
            clear hac
            have htri : Hid ((replaceS s (bs x.name) (bs x.b)).1 = 0 ∨ (replaceS s (bs x.name) (bs x.b)).2 = s ∨ (s.down = false ∧ (replaceS s (bs x.name) (bs x.b)).2.down = true)) := changeS_tri _ _ _ _
            generalize hR : replaceS s (bs x.name) (bs x.b) = R at *
            clear hR
            go_wp2_with fail
            go_still_tail 11, (by kernel_rfl)
            change wpList _ _ _ _ _ w5.drew
            go_wp2_with fail
            refine (HAC.out _ ((Below.refl _ _).drew)).mono ?_
            rintro e w7 ⟨rfl, d7, k7⟩
            have D7 := Lib.hid d7
            have K7 : Hid (Kept (fun j => w.heap.size ≤ j ∧ (j < wr.heap.size ∨ w5.heap.size ≤ j)) w5 w7) := ((Kept.refl _ _).drewN 1 : Kept _ w5 w5.drew).trans k7
            clear d7 k7
            go_wp2_with fail
            go_meet
            case rel => exact ⟨R.1, rfl, by rw [hse.out]; exact D7.out.mono (fun j _ hj => hj.1), K7.out, by rw [hse.out]; exact htri.out⟩
          · as_aux_lemma =>
            have hit0 : ((x.k : Int)).tmod 9 = 4 := hit
            clear hit
            have hse : Hid (stepS s x = (removeS s (bs x.name)).2) := by show _ = _; unfold stepS; rw [if_neg (by rw [hst.out]; decide)]; rw [if_neg (by rw [hst.out]; decide)]; rw [if_neg (by rw [hst.out]; decide)]; rw [if_neg (by rw [hst.out]; decide)]; rw [if_pos hst.out]
            have hac := fun wx (hb : Below w5.heap.size w5 wx) => (act_calls (S := fun j => w.heap.size ≤ j ∧ (j < wr.heap.size ∨ w5.heap.size ≤ j)) (DT5.out.below hb) (fun j hj => by have := hb.size; exact ⟨by omega, .inr (by omega)⟩) hsm.out HKY.out x.name x.b x.n (by omega) HBG.out (by omega) _ x.keep ((hko.mono (fun j _ hj => hj.1)).kept' hb) (by omega)).2.2.2.2.1
            have HAC := Lib.hid hac
            clear hac
            have htri : Hid ((removeS s (bs x.name)).1 = 0 ∨ (removeS s (bs x.name)).2 = s ∨ (s.down = false ∧ (removeS s (bs x.name)).2.down = true)) := changeS_tri _ _ _ _
            generalize hR : removeS s (bs x.name) = R at *
            clear hR
            go_wp2_with fail
            refine (HAC.out _ (Below.refl _ _)).mono ?_
            rintro e w7 ⟨rfl, d7, k7⟩
            have D7 := Lib.hid d7
            have K7 : Hid (Kept (fun j => w.heap.size ≤ j ∧ (j < wr.heap.size ∨ w5.heap.size ≤ j)) w5 w7) := k7
            clear d7 k7
            go_wp2_with fail
            go_meet
            case rel => exact ⟨R.1, rfl, by rw [hse.out]; exact D7.out.mono (fun j _ hj => hj.1), K7.out, by rw [hse.out]; exact htri.out⟩
          · as_aux_lemma =>
            have hit0 : ((x.k : Int)).tmod 9 = 5 := hit
            clear hit
            have hse : Hid (stepS s x = s) := by show _ = _; unfold stepS; rw [if_neg (by rw [hst.out]; decide)]; rw [if_neg (by rw [hst.out]; decide)]; rw [if_neg (by rw [hst.out]; decide)]; rw [if_neg (by rw [hst.out]; decide)]; rw [if_neg (by rw [hst.out]; decide)]; rw [if_pos hst.out]
            go_wp2_with fail
            go_meet
            case rel => exact ⟨0, by first | rfl | simp, by rw [hse.out]; exact DT5.out.mono (fun j _ hj => hj.1), by first | exact Kept.refl _ _ | exact (Kept.refl _ _).drewN 1, .inl rfl⟩
          · as_aux_lemma =>
            have hit0 : ((x.k : Int)).tmod 9 = 6 := hit
            clear hit
            have hse : Hid (stepS s x = breakS s x.n) := by show _ = _; unfold stepS; rw [if_neg (by rw [hst.out]; decide)]; rw [if_neg (by rw [hst.out]; decide)]; rw [if_neg (by rw [hst.out]; decide)]; rw [if_neg (by rw [hst.out]; decide)]; rw [if_neg (by rw [hst.out]; decide)]; rw [if_neg (by rw [hst.out]; decide)]; rw [if_pos hst.out]
            have hac := fun wx (hb : Below w5.heap.size w5 wx) => (act_calls (S := fun j => w.heap.size ≤ j ∧ (j < wr.heap.size ∨ w5.heap.size ≤ j)) (DT5.out.below hb) (fun j hj => by have := hb.size; exact ⟨by omega, .inr (by omega)⟩) hsm.out HKY.out x.name x.b x.n (by omega) HBG.out (by omega) _ x.keep ((hko.mono (fun j _ hj => hj.1)).kept' hb) (by omega)).2.2.2.2.2.1
            have HAC := Lib.hid hac
            clear hac
            generalize hR : breakS s x.n = R at *
            clear hR
            go_wp2_with fail
            refine (HAC.out _ (Below.refl _ _)).mono ?_
            rintro e w7 ⟨rfl, d7, k7⟩
            have D7 := Lib.hid d7
            have K7 : Hid (Kept (fun j => w.heap.size ≤ j ∧ (j < wr.heap.size ∨ w5.heap.size ≤ j)) w5 w7) := k7
            clear d7 k7
            go_wp2_with fail
            go_meet
            case rel => exact ⟨0, by first | rfl | simp, by rw [hse.out]; exact D7.out.mono (fun j _ hj => hj.1), K7.out, .inl rfl⟩
          · as_aux_lemma =>
            have hit0 : ((x.k : Int)).tmod 9 = 7 := hit
            clear hit
            have hse : Hid (stepS s x = crashS s x.keep) := by show _ = _; unfold stepS; rw [if_neg (by rw [hst.out]; decide)]; rw [if_neg (by rw [hst.out]; decide)]; rw [if_neg (by rw [hst.out]; decide)]; rw [if_neg (by rw [hst.out]; decide)]; rw [if_neg (by rw [hst.out]; decide)]; rw [if_neg (by rw [hst.out]; decide)]; rw [if_neg (by rw [hst.out]; decide)]; rw [if_pos hst.out]
            have hac := fun wx (hb : Below w5.heap.size w5 wx) => (act_calls (S := fun j => w.heap.size ≤ j ∧ (j < wr.heap.size ∨ w5.heap.size ≤ j)) (DT5.out.below hb) (fun j hj => by have := hb.size; exact ⟨by omega, .inr (by omega)⟩) hsm.out HKY.out x.name x.b x.n (by omega) HBG.out (by omega) _ x.keep ((hko.mono (fun j _ hj => hj.1)).kept' hb) (by omega)).2.2.2.2.2.2.1
            have HAC := Lib.hid hac
            clear hac
            generalize hR : crashS s x.keep = R at *
            clear hR
            go_wp2_with fail
            refine (HAC.out _ (Below.refl _ _)).mono ?_
            rintro e w7 ⟨rfl, d7, k7⟩
            have D7 := Lib.hid d7
            have K7 : Hid (Kept (fun j => w.heap.size ≤ j ∧ (j < wr.heap.size ∨ w5.heap.size ≤ j)) w5 w7) := k7
            clear d7 k7
            go_wp2_with fail
            go_meet
            case rel => exact ⟨0, by first | rfl | simp, by rw [hse.out]; exact D7.out.mono (fun j _ hj => hj.1), K7.out, .inl rfl⟩
          · as_aux_lemma =>
            have hit0 : ((x.k : Int)).tmod 9 = 8 := hit
            clear hit
            have hse : Hid (stepS s x = wipeS s) := by show _ = _; unfold stepS; rw [if_neg (by rw [hst.out]; decide)]; rw [if_neg (by rw [hst.out]; decide)]; rw [if_neg (by rw [hst.out]; decide)]; rw [if_neg (by rw [hst.out]; decide)]; rw [if_neg (by rw [hst.out]; decide)]; rw [if_neg (by rw [hst.out]; decide)]; rw [if_neg (by rw [hst.out]; decide)]; rw [if_neg (by rw [hst.out]; decide)]; 
            have hac := fun wx (hb : Below w5.heap.size w5 wx) => (act_calls (S := fun j => w.heap.size ≤ j ∧ (j < wr.heap.size ∨ w5.heap.size ≤ j)) (DT5.out.below hb) (fun j hj => by have := hb.size; exact ⟨by omega, .inr (by omega)⟩) hsm.out HKY.out x.name x.b x.n (by omega) HBG.out (by omega) _ x.keep ((hko.mono (fun j _ hj => hj.1)).kept' hb) (by omega)).2.2.2.2.2.2.2
            have HAC := Lib.hid hac
            clear hac
            generalize hR : wipeS s = R at *
            clear hR
            go_wp2_with fail
            refine (HAC.out _ (Below.refl _ _)).mono ?_
            rintro e w7 ⟨rfl, d7, k7⟩
            have D7 := Lib.hid d7
            have K7 : Hid (Kept (fun j => w.heap.size ≤ j ∧ (j < wr.heap.size ∨ w5.heap.size ≤ j)) w5 w7) := k7
            clear d7 k7
            go_wp2_with fail
            go_meet
            case rel => exact ⟨0, by first | rfl | simp, by rw [hse.out]; exact D7.out.mono (fun j _ hj => hj.1), K7.out, .inl rfl⟩
        case rest => as_aux_lemma =>
          obtain ⟨er, rfl, d7, k7, htri⟩ := hcut
          obtain ⟨w7, hw7⟩ : ∃ w7 : World, w7 = wc := ⟨_, rfl⟩
          subst hw7
          have hfs := HD.out.fit
          have hmo' := most_step HMO.out hfs.sorted x hx2
          rw [← HBT.out] at hmo'
          have hrm' : ((stepS s x).room : Int) = max room 0 := by rw [step_room]; exact HRMk.out
          have hrow2 := row_keep HR1.out (w' := w7) (fun g hg hlt => k7.block g hlt (fun h => h.2.elim (fun h => by omega) (fun h => by omega)))
          generalize stepS s x = s' at *
          have HD7 := Lib.hid d7
          have K7 : Hid (Kept (From w.heap.size) w w7) := K5.out.trans (k7.mono (fun j _ hj => hj.1))
          have HMO' := Lib.hid hmo'
          have HTRI := Lib.hid htri
          have hcnt' := hmo'.count
          have HROW2 := Lib.hid hrow2
          have hszc : w5.heap.size ≤ w7.heap.size := k7.size
          have HKA := Lib.hid (Kept_any d7 (by omega))
          clear d7 k7 hmo' htri hrow2 c0 c1 c2 c3 c4 hit hr9 hfs
          go_wp2_with fail
          refine HKA.out.mono ?_
          rintro e w8 ⟨kv2, rfl, hrow8, b8⟩
          obtain ⟨ra2, rc2, rfl⟩ := row_slice hrow8
          have HROW8 := Lib.hid hrow8
          have HD8 := Lib.hid (HD7.out.below b8)
          have K8 : Hid (Kept (From w.heap.size) w w8) := K7.out.trans (Kept.of_below b8)
          have HROW1 := Lib.hid (row_keep HROW2.out (w' := w8) (fun g _ hlt => b8.block g hlt))
          have hsz8 : w7.heap.size ≤ w8.heap.size := b8.size
          clear hrow8 b8 HKA
          have HN8 := Lib.hid (Down_any HD8.out)
          go_upto_region 32 with fail
          go_cut [139] (fun t wx => t = .bool false ∧ Below w8.heap.size w8 wx)
          case first => as_aux_lemma =>
            by_cases her : er = 0
            · subst her
              go_wp2_with fail
              go_meet
              case rel => exact ⟨rfl, Below.refl _ _⟩
            · have hei : (er != 0) = true := by simpa using her
              have hcase := HTRI.out.resolve_left her
              rcases hcase with hss | ⟨hdn, hdn'⟩
              · have HSK : Hid (Calls Try.prog 14 #[.slice ra (List.length s.fs) rc, .slice ra2 (List.length s'.fs) rc2] w8 fun e w' => e = .returned (.bool true) ∧ Below w8.heap.size w8 w') := by
                  show Calls _ _ _ _ _
                  have hrow1 := HROW1.out
                  have hl : s.fs.length = s'.fs.length := by rw [hss]
                  rw [← hss] at hrow1
                  rw [hl]
                  exact same_kept hrow1 HROW8.out (by omega)
                have hd2 : s'.down = s.down := by rw [hss]
                have hn8 := HN8.out
                rw [hd2, ← HDN.out] at hn8
                clear hss hd2
                cases dn with
                | true =>
                  go_wp2_with fail
                  refine HSK.out.mono ?_
                  rintro e w9 ⟨rfl, b9⟩
                  have B9 := Lib.hid b9
                  clear b9
                  go_wp2_with fail
                  go_meet
                  case rel => exact ⟨rfl, B9.out⟩
                | false =>
                  go_wp2_with fail
                  refine hn8.mono ?_
                  rintro e w10 ⟨rfl, rfl⟩
                  go_wp2_with fail
                  refine HSK.out.mono ?_
                  rintro e w9 ⟨rfl, b9⟩
                  have B9 := Lib.hid b9
                  clear b9
                  go_wp2_with fail
                  go_meet
                  case rel => exact ⟨rfl, B9.out⟩
              · have hn8 := HN8.out
                rw [hdn'] at hn8
                have hdd : dn = false := HDN.out.trans hdn
                subst hdd
                clear hdn hdn'
                go_wp2_with fail
                refine hn8.mono ?_
                rintro e w10 ⟨rfl, rfl⟩
                go_wp2_with fail
                go_meet
                case rel => exact ⟨rfl, Below.refl _ _⟩
          case rest => as_aux_lemma =>
            obtain ⟨rfl, hb9⟩ := hcut
            have HD9 := Lib.hid (HD8.out.below hb9)
            have K9 : Hid (Kept (From w.heap.size) w wc) := K8.out.trans (Kept.of_below hb9)
            have HROW9 := Lib.hid (row_keep HROW8.out (w' := wc) (fun g _ hlt => hb9.block g hlt))
            have HSF := Lib.hid HD9.out.fit
            have HUS := Lib.hid (Used_any HD9.out)
            clear hb9
            obtain ⟨wo, hwo⟩ : ∃ wo : World, wo = wr := ⟨_, rfl⟩
            subst hwo
            go_wp2
            go_loopw [13, 14] (fun nn i wz => ∃ j : Nat, j ≤ s'.fs.length ∧ i = .int .i64 j ∧ nn = .int .i64 (usedF (s'.fs.take j) : Nat) ∧ Below wc.heap.size wc wz) (fun nn i _ => s'.fs.length - (intOf i).toNat)
            case atStart => exact ⟨0, by omega, rfl, rfl, Below.refl _ _⟩
            case round =>
              obtain ⟨j, hj, rfl, rfl, hbz⟩ := hrel
              have HBZ := Lib.hid hbz
              clear hbz
              by_cases hj1 : j < s'.fs.length
              · have hj1i : (j : Int) < (s'.fs.length : Int) := by omega
                obtain ⟨p, hp⟩ : ∃ p, s'.fs[j]? = some p := ⟨s'.fs[j], List.getElem?_eq_getElem hj1⟩
                obtain ⟨g, rfl, hrc2, x0, x1, x2⟩ := kept_row (row_keep HROW9.out (w' := wr) (fun g _ hlt => HBZ.out.block g hlt)) hp
                have hus : Hid (usedF (s'.fs.take (j + 1)) = usedF (s'.fs.take j) + p.2.b.length) := by show _ = _; rw [take_snocA _ _ _ hp, used_append]; simp [usedF]
                have hsy : p.2.s ≤ p.2.b.length := HSF.out.syn p (List.mem_of_getElem? hp)
                have hub : usedF (s'.fs.take j) + p.2.b.length ≤ 140737488355328 := by
                  have h1 : usedF (s'.fs.take (j + 1)) ≤ usedF s'.fs := by
                    have e : usedF (s'.fs.take (j + 1) ++ s'.fs.drop (j + 1)) = _ := used_append _ _
                    rw [List.take_append_drop] at e; omega
                  have := hus.out; have := HMO'.out.bytes; have := bytesT_take l (k + 1); have := hbt.out; omega
                have hnb : (mk p.2.b).size = p.2.b.length := mk_size _
                have HPX := Lib.hid hp
                clear hp
                generalize hU : usedF (s'.fs.take j) = U at *
                generalize hNB : mk p.2.b = nb at *
                generalize hNP : mk p.1 = np at *
                generalize hPS : p.2.s = ps at *
                have hsy2 : ¬ (nb.size : Int) < (ps : Int) := by omega
                have hd1 : decide ((ps : Int) < 0) = false := by simp
                have hd2 : decide ((nb.size : Int) < (ps : Int)) = false := by simpa using hsy2
                have hd4 : decide (nb.size < ps) = false := by rw [decide_eq_false_iff_not]; omega
                have hd5 : ¬ nb.size < ps := by omega
                have hub2 : (U : Int) + (nb.size : Int) ≤ 140737488355328 := by omega
                have HNBs := Lib.hid hnb
                have HNBe := Lib.hid hNB
                have HNPe := Lib.hid hNP
                have HUe := Lib.hid hU
                clear hnb hNB hNP hU hPS hsy hub
                by_cases hj0 : j = 0
                · have hd3 : decide ((0 : Int) < (j : Int)) = false := by simp [hj0]
                  have hd6 : ¬ 0 < j := by omega
                  have hd7 : decide (0 < j) = false := by simpa using hd6
                  clear hj0
                  go_wp2_with fail
                  go_quiet (fail)
                  go_wp2
                  go_roundw
                  case rel => exact ⟨j + 1, by omega, by go_num, by rw [hus.out]; have := HNBs.out; first | (congr 1; omega) | (simp; omega), below_drewN HBZ.out _⟩
                  case measure => simp [intOf]; omega
                · have hj0i : (0 : Int) < (j : Int) := by omega
                  have hj0j : (j : Int) - 1 = ((j - 1 : Nat) : Int) := by omega
                  obtain ⟨q, hq⟩ : ∃ q, s'.fs[j - 1]? = some q := ⟨s'.fs[j - 1]'(by omega), List.getElem?_eq_getElem (by omega)⟩
                  obtain ⟨g', e', _, y0, _, _⟩ := kept_row (row_keep HROW9.out (w' := wr) (fun g _ hlt => HBZ.out.block g hlt)) hq
                  cases e'
                  have hqp : q.1 < p.1 := by
                    have := List.pairwise_iff_getElem.1 HSF.out.sorted (j - 1) j (by omega) hj1 (by omega)
                    rw [List.getElem?_eq_getElem (by omega)] at hq
                    have h2 := HPX.out
                    rw [List.getElem?_eq_getElem hj1] at h2
                    rw [Option.some.inj hq, Option.some.inj h2] at this
                    exact this
                  have HQP := Lib.hid hqp
                  have hjb : (0 : Int) ≤ (j : Int) - 1 := by omega
                  have hjb1 : (1 : Int) ≤ (j : Int) := by omega
                  have hjb2 : ((j - 1 : Nat) : Int) < (s'.fs.length : Int) := by omega
                  have hbl : Op.bytesLess (mk q.1).toList np.toList = true := by rw [← HNPe.out, Lib.toList_data, Lib.toList_data, show (mk q.1).data.toList = q.1 from bs_mk _, show (mk p.1).data.toList = p.1 from bs_mk _]; exact bytes_less hqp
                  generalize hNQ : mk q.1 = nmq at *
                  have HNQe := Lib.hid hNQ
                  clear hNQ
                  have hd3 : decide ((0 : Int) < (j : Int)) = true := by simpa using hj0i
                  have hd6 : 0 < j := by omega
                  have hd7 : decide (0 < j) = true := by simpa using hd6
                  clear hj0
                  clear hq hqp
                  go_wp2_with fail
                  go_quiet (fail)
                  go_wp2
                  go_roundw
                  case rel => exact ⟨j + 1, by omega, by go_num, by rw [hus.out]; have := HNBs.out; first | (congr 1; omega) | (simp; omega), below_drewN HBZ.out _⟩
                  case measure => simp [intOf]; omega
              · have hj1i : ¬ (j : Int) < (s'.fs.length : Int) := by omega
                have hje : s'.fs.take j = s'.fs := List.take_of_length_le (by omega)
                rw [hje]
                have husd := Used_any (HD9.out.below HBZ.out)
                have hur : usedF s'.fs ≤ s'.room := HSF.out.room
                have hmx : max room 0 = (s'.room : Int) := hrm'.symm
                have HRMp := Lib.hid hrm'
                clear hrm'
                generalize usedF s'.fs = U at *
                have hd8 : ¬ (s'.room : Int) < (U : Int) := by omega
                have hd9 : ¬ s'.room < U := by omega
                go_wp2_with fail
                refine husd.mono ?_
                rintro e wy ⟨rfl, rfl⟩
                clear hje hur
                go_wp2
                go_roundw
                case rel => exact ⟨k + 1, s', by omega, by go_num, HD9.out.below HBZ.out, K9.out.trans (Kept.of_below HBZ.out), HMO'.out, HRMp.out⟩
                case measure => simp [intOf]; omega
      · have h1i : ¬ (k : Int) < (l.length : Int) := by omega
        go_wp2
        go_ret
        exact ⟨rfl, HK.out.below (Nat.le_refl _) (fun _ h => h)⟩
end Go.Proofs.Ytaepjknmedemgaa
