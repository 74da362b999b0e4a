/- THE LAW ClockLeases: whatever leases are granted, asked for, dropped: they last just as the document says. -/
import Derived.Test.YtckbbakajabhmaaDuoW
namespace Go.Proofs.Ytckbbakajabhmaa
open Go.RowKit Go.Maps

set_option maxRecDepth 100000 in
set_option maxHeartbeats 8000000 in
theorem ClockLeases_law {w : World} {lv : Value} {l : List ActT} (h : Run (fun k => k < w.heap.size) w lv l.length (l.flatMap actL)) (hwide : ∀ x ∈ l, WideT x) (hl : l.length ≤ 9223372036854775807) :
    Calls Try.prog 5 #[lv] w fun e w' => e = .returned (.bool true) ∧ Below w.heap.size w w' := by
  have HW := Lib.hid (works_any w)
  have H := Lib.hid h
  have HWD := Lib.hid hwide
  obtain ⟨a, c, rfl, hac⟩ := h.slice
  clear h hwide
  go_enter Try.func5, Try.ntmps5
  go_wp2_with fail
  refine HW.out.mono ?_
  rintro e w1 ⟨rfl, b1⟩
  have HB1 := Lib.hid b1
  clear b1
  by_cases g2 : (500 : Int) < (l.length : Int)
  · go_wp2
    go_ret
    exact ⟨rfl, HB1.out⟩
  have g2' : (l.length : Int) ≤ 500 := by omega
  clear g2
  have HD0 : Hid (Pair (DuoT 35 w1.heap.size (w1.heap.size + 2) 0 noG 0 noG) (TabQ 35 (w1.heap.size + 1) 0 noG) (fun k => w.heap.size ≤ k) (((w1.alloc (.cells #[.map none] 35)).alloc (.cells #[.map none] 35)).alloc (.cells #[.slice none 0 0] 39))) := by
    have hs := HB1.out.size
    have h1 := tab_new (S := fun k => w.heap.size ≤ k) 35 w1 hs
    have h2 := tab_new (S := fun k => (w1.alloc (.cells #[.map none] 35)).heap.size ≤ k) 35 (w1.alloc (.cells #[.map none] 35)) (Nat.le_refl _)
    have hp := Pair.of (tabThing _ _ _ _) (tabThing _ _ _ _) h1 ((Below.refl _ _).alloc (Nat.le_refl _) _) h2 (fun k hk => Nat.le_trans hs (by simp at hk; omega))
    have h3 := rtab_new (S := fun k => ((w1.alloc (.cells #[.map none] 35)).alloc (.cells #[.map none] 35)).heap.size ≤ k) ((w1.alloc (.cells #[.map none] 35)).alloc (.cells #[.map none] 35)) (Nat.le_refl _)
    have hq := Pair.of (pairThing (tabThing _ _ _ _) (tabThing _ _ _ _)) (rThing _ _ _) hp ((Below.refl _ _).alloc (Nat.le_refl _) _) h3 (fun k hk => Nat.le_trans hs (by simp at hk; omega))
    simp only [World.size_alloc] at hq
    exact pair_turn hq
  have HB0 : Hid (Below w.heap.size w (((w1.alloc (.cells #[.map none] 35)).alloc (.cells #[.map none] 35)).alloc (.cells #[.slice none 0 0] 39))) := ((HB1.out.alloc HB1.out.size _).alloc (by have := HB1.out.size; simp; omega) _).alloc (by have := HB1.out.size; simp; omega) _
  go_wp2
  go_loopw [7] (fun i wr => ∃ (k : Nat) (g : G), k ≤ l.length ∧ i = .int .i64 (k : Int) ∧ Hid (Pair (DuoT 35 w1.heap.size (w1.heap.size + 2) k g k g) (TabQ 35 (w1.heap.size + 1) 0 noG) (fun j => w.heap.size ≤ j) wr) ∧ Hid (Ends g) ∧ Hid (Below w.heap.size w wr)) (fun i _ => l.length - (intOf i).toNat)
  case atStart => exact ⟨0, noG, Nat.zero_le _, rfl, HD0.out, ends_no, HB0.out⟩
  case round =>
    obtain ⟨k, g, hk, rfl, HD, HE, HB⟩ := hrel
    by_cases hlt : k < l.length
    · have hlti : (k : Int) < (l.length : Int) := by omega
      obtain ⟨x, hx⟩ : ∃ x, l[k]? = some x := ⟨_, List.getElem?_eq_getElem hlt⟩
      obtain ⟨⟨n1, n2⟩, k64, x64, w64⟩ := HWD.out x (List.mem_of_getElem? hx)
      obtain ⟨b, off, rfl, hb1, hb2, x0, x1, x2, x3⟩ := act_cells H.out hx
      have e : ∀ j, wr.cell? ⟨b, j, none⟩ = w.cell? ⟨b, j, none⟩ := fun j => HB.out.cell (p := ⟨b, j, none⟩) hb2
      have y0 := (e _).trans x0
      have y1 := (e _).trans x1
      have y2 := (e _).trans x2
      have y3 := (e _).trans x3
      clear e x0 x1 x2 x3 hx
      obtain ⟨xb, hxb⟩ : ∃ xb, xb = wr.heap.size := ⟨_, rfl⟩
      obtain ⟨w4, hw4⟩ : ∃ w4, w4 = wr.alloc (.cells #[.int .u8 x.k, .int .i64 x.key, .int .i64 x.n, .int .i64 x.w] 41) := ⟨_, rfl⟩
      have hb4 : Below wr.heap.size wr w4 := by rw [hw4]; exact (Below.refl _ _).alloc (Nat.le_refl _) _
      have hs4 : w4.heap.size = xb + 1 := by rw [hw4, hxb]; simp
      have HX4 : Hid (BoxA w4 xb x) := by show BoxA _ _ _; rw [hw4, hxb]; exact box_new wr x
      have HD4 : Hid (Pair (DuoT 35 w1.heap.size (w1.heap.size + 2) k g k g) (TabQ 35 (w1.heap.size + 1) 0 noG) (fun j => w.heap.size ≤ j ∧ j ≠ xb) w4) := (pairThing (duoT _ _ _ _ _ _ _) (tabThing _ _ _ _)).mono ((pairThing (duoT _ _ _ _ _ _ _) (tabThing _ _ _ _)).below ((pairThing (duoT _ _ _ _ _ _ _) (tabThing _ _ _ _)).tight HD.out) hb4) (fun j _ hj => ⟨hj.1, by have := hj.2; omega⟩)
      have HB4 : Hid (Below w.heap.size w w4) := HB.out.trans (hb4.mono HB.out.size)
      have hxw : w.heap.size ≤ xb := by rw [hxb]; exact HB.out.size
      have HSX : Hid (∀ v : World, xb + 1 ≤ v.heap.size → ∀ j, v.heap.size ≤ j → w.heap.size ≤ j ∧ j ≠ xb) := fun v hv j hj => ⟨by omega, by omega⟩
      have hk5 : k ≤ 1048575 := by omega
      go_upto_region 13 with fail
      rw [← hw4, ← hxb]
      have HXB := Lib.hid hxb
      clear hw4 hb4 y0 y1 y2 y3 hxb HD HB
      have z0 := HX4.out.c0
      have z1 := HX4.out.c1
      have z2 := HX4.out.c2
      have z3 := HX4.out.c3
      obtain ⟨r, hr⟩ : ∃ r, r = x.k.toNat % 4 := ⟨_, rfl⟩
      have hit : x.k.tmod 4 = (r : Int) := by rw [Int.tmod_eq_emod_of_nonneg n1]; omega
      have hr4 : r < 4 := by omega
      clear hr
      by_cases e0 : r = 0
      · subst e0
        have hit0 : x.k.tmod 4 = 0 := hit
        go_wp2_with fail
        refine (Pair.step1 (Q1' := DuoT 35 w1.heap.size (w1.heap.size + 2) (k + 1) (grantG g x.key x.n) k g) (duoT _ _ _ _ _ _ _) (duoT _ _ _ _ _ _ _) (tabThing _ _ _ _) HD4.out (HSX.out w4 (by omega)) (fun _ hT _ hq => DuoT.call1 hq hT (fun S' h1 h2 => Grant_any h2 h1 k64 (by unfold maxLen; omega)))).mono ?_
        rintro e w5 ⟨rfl, hd5, k5⟩
        have HD5 := Lib.hid hd5
        have K5 := Lib.hid k5
        have q5 := HX4.out.kept k5 (fun hh => hh.2 rfl)
        have q50 := q5.c0
        have q51 := q5.c1
        have q52 := q5.c2
        have q53 := q5.c3
        have HX5 := Lib.hid q5
        clear hd5 k5 q5
        go_wp2_with fail
        refine (Pair.step1 (Q1' := DuoT 35 w1.heap.size (w1.heap.size + 2) (k + 1) (grantG g x.key x.n) (k + 1) (grantG g x.key x.n)) (duoT _ _ _ _ _ _ _) (duoT _ _ _ _ _ _ _) (tabThing _ _ _ _) HD5.out (HSX.out w5 (by have := K5.out.size; omega)) (fun _ hT _ hq => DuoT.call2 hq hT (fun S' h1 h2 => rGrant_any h2 h1 (by omega) x.key x.n))).mono ?_
        rintro e w6 ⟨rfl, hd6, k6⟩
        have HD6 := Lib.hid hd6
        have K6 := Lib.hid (K5.out.trans k6)
        have q6 := HX5.out.kept k6 (fun hh => hh.2 rfl)
        have q60 := q6.c0
        have q61 := q6.c1
        have q62 := q6.c2
        have q63 := q6.c3
        clear hd6 k6 q6 q50 q51 q52 q53 HD5 HX5 K5 z0 z1 z2 z3
        have HEZ : Hid (Ends (grantG g x.key x.n)) := (ends_grant HE.out x.key x64)
        have hd1 := Pair.fst (duoT _ _ _ _ _ _ _) HD6.out
        have HV1 := Lib.hid (fun q => valid_q (DuoT.tab hd1) k64 x.n q)
        have HV2 := Lib.hid (fun q => rvalid_q (DuoT.ref hd1) (by omega) x.key x.n q)
        have HY1 := Lib.hid (fun q => valid_q (DuoT.tab hd1) w64 x.n q)
        have HY2 := Lib.hid (fun q => rvalid_q (DuoT.ref hd1) (by omega) x.w x.n q)
        have HU1 := Lib.hid (fun q => until_q (DuoT.tab hd1) k64 q)
        have HU2 := Lib.hid (fun q => runtil_q (DuoT.ref hd1) (by omega) x.key q)
        have HOO := Lib.hid (fun q => valid_q (Pair.snd (tabThing _ _ _ _) HD6.out) k64 x.n q)
        have ho0 : validG noG x.key x.n = false := rfl
        rw [ho0] at HOO
        generalize validG (grantG g x.key x.n) x.key x.n = o1 at HV1 HV2
        generalize validG (grantG g x.key x.n) x.w x.n = o2 at HY1 HY2
        generalize untilG (grantG g x.key x.n) x.key = o3 at HU1 HU2
        clear hd1 ho0
        go_wp2
        go_quiet (first | (go_at_call 22; first | with_reducible exact Calls.quiet_of (HV1.out _) | with_reducible exact Calls.quiet_of (HY1.out _) | with_reducible exact Calls.quiet_of (HOO.out _)) | (go_at_call 23; first | with_reducible exact Calls.quiet_of (HV2.out _) | with_reducible exact Calls.quiet_of (HY2.out _)) | (go_at_call 24; with_reducible exact Calls.quiet_of (HU1.out _)) | (go_at_call 25; with_reducible exact Calls.quiet_of (HU2.out _)))
        go_wp2
        go_roundw
        case rel => exact ⟨k + 1, _, by omega, by go_num, (pairThing (duoT _ _ _ _ _ _ _) (tabThing _ _ _ _)).below ((pairThing (duoT _ _ _ _ _ _ _) (tabThing _ _ _ _)).mono (trioMore HD6.out (by omega) (by omega)) (fun j _ hj => hj.1)) (below_drewN (Below.refl _ _) _), HEZ.out, below_drewN (HB4.out.trans (K6.out.below (B := w.heap.size) HB4.out.size (fun _ hj => hj.1))) _⟩
        case measure => simp [intOf]; omega
      by_cases e3 : r = 3
      · subst e3
        have hit0 : x.k.tmod 4 = 3 := hit
        go_wp2_with fail
        refine (Pair.step1 (Q1' := DuoT 35 w1.heap.size (w1.heap.size + 2) k (dropG g x.key) k g) (duoT _ _ _ _ _ _ _) (duoT _ _ _ _ _ _ _) (tabThing _ _ _ _) HD4.out (HSX.out w4 (by omega)) (fun _ hT _ hq => DuoT.call1 hq hT (fun S' h1 h2 => LDrop_any h2 k64))).mono ?_
        rintro e w5 ⟨rfl, hd5, k5⟩
        have HD5 := Lib.hid hd5
        have K5 := Lib.hid k5
        have q5 := HX4.out.kept k5 (fun hh => hh.2 rfl)
        have q50 := q5.c0
        have q51 := q5.c1
        have q52 := q5.c2
        have q53 := q5.c3
        have HX5 := Lib.hid q5
        clear hd5 k5 q5
        go_wp2_with fail
        refine (Pair.step1 (Q1' := DuoT 35 w1.heap.size (w1.heap.size + 2) k (dropG g x.key) k (dropG g x.key)) (duoT _ _ _ _ _ _ _) (duoT _ _ _ _ _ _ _) (tabThing _ _ _ _) HD5.out (HSX.out w5 (by have := K5.out.size; omega)) (fun _ hT _ hq => DuoT.call2 hq hT (fun S' h1 h2 => rDrop_any h2 h1 (by omega) x.key))).mono ?_
        rintro e w6 ⟨rfl, hd6, k6⟩
        have HD6 := Lib.hid hd6
        have K6 := Lib.hid (K5.out.trans k6)
        have q6 := HX5.out.kept k6 (fun hh => hh.2 rfl)
        have q60 := q6.c0
        have q61 := q6.c1
        have q62 := q6.c2
        have q63 := q6.c3
        clear hd6 k6 q6 q50 q51 q52 q53 HD5 HX5 K5 z0 z1 z2 z3
        have HEZ : Hid (Ends (dropG g x.key)) := (ends_drop HE.out x.key)
        have hd1 := Pair.fst (duoT _ _ _ _ _ _ _) HD6.out
        have HV1 := Lib.hid (fun q => valid_q (DuoT.tab hd1) k64 x.n q)
        have HV2 := Lib.hid (fun q => rvalid_q (DuoT.ref hd1) (by omega) x.key x.n q)
        have HY1 := Lib.hid (fun q => valid_q (DuoT.tab hd1) w64 x.n q)
        have HY2 := Lib.hid (fun q => rvalid_q (DuoT.ref hd1) (by omega) x.w x.n q)
        have HU1 := Lib.hid (fun q => until_q (DuoT.tab hd1) k64 q)
        have HU2 := Lib.hid (fun q => runtil_q (DuoT.ref hd1) (by omega) x.key q)
        have HOO := Lib.hid (fun q => valid_q (Pair.snd (tabThing _ _ _ _) HD6.out) k64 x.n q)
        have ho0 : validG noG x.key x.n = false := rfl
        rw [ho0] at HOO
        generalize validG (dropG g x.key) x.key x.n = o1 at HV1 HV2
        generalize validG (dropG g x.key) x.w x.n = o2 at HY1 HY2
        generalize untilG (dropG g x.key) x.key = o3 at HU1 HU2
        clear hd1 ho0
        go_wp2
        go_quiet (first | (go_at_call 22; first | with_reducible exact Calls.quiet_of (HV1.out _) | with_reducible exact Calls.quiet_of (HY1.out _) | with_reducible exact Calls.quiet_of (HOO.out _)) | (go_at_call 23; first | with_reducible exact Calls.quiet_of (HV2.out _) | with_reducible exact Calls.quiet_of (HY2.out _)) | (go_at_call 24; with_reducible exact Calls.quiet_of (HU1.out _)) | (go_at_call 25; with_reducible exact Calls.quiet_of (HU2.out _)))
        go_wp2
        go_roundw
        case rel => exact ⟨k + 1, _, by omega, by go_num, (pairThing (duoT _ _ _ _ _ _ _) (tabThing _ _ _ _)).below ((pairThing (duoT _ _ _ _ _ _ _) (tabThing _ _ _ _)).mono (trioMore HD6.out (by omega) (by omega)) (fun j _ hj => hj.1)) (below_drewN (Below.refl _ _) _), HEZ.out, below_drewN (HB4.out.trans (K6.out.below (B := w.heap.size) HB4.out.size (fun _ hj => hj.1))) _⟩
        case measure => simp [intOf]; omega
      have hn0 : ¬ x.k.tmod 4 = 0 := by omega
      have hn3 : ¬ x.k.tmod 4 = 3 := by omega
      have HEZ : Hid (Ends g) := HE.out
      have hd1 := Pair.fst (duoT _ _ _ _ _ _ _) HD4.out
      have HV1 := Lib.hid (fun q => valid_q (DuoT.tab hd1) k64 x.n q)
      have HV2 := Lib.hid (fun q => rvalid_q (DuoT.ref hd1) (by omega) x.key x.n q)
      have HY1 := Lib.hid (fun q => valid_q (DuoT.tab hd1) w64 x.n q)
      have HY2 := Lib.hid (fun q => rvalid_q (DuoT.ref hd1) (by omega) x.w x.n q)
      have HU1 := Lib.hid (fun q => until_q (DuoT.tab hd1) k64 q)
      have HU2 := Lib.hid (fun q => runtil_q (DuoT.ref hd1) (by omega) x.key q)
      have HOO := Lib.hid (fun q => valid_q (Pair.snd (tabThing _ _ _ _) HD4.out) k64 x.n q)
      have ho0 : validG noG x.key x.n = false := rfl
      rw [ho0] at HOO
      generalize validG g x.key x.n = o1 at HV1 HV2
      generalize validG g x.w x.n = o2 at HY1 HY2
      generalize untilG g x.key = o3 at HU1 HU2
      clear hd1 ho0
      go_wp2
      go_quiet (first | (go_at_call 22; first | with_reducible exact Calls.quiet_of (HV1.out _) | with_reducible exact Calls.quiet_of (HY1.out _) | with_reducible exact Calls.quiet_of (HOO.out _)) | (go_at_call 23; first | with_reducible exact Calls.quiet_of (HV2.out _) | with_reducible exact Calls.quiet_of (HY2.out _)) | (go_at_call 24; with_reducible exact Calls.quiet_of (HU1.out _)) | (go_at_call 25; with_reducible exact Calls.quiet_of (HU2.out _)))
      go_wp2
      go_roundw
      case rel => exact ⟨k + 1, _, by omega, by go_num, (pairThing (duoT _ _ _ _ _ _ _) (tabThing _ _ _ _)).below ((pairThing (duoT _ _ _ _ _ _ _) (tabThing _ _ _ _)).mono (trioMore HD4.out (by omega) (by omega)) (fun j _ hj => hj.1)) (below_drewN (Below.refl _ _) _), HEZ.out, below_drewN (HB4.out.trans ((Kept.refl (fun j => w.heap.size ≤ j ∧ j ≠ xb) w4).below (B := w.heap.size) HB4.out.size (fun _ hj => hj.1))) _⟩
      case measure => simp [intOf]; omega
    · have hlti : ¬ (k : Int) < (l.length : Int) := by omega
      go_wp2
      go_ret
      exact ⟨rfl, HB.out⟩
end Go.Proofs.Ytckbbakajabhmaa
