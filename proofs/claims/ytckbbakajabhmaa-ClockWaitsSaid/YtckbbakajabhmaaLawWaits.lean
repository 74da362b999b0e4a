/- THE LAW ClockWaits: whatever is waited for, however long: it is over just when the document says. -/
import Derived.Test.YtckbbakajabhmaaDuoW
namespace Go.Proofs.Ytckbbakajabhmaa
open Go.RowKit Go.Maps

set_option maxRecDepth 100000 in
set_option maxHeartbeats 8000000 in
theorem ClockWaits_law {w : World} {lv : Value} {l : List ActT} (h : Run (fun k => k < w.heap.size) w lv l.length (l.flatMap actL)) (hwide : ∀ x ∈ l, WideT x) (hl : l.length ≤ 9223372036854775807) :
    Calls Try.prog 6 #[lv] w fun e w' => e = .returned (.bool true) ∧ Below w.heap.size w w' := by
  have HW := Lib.hid (works_any w)
  have H := Lib.hid h
  have HWD := Lib.hid hwide
  obtain ⟨a, c, rfl, hac⟩ := h.slice
  clear h hwide
  go_enter Try.func6, Try.ntmps6
  go_wp2_with fail
  refine HW.out.mono ?_
  rintro e w1 ⟨rfl, b1⟩
  have HB1 := Lib.hid b1
  clear b1
  by_cases g2 : (500 : Int) < (l.length : Int)
  · go_wp2
    go_ret
    exact ⟨rfl, HB1.out⟩
  have g2' : (l.length : Int) ≤ 500 := by omega
  clear g2
  have HD0 : Hid (DuoT 48 w1.heap.size (w1.heap.size + 1) 0 noG 0 noG (fun k => w.heap.size ≤ k) ((w1.alloc (.cells #[.map none] 48)).alloc (.cells #[.slice none 0 0] 39))) := by
    have h1 := tab_new (S := fun k => w.heap.size ≤ k) 48 w1 HB1.out.size
    have h2 := rtab_new (S := fun k => (w1.alloc (.cells #[.map none] 48)).heap.size ≤ k) (w1.alloc (.cells #[.map none] 48)) (Nat.le_refl _)
    have hp := Pair.of (tabThing _ _ _ _) (rThing _ _ _) h1 ((Below.refl _ _).alloc (Nat.le_refl _) _) h2 (fun k hk => Nat.le_trans HB1.out.size (by simp at hk; omega))
    rwa [World.size_alloc] at hp
  have HB0 : Hid (Below w.heap.size w ((w1.alloc (.cells #[.map none] 48)).alloc (.cells #[.slice none 0 0] 39))) := (HB1.out.alloc HB1.out.size _).alloc (by have := HB1.out.size; simp; omega) _
  go_wp2
  go_loopw [6] (fun i wr => ∃ (k : Nat) (g : G), k ≤ l.length ∧ i = .int .i64 (k : Int) ∧ Hid (DuoT 48 w1.heap.size (w1.heap.size + 1) k g k g (fun j => w.heap.size ≤ j) wr) ∧ Hid (Ends g) ∧ Hid (Below w.heap.size w wr)) (fun i _ => l.length - (intOf i).toNat)
  case atStart => exact ⟨0, noG, Nat.zero_le _, rfl, HD0.out, ends_no, HB0.out⟩
  case round =>
    obtain ⟨k, g, hk, rfl, HD, HE, HB⟩ := hrel
    by_cases hlt : k < l.length
    · have hlti : (k : Int) < (l.length : Int) := by omega
      obtain ⟨x, hx⟩ : ∃ x, l[k]? = some x := ⟨_, List.getElem?_eq_getElem hlt⟩
      obtain ⟨⟨n1, n2⟩, k64, x64, w64⟩ := HWD.out x (List.mem_of_getElem? hx)
      obtain ⟨b, off, rfl, hb1, hb2, x0, x1, x2, x3⟩ := act_cells H.out hx
      have e : ∀ j, wr.cell? ⟨b, j, none⟩ = w.cell? ⟨b, j, none⟩ := fun j => HB.out.cell (p := ⟨b, j, none⟩) hb2
      have y0 := (e _).trans x0
      have y1 := (e _).trans x1
      have y2 := (e _).trans x2
      have y3 := (e _).trans x3
      clear e x0 x1 x2 x3 hx
      obtain ⟨xb, hxb⟩ : ∃ xb, xb = wr.heap.size := ⟨_, rfl⟩
      obtain ⟨w4, hw4⟩ : ∃ w4, w4 = wr.alloc (.cells #[.int .u8 x.k, .int .i64 x.key, .int .i64 x.n, .int .i64 x.w] 41) := ⟨_, rfl⟩
      have hb4 : Below wr.heap.size wr w4 := by rw [hw4]; exact (Below.refl _ _).alloc (Nat.le_refl _) _
      have hs4 : w4.heap.size = xb + 1 := by rw [hw4, hxb]; simp
      have HX4 : Hid (BoxA w4 xb x) := by show BoxA _ _ _; rw [hw4, hxb]; exact box_new wr x
      have HD4 : Hid (DuoT 48 w1.heap.size (w1.heap.size + 1) k g k g (fun j => w.heap.size ≤ j ∧ j ≠ xb) w4) := (duoT _ _ _ _ _ _ _).mono ((duoT _ _ _ _ _ _ _).below ((duoT _ _ _ _ _ _ _).tight HD.out) hb4) (fun j _ hj => ⟨hj.1, by have := hj.2; omega⟩)
      have HB4 : Hid (Below w.heap.size w w4) := HB.out.trans (hb4.mono HB.out.size)
      have hxw : w.heap.size ≤ xb := by rw [hxb]; exact HB.out.size
      have HSX : Hid (∀ v : World, xb + 1 ≤ v.heap.size → ∀ j, v.heap.size ≤ j → w.heap.size ≤ j ∧ j ≠ xb) := fun v hv j hj => ⟨by omega, by omega⟩
      have hk5 : k ≤ 1048575 := by omega
      go_upto_region 12 with fail
      rw [← hw4, ← hxb]
      have HXB := Lib.hid hxb
      clear hw4 hb4 y0 y1 y2 y3 hxb HD HB
      have z0 := HX4.out.c0
      have z1 := HX4.out.c1
      have z2 := HX4.out.c2
      have z3 := HX4.out.c3
      obtain ⟨r, hr⟩ : ∃ r, r = x.k.toNat % 4 := ⟨_, rfl⟩
      have hit : x.k.tmod 4 = (r : Int) := by rw [Int.tmod_eq_emod_of_nonneg n1]; omega
      have hr4 : r < 4 := by omega
      clear hr
      by_cases e0 : r = 0
      · subst e0
        have hit0 : x.k.tmod 4 = 0 := hit
        go_wp2_with fail
        refine (DuoT.call1 HD4.out (HSX.out w4 (by omega)) (n' := (k + 1)) (g1 := noteG g x.key x.n) (fun S' h1 h2 => Note_any h2 h1 k64 (by unfold maxLen; omega))).mono ?_
        rintro e w5 ⟨rfl, hd5, k5⟩
        have HD5 := Lib.hid hd5
        have K5 := Lib.hid k5
        have q5 := HX4.out.kept k5 (fun hh => hh.2 rfl)
        have q50 := q5.c0
        have q51 := q5.c1
        have q52 := q5.c2
        have q53 := q5.c3
        have HX5 := Lib.hid q5
        clear hd5 k5 q5
        go_wp2_with fail
        refine (DuoT.call2 HD5.out (HSX.out w5 (by have := K5.out.size; omega)) (n' := (k + 1)) (g1 := noteG g x.key x.n) (fun S' h1 h2 => rNote_any h2 h1 (by omega) x.key x.n)).mono ?_
        rintro e w6 ⟨rfl, hd6, k6⟩
        have HD6 := Lib.hid hd6
        have K6 := Lib.hid (K5.out.trans k6)
        have q6 := HX5.out.kept k6 (fun hh => hh.2 rfl)
        have q60 := q6.c0
        have q61 := q6.c1
        have q62 := q6.c2
        have q63 := q6.c3
        clear hd6 k6 q6 q50 q51 q52 q53 HD5 HX5 K5 z0 z1 z2 z3
        have HEZ : Hid (Ends (noteG g x.key x.n)) := (ends_note HE.out x.key x64)
        have HO1 := Lib.hid (fun q => over_q (DuoT.tab HD6.out) HEZ.out k64 x64 w64 q)
        have HO2 := Lib.hid (fun q => rover_q (DuoT.ref HD6.out) (by omega) HEZ.out x64 w64 q : ∀ q, Calls _ _ #[_, .int .i64 x.key, _, _] _ _)
        generalize overG (noteG g x.key x.n) x.key x.n x.w = o at HO1 HO2
        go_wp2
        go_quiet (first | (go_at_call 29; with_reducible exact Calls.quiet_of (HO1.out _)) | (go_at_call 30; with_reducible exact Calls.quiet_of (HO2.out _)))
        go_wp2
        go_roundw
        case rel => exact ⟨k + 1, _, by omega, by go_num, (duoT _ _ _ _ _ _ _).below ((duoT _ _ _ _ _ _ _).mono (DuoT.more HD6.out (by omega) (by omega)) (fun j _ hj => hj.1)) (below_drewN (Below.refl _ _) _), HEZ.out, below_drewN (HB4.out.trans (K6.out.below (B := w.heap.size) HB4.out.size (fun _ hj => hj.1))) _⟩
        case measure => simp [intOf]; omega
      by_cases e3 : r = 3
      · subst e3
        have hit0 : x.k.tmod 4 = 3 := hit
        go_wp2_with fail
        refine (DuoT.call1 HD4.out (HSX.out w4 (by omega)) (n' := k) (g1 := dropG g x.key) (fun S' h1 h2 => WDrop_any h2 k64)).mono ?_
        rintro e w5 ⟨rfl, hd5, k5⟩
        have HD5 := Lib.hid hd5
        have K5 := Lib.hid k5
        have q5 := HX4.out.kept k5 (fun hh => hh.2 rfl)
        have q50 := q5.c0
        have q51 := q5.c1
        have q52 := q5.c2
        have q53 := q5.c3
        have HX5 := Lib.hid q5
        clear hd5 k5 q5
        go_wp2_with fail
        refine (DuoT.call2 HD5.out (HSX.out w5 (by have := K5.out.size; omega)) (n' := k) (g1 := dropG g x.key) (fun S' h1 h2 => rDrop_any h2 h1 (by omega) x.key)).mono ?_
        rintro e w6 ⟨rfl, hd6, k6⟩
        have HD6 := Lib.hid hd6
        have K6 := Lib.hid (K5.out.trans k6)
        have q6 := HX5.out.kept k6 (fun hh => hh.2 rfl)
        have q60 := q6.c0
        have q61 := q6.c1
        have q62 := q6.c2
        have q63 := q6.c3
        clear hd6 k6 q6 q50 q51 q52 q53 HD5 HX5 K5 z0 z1 z2 z3
        have HEZ : Hid (Ends (dropG g x.key)) := (ends_drop HE.out x.key)
        have HO1 := Lib.hid (fun q => over_q (DuoT.tab HD6.out) HEZ.out k64 x64 w64 q)
        have HO2 := Lib.hid (fun q => rover_q (DuoT.ref HD6.out) (by omega) HEZ.out x64 w64 q : ∀ q, Calls _ _ #[_, .int .i64 x.key, _, _] _ _)
        generalize overG (dropG g x.key) x.key x.n x.w = o at HO1 HO2
        go_wp2
        go_quiet (first | (go_at_call 29; with_reducible exact Calls.quiet_of (HO1.out _)) | (go_at_call 30; with_reducible exact Calls.quiet_of (HO2.out _)))
        go_wp2
        go_roundw
        case rel => exact ⟨k + 1, _, by omega, by go_num, (duoT _ _ _ _ _ _ _).below ((duoT _ _ _ _ _ _ _).mono (DuoT.more HD6.out (by omega) (by omega)) (fun j _ hj => hj.1)) (below_drewN (Below.refl _ _) _), HEZ.out, below_drewN (HB4.out.trans (K6.out.below (B := w.heap.size) HB4.out.size (fun _ hj => hj.1))) _⟩
        case measure => simp [intOf]; omega
      have hn0 : ¬ x.k.tmod 4 = 0 := by omega
      have hn3 : ¬ x.k.tmod 4 = 3 := by omega
      have HEZ : Hid (Ends g) := HE.out
      have HO1 := Lib.hid (fun q => over_q (DuoT.tab HD4.out) HEZ.out k64 x64 w64 q)
      have HO2 := Lib.hid (fun q => rover_q (DuoT.ref HD4.out) (by omega) HEZ.out x64 w64 q : ∀ q, Calls _ _ #[_, .int .i64 x.key, _, _] _ _)
      generalize overG g x.key x.n x.w = o at HO1 HO2
      go_wp2
      go_quiet (first | (go_at_call 29; with_reducible exact Calls.quiet_of (HO1.out _)) | (go_at_call 30; with_reducible exact Calls.quiet_of (HO2.out _)))
      go_wp2
      go_roundw
      case rel => exact ⟨k + 1, _, by omega, by go_num, (duoT _ _ _ _ _ _ _).below ((duoT _ _ _ _ _ _ _).mono (DuoT.more HD4.out (by omega) (by omega)) (fun j _ hj => hj.1)) (below_drewN (Below.refl _ _) _), HEZ.out, below_drewN (HB4.out.trans ((Kept.refl (fun j => w.heap.size ≤ j ∧ j ≠ xb) w4).below (B := w.heap.size) HB4.out.size (fun _ hj => hj.1))) _⟩
      case measure => simp [intOf]; omega
    · have hlti : ¬ (k : Int) < (l.length : Int) := by omega
      go_wp2
      go_ret
      exact ⟨rfl, HB.out⟩
end Go.Proofs.Ytckbbakajabhmaa
