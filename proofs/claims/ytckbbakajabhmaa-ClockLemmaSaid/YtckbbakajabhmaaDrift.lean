/- Drift: the code's sweep tells whether clocks ticked as they should. -/
import Derived.Test.YtckbbakajabhmaaHad
import Derived.Deep.Cut
namespace Go.Proofs.Ytckbbakajabhmaa
open Go.RowKit Go.Maps

theorem elem_ints : Try.prog.elem 22 = 3 := by kernel_rfl
theorem under_ints : Try.prog.underlying 22 = some (.slice (Try.prog.elem 22)) := by rw [elem_ints]; exact Try.underlying22
/-- l[1:] -/
theorem tail_any {B : Nat → Prop} {w : World} {s : Slot} {p : Nat} {rest : List Nat} (h : Run B w (slV s) (p :: rest).length (natsC (p :: rest))) :
    ∃ s' : Slot, (∀ w', (Instr.slice 22 (slV s) (some (.int .i64 1)) none none).run Try.prog w' = .ok (slV s') w') ∧ (∀ w', (Instr.sliceAt 22 (slV s) (some (.int .i64 1)) none none).run Try.prog w' = .ok (slV s') w') ∧
      Run B w (slV s') rest.length (natsC rest) := by
  obtain ⟨a, n, c⟩ := s
  obtain ⟨a', c', e, h1, h2, h3⟩ := h
  cases e
  simp only [List.length_cons] at h1 h3 ⊢
  rcases h3 with h3 | ⟨b, off, rfl, hb, hlt, hcell⟩
  · omega
  have hr : ∀ w', (Instr.slice 22 (slV (some ⟨b, off, none⟩, rest.length + 1, c)) (some (.int .i64 1)) none none).run Try.prog w' = .ok (sliced (some ⟨b, off, none⟩) 1 (rest.length + 1) c 1) w' := fun w' => by
    rw [run_slice_l w' 22 (some ⟨b, off, none⟩) (rest.length + 1) c under_ints .i64 1 (by omega) (by simp; omega), elem_ints, Try.sizeOf3]
    rfl
  have hcell' : ∀ j u, (natsC rest)[j]? = some u → w.cell? ⟨b, off + 1 + j, none⟩ = some u := fun j u hu => by
    have := hcell (j + 1) u (by simpa [natsC] using hu)
    rwa [show off + 1 + j = off + (j + 1) by omega]
  have hsl : ∀ s' : Slot, (∀ w', (Instr.slice 22 (slV (some ⟨b, off, none⟩, rest.length + 1, c)) (some (.int .i64 1)) none none).run Try.prog w' = .ok (slV s') w') → ∀ w', (Instr.sliceAt 22 (slV (some ⟨b, off, none⟩, rest.length + 1, c)) (some (.int .i64 1)) none none).run Try.prog w' = .ok (slV s') w' := fun s' h w' => by rw [run_sliceAt_slice w' _ _ _ _ _ under_ints]; exact h w'
  by_cases hc1 : c = 1
  · have hr0 : rest.length = 0 := by omega
    have hx : ∀ w', (Instr.slice 22 (slV (some ⟨b, off, none⟩, rest.length + 1, c)) (some (.int .i64 1)) none none).run Try.prog w' = .ok (slV (some ⟨b, off, none⟩, rest.length, 0)) w' := fun w' => by
      rw [hr]; unfold sliced; rw [if_pos hc1]; simp [hc1]
    exact ⟨_, hx, hsl _ hx, ⟨some ⟨b, off, none⟩, 0, rfl, by omega, (fun e => by cases e), .inl hr0⟩⟩
  · have hx : ∀ w', (Instr.slice 22 (slV (some ⟨b, off, none⟩, rest.length + 1, c)) (some (.int .i64 1)) none none).run Try.prog w' = .ok (slV (some ⟨b, off + 1, none⟩, rest.length, c - 1)) w' := fun w' => by
      rw [hr]; unfold sliced; rw [if_neg hc1]; simp [add_off]
    exact ⟨_, hx, hsl _ hx, ⟨some ⟨b, off + 1, none⟩, c - 1, rfl, by omega, (fun e => by cases e), .inr ⟨b, off + 1, rfl, hb, hlt, hcell'⟩⟩⟩

theorem Rd.keep {w w' : World} {base mb n : Nat} {g : Int → Option Slot} {P : Int → List Nat} (h : Rd w base mb n g P) (hs : w.heap.size ≤ w'.heap.size) (hm : w'.heap[mb]? = w.heap[mb]?) (hk : ∀ b, base ≤ b → b ≠ mb → b < w.heap.size → w'.heap[b]? = w.heap[b]?) : Rd w' base mb n g P :=
  ⟨h.map.keep hm, fun j s hj => (h.run j s hj).keep hs (fun b hb hl => hk b hb.1 hb.2 hl), h.no⟩
/-- a node's row cut in the map -/
theorem Rd.put {w w' : World} {base mb n : Nat} {g : Int → Option Slot} {P P' : Int → List Nat} {x : Int} {s' : Slot} (h : Rd w base mb n g P) (hm : GMap slV w' mb (n + 1) (upd g x (some s'))) (ht : w.mapTurned w' mb)
    (hr : Run (fun k => base ≤ k ∧ k ≠ mb) w (slV s') (P' x).length (natsC (P' x))) (hP : ∀ j, j ≠ x → P' j = P j) : Rd w' base mb (n + 1) (upd g x (some s')) P' := by
  have hk : ∀ b, base ≤ b ∧ b ≠ mb → b < w.heap.size → w'.heap[b]? = w.heap[b]? := fun b hb hl => ht.grown.block b hl (fun e => hb.2 (by cases e; rfl))
  refine ⟨hm, fun j s hj => ?_, fun j hj => ?_⟩
  · by_cases e : j = x
    · subst e
      rw [upd_same] at hj; cases hj
      exact hr.keep (Nat.le_of_eq (turned_size ht).symm) hk
    · rw [upd_other _ _ e] at hj
      rw [hP j e]
      exact (h.run j s hj).keep (Nat.le_of_eq (turned_size ht).symm) hk
  · by_cases e : j = x
    · subst e; rw [upd_same] at hj; cases hj
    · rw [upd_other _ _ e] at hj
      rw [hP j e]; exact h.no j hj
/-- what Drift tells -/
def DriftQ (e : Ending) (l : List Int) (ms sv wt le : Int) : Prop := ∃ b, e = .returned (.bool b) ∧ (b = true ↔ Steady l ms sv wt le)
theorem drift_none {l : List Int} {ms sv wt le : Int} (h : ms ≤ 0 ∨ sv ≤ 0 ∨ le ≤ 0) : DriftQ (.returned (.bool true)) l ms sv wt le :=
  ⟨true, rfl, fun _ p e m _ _ _ h0 h1 _ s hs => by omega, fun _ => rfl⟩
theorem max_wait {l : List Int} {ms sv wt wt' le : Int} (h : max wt 1 = max wt' 1) : Steady l ms sv wt le ↔ Steady l ms sv wt' le := by unfold Steady; rw [h]
set_option maxRecDepth 100000 in
set_option maxHeartbeats 8000000 in
theorem drift_main {w : World} {lv : Value} {l : List Int} {ms sv wt : Int} {n k : Nat} (h : Run (fun k => k < w.heap.size) w lv l.length (intsC l)) (hi64 : ∀ x ∈ l, I64 x) (hc : l.length ≤ 1048576) (hms : 1 ≤ ms) (hms2 : I64 ms) (hsv : 1 ≤ sv) (hwt : I64 wt)
    (hn : (n : Int) + 1 ≤ 9223372036854775807) (hk : max wt 1 = (k : Int) + 1) :
    Calls Try.prog 16 #[lv, .int .i64 ms, .int .i64 sv, .int .i64 wt, .int .i64 ((n : Int) + 1)] w fun e w' => DriftQ e l ms sv wt ((n : Int) + 1) ∧ Below w.heap.size w w' := by
  have HP := Lib.hid (places_any h hi64 hc)
  have H := Lib.hid h
  have H64 := Lib.hid hi64
  have HS : Hid (Steady l ms sv wt ((n : Int) + 1) ↔ OkTo l ms sv ((k : Int) + 1) ((n : Int) + 1) l.length) := by show _ ↔ _; rw [← ok_end, hk]
  have hk2 : (k : Int) + 1 ≤ 9223372036854775807 := by have := hwt.2; omega
  clear hwt
  obtain ⟨a, c, rfl, hac⟩ := h.slice
  have hmx : Hid ((if wt < 1 then (1 : Int) else wt) = (k : Int) + 1) := by show _ = _; split <;> omega
  clear h hi64 hk
  have c1 : ¬ ms ≤ 0 := by omega
  have c2 : ¬ sv ≤ 0 := by omega
  have c3 : ¬ (n : Int) + 1 ≤ 0 := by omega
  go_enter Try.func16, Try.ntmps16
  go_upto_region 4 with fail
  rw [hmx.out]
  go_wp2_with fail
  refine HP.out.mono ?_
  rintro e w1 ⟨rfl, ⟨g0, hp0⟩, hb1⟩
  have hr0 := hp0.rd
  have HH := Lib.hid (allHad_any hr0 hc H64.out (by omega) hms2 (by omega) hn)
  have HR0 := Lib.hid hr0
  have HB1 := Lib.hid hb1
  clear hp0 hr0 hb1
  go_wp2_with fail
  refine HH.out.mono ?_
  rintro e w2 ⟨⟨en0, rfl, hsup⟩, hb2⟩
  have HB2 : Hid (Below w.heap.size w w2) := HB1.out.trans (hb2.mono HB1.out.size)
  have HR2 : Hid (Rd w2 w.heap.size w.heap.size l.length g0 (fun j => pos 0 (l.drop 0) j)) := by
    show Rd _ _ _ _ _ _
    rw [List.drop_zero]
    exact HR0.out.keep hb2.size (hb2.block _ HR0.out.map.lt) (fun b _ _ hl => hb2.block b hl)
  have HSU := Lib.hid hsup
  clear hsup hb2 HH
  go_wp2_with (go_in)
  go_loopw [42, 13] (fun i e wr => ∃ (p en : Nat) (g : Int → Option Slot), p ≤ l.length ∧ i = .int .i64 p ∧ e = .int .i64 (en : Int) ∧ Hid (Rd wr w.heap.size w.heap.size (l.length + p) g (fun j => pos p (l.drop p) j)) ∧ Hid (Below w.heap.size w wr) ∧ Hid (Sup l ms sv n p en) ∧ Hid (OkTo l ms sv ((k : Int) + 1) ((n : Int) + 1) p)) (fun i _ _ => l.length - (intOf i).toNat)
  case atStart => exact ⟨0, en0, g0, Nat.zero_le _, rfl, rfl, HR2.out, HB2.out, HSU.out, ok_start _ _ _ _ _⟩
  case round =>
    obtain ⟨p, en, g, hp, rfl, rfl, HR, HB, HU, HO⟩ := hrel
    by_cases hlt : p < l.length
    · have hlti : (p : Int) < (l.length : Int) := by omega
      obtain ⟨x, hx⟩ : ∃ x, l[p]? = some x := ⟨_, List.getElem?_eq_getElem hlt⟩
      have hx64 := H64.out x (List.mem_of_getElem? hx)
      obtain ⟨b, off, rfl, hb1, hb2, hb3⟩ := Run.get (j := p) H.out (by omega) (by rw [intsC, List.getElem?_map, hx]; rfl)
      have hcx : wr.cell? ⟨b, off + p, none⟩ = some (.int .i64 x) := (HB.out.cell (p := ⟨b, off + p, none⟩) hb2).trans hb3
      have hlk := (HR.out.map.look 57 22 Try.underlying57 (fun w => zeroSl w) hx64 wr rfl).1
      rw [getD_slV] at hlk
      have hPx : pos p (l.drop p) x = p :: pos (p + 1) (l.drop (p + 1)) x := by rw [pos_drop hx, if_pos rfl]
      obtain ⟨s, hgs⟩ : ∃ s, g x = some s := by
        cases e : g x with
        | none => have := HR.out.no x e; rw [hPx] at this; cases this
        | some s => exact ⟨s, rfl⟩
      rw [hgs] at hlk
      have hrun := HR.out.run x s hgs
      have hrun' := hrun
      simp only [hPx] at hrun'
      obtain ⟨s', t1, t2, t3⟩ := tail_any hrun'
      obtain ⟨w3, r3, m3, u3⟩ := HR.out.map.put 57 22 Try.underlying57 hx64 (by unfold maxLen; omega) s'
      have hk3 : ∀ j, w.heap.size ≤ j ∧ j ≠ w.heap.size → j < wr.heap.size → w3.heap[j]? = wr.heap[j]? := fun j hj hl => u3.grown.block j hl (fun e => hj.2 (by cases e; rfl))
      have HR3 : Hid (Rd w3 w.heap.size w.heap.size (l.length + p + 1) (upd g x (some s')) (fun j => pos (p + 1) (l.drop (p + 1)) j)) :=
        HR.out.put m3 u3 t3 (fun j hj => by rw [pos_drop hx, if_neg (fun e => hj e.symm)])
      have HB3 : Hid (Below w.heap.size w w3) := HB.out.grown u3.grown HB.out.size (fun j hj => by cases hj; exact Nat.le_refl _)
      have hl1 : (pos p (l.drop p) x).length ≤ 1048576 := Nat.le_trans (pos_len_le _ _ _) (by simp; omega)
      have hl2 : (pos (p + 1) (l.drop (p + 1)) x).length ≤ 1048576 := Nat.le_trans (pos_len_le _ _ _) (by simp; omega)
      have HN1 := Lib.hid (nth_any (hrun.keep (Nat.le_of_eq (turned_size u3).symm) hk3) k l.length hl1 hk2)
      have HN2 := Lib.hid (nth_any (t3.keep (Nat.le_of_eq (turned_size u3).symm) hk3) n l.length hl2 hn)
      obtain ⟨q1, hq1⟩ : ∃ q1, q1 = at_ l p x (k + 1) := ⟨_, rfl⟩
      obtain ⟨q2, hq2⟩ : ∃ q2, q2 = at_ l (p + 1) x (n + 1) := ⟨_, rfl⟩
      have e1 : nthP (pos p (l.drop p) x) (k + 1) l.length = q1 := hq1.symm
      have e2 : nthP (pos (p + 1) (l.drop (p + 1)) x) (n + 1) l.length = q2 := hq2.symm
      rw [e1] at HN1
      rw [e2] at HN2
      have HX := Lib.hid hx
      have HQ1 := Lib.hid hq1
      have HQ2 := Lib.hid hq2
      have HIS := Lib.hid (isServer_any (w := w3) (sv := sv) hx64 hms hms2)
      have hxl := hx64.1
      have hxu := hx64.2
      clear hx hb3 hPx hgs hrun hrun' t3 m3 u3 hk3 hl1 hl2 hq1 hq2 e1 e2
      by_cases d1 : x < 0
      · have HO3 := Lib.hid (ok_skip HO.out HX.out (.inl d1))
        have HU3 := Lib.hid (sup_other HX.out (.inl (by omega)) HU.out)
        go_wp2
        go_roundw
        case rel => exact ⟨p + 1, en, _, by omega, by go_num, rfl, HR3, HB3, HU3, HO3⟩
        case measure => simp [intOf]; omega
      · have d1' : 0 ≤ x := by omega
        by_cases d2 : x < ms
        · have HU3 := Lib.hid (sup_other HX.out (.inl d2) HU.out)
          by_cases d3 : q1 < l.length
          · have d3' : (q1 : Int) < (l.length : Int) := by omega
            by_cases d4 : q1 ≤ en
            · have d4' : (q1 : Int) ≤ (en : Int) := by omega
              have HNO : Hid (¬ Steady l ms sv wt ((n : Int) + 1)) := fun hst => not_ok HX.out d1' d2 HU.out (by rw [← HQ1.out]; exact d3) (by rw [← HQ1.out]; exact d4) (HS.out.1 hst)
              go_wp2_with fail
              refine HN1.out.mono ?_
              rintro e w4 ⟨rfl, rfl⟩
              go_wp2
              go_ret
              exact ⟨⟨false, rfl, fun h => (by cases h), fun h => absurd h HNO.out⟩, HB3.out⟩
            · have d4' : (en : Int) < (q1 : Int) := by omega
              have HO3 := Lib.hid (ok_master HO.out HX.out HU.out rfl (fun hh => by rw [← HQ1.out] at hh; omega))
              go_wp2_with fail
              refine HN1.out.mono ?_
              rintro e w4 ⟨rfl, rfl⟩
              go_wp2
              go_roundw
              case rel => exact ⟨p + 1, en, _, by omega, by go_num, rfl, HR3, HB3, HU3, HO3⟩
              case measure => simp [intOf]; omega
          · have d3' : (l.length : Int) ≤ (q1 : Int) := by omega
            have HO3 := Lib.hid (ok_master HO.out HX.out HU.out rfl (fun hh => by rw [← HQ1.out] at hh; omega))
            go_wp2_with fail
            refine HN1.out.mono ?_
            rintro e w4 ⟨rfl, rfl⟩
            go_wp2
            go_roundw
            case rel => exact ⟨p + 1, en, _, by omega, by go_num, rfl, HR3, HB3, HU3, HO3⟩
            case measure => simp [intOf]; omega
        · have d2' : ms ≤ x := by omega
          have HO3 := Lib.hid (ok_skip HO.out HX.out (.inr d2'))
          cases hs : srvB ms sv x with
          | true =>
            have ho := of_srv hs
            have HU3 := Lib.hid (sup_server HX.out ho.1 ho.2 HU.out)
            rw [← HQ2.out] at HU3
            rw [hs] at HIS
            clear ho hs
            by_cases d5 : en < q2
            · have d5' : (en : Int) < (q2 : Int) := by omega
              rw [show max en q2 = q2 by omega] at HU3
              go_wp2_with fail
              refine HIS.out.mono ?_
              rintro e w4 ⟨rfl, rfl⟩
              go_wp2_with fail
              refine HN2.out.mono ?_
              rintro e w4 ⟨rfl, rfl⟩
              go_wp2
              go_roundw
              case rel => exact ⟨p + 1, q2, _, by omega, by go_num, rfl, HR3, HB3, HU3, HO3⟩
              case measure => simp [intOf]; omega
            · have d5' : (q2 : Int) ≤ (en : Int) := by omega
              rw [show max en q2 = en by omega] at HU3
              go_wp2_with fail
              refine HIS.out.mono ?_
              rintro e w4 ⟨rfl, rfl⟩
              go_wp2_with fail
              refine HN2.out.mono ?_
              rintro e w4 ⟨rfl, rfl⟩
              go_wp2
              go_roundw
              case rel => exact ⟨p + 1, en, _, by omega, by go_num, rfl, HR3, HB3, HU3, HO3⟩
              case measure => simp [intOf]; omega
          | false =>
            have HU3 : Hid (Sup l ms sv n (p + 1) en) := sup_other HX.out (by unfold srvB at hs; rw [decide_eq_true d2', Bool.true_and] at hs; have := of_decide_eq_false hs; omega) HU.out
            rw [hs] at HIS
            clear hs
            go_wp2_with fail
            refine HIS.out.mono ?_
            rintro e w4 ⟨rfl, rfl⟩
            go_wp2
            go_roundw
            case rel => exact ⟨p + 1, en, _, by omega, by go_num, rfl, HR3, HB3, HU3, HO3⟩
            case measure => simp [intOf]; omega
    · have hlti : ¬ (p : Int) < (l.length : Int) := by omega
      have e : p = l.length := by omega
      subst e
      go_wp2
      go_ret
      exact ⟨⟨true, rfl, fun _ => HS.out.2 HO.out, fun _ => rfl⟩, HB.out⟩

set_option maxRecDepth 100000 in
set_option maxHeartbeats 2000000 in
theorem Drift_any {w : World} {lv : Value} {l : List Int} {ms sv wt le : Int} (h : Run (fun k => k < w.heap.size) w lv l.length (intsC l)) (hi64 : ∀ x ∈ l, I64 x) (hc : l.length ≤ 1048576) (hms2 : I64 ms) (hwt : I64 wt) (hle : I64 le) :
    Calls Try.prog 16 #[lv, .int .i64 ms, .int .i64 sv, .int .i64 wt, .int .i64 le] w fun e w' => DriftQ e l ms sv wt le ∧ Below w.heap.size w w' := by
  by_cases c1 : ms ≤ 0
  · have HQ := Lib.hid (drift_none (l := l) (wt := wt) (sv := sv) (le := le) (.inl c1))
    obtain ⟨a, c, rfl, hac⟩ := h.slice
    clear h hi64
    go_enter Try.func16, Try.ntmps16
    go_wp2
    go_ret
    exact ⟨HQ.out, Below.refl _ _⟩
  · by_cases c2 : sv ≤ 0
    · have HQ := Lib.hid (drift_none (l := l) (wt := wt) (ms := ms) (le := le) (.inr (.inl c2)))
      obtain ⟨a, c, rfl, hac⟩ := h.slice
      clear h hi64
      go_enter Try.func16, Try.ntmps16
      go_wp2
      go_ret
      exact ⟨HQ.out, Below.refl _ _⟩
    · by_cases c3 : le ≤ 0
      · have HQ := Lib.hid (drift_none (l := l) (wt := wt) (ms := ms) (sv := sv) (.inr (.inr c3)))
        obtain ⟨a, c, rfl, hac⟩ := h.slice
        clear h hi64
        go_enter Try.func16, Try.ntmps16
        go_wp2
        go_ret
        exact ⟨HQ.out, Below.refl _ _⟩
      · obtain ⟨n, rfl⟩ : ∃ n : Nat, le = (n : Int) + 1 := ⟨(le - 1).toNat, by omega⟩
        exact drift_main (k := (max wt 1 - 1).toNat) h hi64 hc (by omega) hms2 (by omega) hwt hle.2 (by omega)
end Go.Proofs.Ytckbbakajabhmaa
