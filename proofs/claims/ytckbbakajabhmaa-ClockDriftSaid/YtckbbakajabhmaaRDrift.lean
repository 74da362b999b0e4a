/- The document's Drift: window by window. -/
import Derived.Test.YtckbbakajabhmaaLawKit7
namespace Go.Proofs.Ytckbbakajabhmaa
open Go.RowKit Go.Maps

set_option maxRecDepth 100000 in
set_option maxHeartbeats 2000000 in
theorem between_any {w : World} {lv : Value} {l : List Int} (h : Run (fun k => k < w.heap.size) w lv l.length (intsC l)) (hc : l.length ≤ 1048576) {p k : Nat} (hpk : p ≤ k) (hk : k < l.length) (j : Int) :
    Calls Try.prog 36 #[lv, .int .i64 (p : Int), .int .i64 (k : Int), .int .i64 j] w fun e w' => e = .returned (.int .i64 ((seg l p (k + 1)).count j : Nat)) ∧ w = w' := by
  have H := Lib.hid h
  obtain ⟨a, c, rfl, hac⟩ := h.slice
  clear h
  go_enter Try.func36, Try.ntmps36
  go_wp2
  go_loopw [9, 10] (fun n i wr => ∃ (q r : Nat), p ≤ q ∧ q ≤ k + 1 ∧ i = .int .i64 (q : Int) ∧ n = .int .i64 (r : Int) ∧ r ≤ q ∧ Hid (r = (seg l p q).count j) ∧ wr = w) (fun _ i _ => k + 1 - (intOf i).toNat)
  case atStart => exact ⟨p, 0, Nat.le_refl _, by omega, rfl, rfl, Nat.zero_le _, by rw [seg_self]; rfl, rfl⟩
  case round =>
    obtain ⟨q, r, hq1, hq2, rfl, rfl, hrq, HR, rfl⟩ := hrel
    by_cases hlt : q ≤ k
    · have hlti : (q : Int) ≤ (k : Int) := by omega
      have hqi : (q : Int) < (l.length : Int) := by omega
      obtain ⟨x, hx⟩ : ∃ x, l[q]? = some x := ⟨_, List.getElem?_eq_getElem (by omega)⟩
      obtain ⟨b, off, rfl, hb1, hb2, hb3⟩ := Run.get (j := q) H.out (by omega) (by rw [intsC, List.getElem?_map, hx]; rfl)
      have hsn := seg_snoc hx hq1 j
      by_cases he : x = j
      · subst he
        have HR2 : Hid (r + 1 = (seg l p (q + 1)).count x) := by show _ = _; rw [hsn, if_pos rfl, HR.out]
        clear hx hsn
        go_wp2
        go_roundw
        case rel => exact ⟨q + 1, r + 1, by omega, by omega, by go_num, by go_num, by omega, HR2, by first | rfl | trivial⟩
        case measure => simp [intOf]; omega
      · have HR2 : Hid (r = (seg l p (q + 1)).count j) := by show _ = _; rw [hsn, if_neg he, HR.out, Nat.add_zero]
        clear hx hsn
        go_wp2
        go_roundw
        case rel => exact ⟨q + 1, r, by omega, by omega, by go_num, rfl, by omega, HR2, by first | rfl | trivial⟩
        case measure => simp [intOf]; omega
    · have hlti : (k : Int) < (q : Int) := by omega
      obtain rfl : q = k + 1 := by omega
      go_wp2
      go_ret
      rw [HR.out]
      exact ⟨rfl, rfl⟩
theorem wrap_i64 {x : Int} (h1 : -9223372036854775808 ≤ x) (h2 : x ≤ 9223372036854775807) : wrap64 x = x := by
  first | exact wrap64_id h1 h2 | (unfold wrap64; omega) | (unfold wrap64; split <;> omega)
theorem ok_none {l : List Int} {ms sv le : Int} {p k W : Nat} {m : Int} (h : OkTo l ms sv (W : Int) le p) (hm : l[p]? = some m) (hlen : k + 1 = l.length) (hc : (seg l p (k + 1)).count m < W) : OkTo l ms sv (W : Int) le (p + 1) := by
  intro q hq e m' hqe hp he h0 hms hcc s hs
  rcases Nat.lt_succ_iff_lt_or_eq.1 hq with h1 | rfl
  · exact h q h1 e m' hqe hp he h0 hms hcc s hs
  · rw [hm] at hp; obtain rfl : m = m' := by simpa using hp
    exact absurd hcc (none_window hlen hqe he (by omega))
theorem ok_window {l : List Int} {ms sv le : Int} {p k W : Nat} {m : Int} (h : OkTo l ms sv (W : Int) le p) (hm : l[p]? = some m) (hpk : p ≤ k) (hk : l[k]? = some m) (hc : (seg l p (k + 1)).count m = W)
    (hall : ∀ s : Nat, (s : Int) < sv → le ≤ ((seg l p (k + 1)).count (ms + s) : Int)) : OkTo l ms sv (W : Int) le (p + 1) := by
  intro q hq e m' hqe hp he h0 hms hcc s hs
  rcases Nat.lt_succ_iff_lt_or_eq.1 hq with h1 | rfl
  · exact h q h1 e m' hqe hp he h0 hms hcc s hs
  · rw [hm] at hp; obtain rfl : m = m' := by simpa using hp
    obtain rfl : e = k := one_window hpk hqe hk he (by omega)
    exact hall s hs
set_option maxRecDepth 100000 in
set_option maxHeartbeats 8000000 in
theorem rDrift_any {w : World} {lv : Value} {l : List Int} {ms sv wt le : Int} (h : Run (fun k => k < w.heap.size) w lv l.length (intsC l)) (hc : l.length ≤ 1048576) (hms1 : -1048576 ≤ ms) (hms2 : ms ≤ 1048576) (hsv : sv ≤ 1048576) (hwt : I64 wt) :
    Calls Try.prog 17 #[lv, .int .i64 ms, .int .i64 sv, .int .i64 wt, .int .i64 le] w fun e w' => DriftQ e l ms sv wt le ∧ Below w.heap.size w w' := by
  obtain ⟨W0, hW0⟩ : ∃ W0 : Nat, max wt 1 = (W0 : Int) + 1 := ⟨(max wt 1 - 1).toNat, by omega⟩
  have HS : Hid (Steady l ms sv wt le ↔ OkTo l ms sv ((W0 + 1 : Nat) : Int) le l.length) := by show _ ↔ _; rw [← ok_end, hW0]; rfl
  have HMX : Hid ((if wt < 1 then (1 : Int) else wt) = (W0 : Int) + 1) := by show _ = _; split <;> omega
  have hW2 : (W0 : Int) ≤ 9223372036854775806 := by have := hwt.2; omega
  have H := Lib.hid h
  obtain ⟨a, c, rfl, hac⟩ := h.slice
  clear h hW0 hwt
  go_enter Try.func17, Try.ntmps17
  go_wp2
  go_loopw [11] (fun i wr => ∃ p : Nat, p ≤ l.length ∧ i = .int .i64 (p : Int) ∧ Hid (Below w.heap.size w wr) ∧ Hid (OkTo l ms sv ((W0 + 1 : Nat) : Int) le p)) (fun i _ => l.length - (intOf i).toNat)
  case atStart => exact ⟨0, Nat.zero_le _, rfl, Below.refl _ _, ok_start _ _ _ _ _⟩
  case round =>
    obtain ⟨p, hp, rfl, HB, HO⟩ := hrel
    obtain ⟨wo, hwo⟩ : ∃ wo, wo = wr := ⟨_, rfl⟩
    subst hwo
    by_cases hlt : p < l.length
    · have hlti : (p : Int) < (l.length : Int) := by omega
      obtain ⟨x, hx⟩ : ∃ x, l[p]? = some x := ⟨_, List.getElem?_eq_getElem hlt⟩
      obtain ⟨b, off, rfl, hb1, hb2, hb3⟩ := Run.get (j := p) H.out (by omega) (by rw [intsC, List.getElem?_map, hx]; rfl)
      have hcx : wo.cell? ⟨b, off + p, none⟩ = some (.int .i64 x) := (HB.out.cell (p := ⟨b, off + p, none⟩) hb2).trans hb3
      have HX := Lib.hid hx
      have HB3 := Lib.hid hb3
      clear hx hb3
      by_cases d1 : x < 0
      · have HO3 := Lib.hid (ok_skip HO.out HX.out (.inl d1))
        go_wp2
        go_roundw
        case rel => exact ⟨p + 1, by omega, by go_num, HB, HO3⟩
        case measure => simp [intOf]; omega
      · have d1' : 0 ≤ x := by omega
        by_cases d2 : ms ≤ x
        · have HO3 := Lib.hid (ok_skip HO.out HX.out (.inr d2))
          go_wp2
          go_roundw
          case rel => exact ⟨p + 1, by omega, by go_num, HB, HO3⟩
          case measure => simp [intOf]; omega
        · have d2' : x < ms := by omega
          clear d1 d2
          go_upto_region 6 with fail
          go_cut [13] (fun t wx => t = .int .i64 (W0 : Int) ∧ wx = wo)
          case first =>
            have HX0 := HMX.out
            go_wp2
            go_meet
            exact ⟨by first | rfl | rw [wrap_i64 (by omega) (by omega), show (W0 : Int) + 1 - 1 = (W0 : Int) by omega], rfl⟩
          obtain ⟨rfl, rfl⟩ := hcut
          go_wp2
          go_loopw [12, 13] (fun i n wr => ∃ (k lf : Nat), p ≤ k ∧ k < l.length ∧ i = .int .i64 (k : Int) ∧ n = .int .i64 (lf : Int) ∧ lf ≤ W0 ∧ Hid (lf + (seg l p (k + 1)).count x = W0 + 1) ∧ Hid (lf = 0 → l[k]? = some x) ∧ Hid (Below w.heap.size w wr)) (fun i _ _ => l.length - (intOf i).toNat)
          case atStart => exact ⟨p, W0, Nat.le_refl _, hlt, rfl, rfl, Nat.le_refl _, by show _ = _; rw [seg_one HX.out]; simp, fun _ => HX.out, HB⟩
          case round =>
            obtain ⟨k, lf, hk1, hk2, rfl, rfl, hlf, HC, HL, HBr⟩ := hrel
            obtain ⟨wo, hwo⟩ : ∃ wo, wo = wr := ⟨_, rfl⟩
            subst hwo
            by_cases e1 : 0 < lf
            · have e1' : (0 : Int) < (lf : Int) := by omega
              by_cases e2 : k + 1 < l.length
              · have e2' : (k : Int) + 1 < (l.length : Int) := by omega
                obtain ⟨y, hy⟩ : ∃ y, l[k + 1]? = some y := ⟨_, List.getElem?_eq_getElem e2⟩
                obtain ⟨_, _, hbe, _, hc2, hc3⟩ := Run.get (j := k + 1) H.out (by omega) (by rw [intsC, List.getElem?_map, hy]; rfl)
                cases hbe
                have hcy : wo.cell? ⟨b, off + (k + 1), none⟩ = some (.int .i64 y) := (HBr.out.cell (p := ⟨b, off + (k + 1), none⟩) hb2).trans hc3
                have hcx2 : wo.cell? ⟨b, off + p, none⟩ = some (.int .i64 x) := (HBr.out.cell (p := ⟨b, off + p, none⟩) hb2).trans HB3.out
                have hsn := seg_snoc hy (Nat.le_trans hk1 (Nat.le_succ k)) x
                have ht : ((k : Int) + 1).toNat = k + 1 := by omega
                have HY := Lib.hid hy
                clear hy hc3 hcx
                by_cases e3 : y = x
                · subst e3
                  obtain ⟨lf', rfl⟩ : ∃ lf', lf = lf' + 1 := ⟨lf - 1, by omega⟩
                  have HC2 : Hid (lf' + (seg l p (k + 1 + 1)).count y = W0 + 1) := by show _ = _; rw [hsn, if_pos rfl]; have := HC.out; omega
                  clear hsn HC
                  go_wp2
                  go_quiet (fail)
                  go_wp2
                  go_roundw
                  case rel => exact ⟨k + 1, lf', by omega, e2, by go_num, by go_num, by omega, HC2, fun _ => HY.out, below_drewN HBr.out _⟩
                  case measure => simp [intOf]; omega
                · have HC2 : Hid (lf + (seg l p (k + 1 + 1)).count x = W0 + 1) := by show _ = _; rw [hsn, if_neg e3]; have := HC.out; omega
                  clear hsn HC
                  go_wp2
                  go_quiet (fail)
                  go_wp2
                  go_roundw
                  case rel => exact ⟨k + 1, lf, by omega, e2, by go_num, rfl, by omega, HC2, fun h => by omega, below_drewN HBr.out _⟩
                  case measure => simp [intOf]; omega
              · have e2' : (l.length : Int) ≤ (k : Int) + 1 := by omega
                have HO3 : Hid (OkTo l ms sv ((W0 + 1 : Nat) : Int) le (p + 1)) := ok_none HO.out HX.out (k := k) (by omega) (by have := HC.out; omega)
                go_wp2
                go_roundw
                case rel => exact ⟨p + 1, by omega, by go_num, HBr, HO3⟩
                case measure => simp [intOf]; omega
            · obtain rfl : lf = 0 := by omega
              have HKX := Lib.hid (HL.out rfl)
              have HC2 : Hid ((seg l p (k + 1)).count x = W0 + 1) := by have := HC.out; show _ = _; omega
              clear HL HC
              go_wp2
              go_loopw [14] (fun i wr => ∃ t : Nat, i = .int .i64 (t : Int) ∧ (t = 0 ∨ (t : Int) ≤ sv) ∧ Hid (∀ s : Nat, s < t → le ≤ ((seg l p (k + 1)).count (ms + s) : Int)) ∧ Hid (Below w.heap.size w wr)) (fun i _ => sv.toNat - (intOf i).toNat)
              case atStart => exact ⟨0, rfl, .inl rfl, fun s hs => by omega, HBr⟩
              case round =>
                obtain ⟨t, rfl, ht0, HA, HBt⟩ := hrel
                obtain ⟨wo, hwo⟩ : ∃ wo, wo = wr := ⟨_, rfl⟩
                subst hwo
                by_cases f1 : (t : Int) < sv
                · have HBW := Lib.hid (between_any (H.out.now HBt.out) hc hk1 hk2 (ms + (t : Int)))
                  obtain ⟨cn, hcn⟩ : ∃ cn, cn = (seg l p (k + 1)).count (ms + (t : Int)) := ⟨_, rfl⟩
                  rw [← hcn] at HBW
                  have HCN := Lib.hid hcn
                  have hm1 : -9223372036854775808 ≤ ms + (t : Int) := by omega
                  have hm2 : ms + (t : Int) ≤ 9223372036854775807 := by omega
                  have ht3 : (t : Int) ≤ 1048576 := by omega
                  clear hcn ht0
                  by_cases f2 : (cn : Int) < le
                  · have HNO : Hid (¬ Steady l ms sv wt le) := fun hst => by
                      have := (HS.out.1 hst) p hlt k x hk1 HX.out HKX.out d1' d2' (by rw [HC2.out]) t f1
                      rw [← HCN.out] at this
                      omega
                    go_wp2_with fail
                    refine HBW.out.mono ?_
                    rintro e w4 ⟨rfl, rfl⟩
                    go_wp2
                    go_ret
                    exact ⟨⟨false, rfl, fun h => (by cases h), fun h => absurd h HNO.out⟩, HBt.out⟩
                  · have f2' : le ≤ (cn : Int) := by omega
                    have HA2 : Hid (∀ s : Nat, s < t + 1 → le ≤ ((seg l p (k + 1)).count (ms + s) : Int)) := fun s hs => by
                      rcases Nat.lt_succ_iff_lt_or_eq.1 hs with h | rfl
                      · exact HA.out s h
                      · rw [← HCN.out]; exact f2'
                    go_wp2_with fail
                    refine HBW.out.mono ?_
                    rintro e w4 ⟨rfl, rfl⟩
                    go_wp2
                    go_roundw
                    case rel => exact ⟨_, _, _, _, _, _, _, _, _, _, _, _, _, _, _, _, ⟨t + 1, by go_num, .inr (by omega), HA2, HBt⟩, rfl⟩
                    case measure => simp [intOf]; omega
                · have f1' : sv ≤ (t : Int) := by omega
                  have HO3 : Hid (OkTo l ms sv ((W0 + 1 : Nat) : Int) le (p + 1)) := ok_window HO.out HX.out hk1 HKX.out HC2.out (fun s hs => HA.out s (by omega))
                  go_wp2
                  go_roundw
                  case rel => exact ⟨p + 1, by omega, by go_num, HBt, HO3⟩
                  case measure => simp [intOf]; omega
    · have hlti : ¬ (p : Int) < (l.length : Int) := by omega
      have e : p = l.length := by omega
      subst e
      go_wp2
      go_ret
      exact ⟨⟨true, rfl, fun _ => HS.out.2 HO.out, fun _ => rfl⟩, HB.out⟩
end Go.Proofs.Ytckbbakajabhmaa
