/- The document's Inter, Minus, First, Commit; SameInts. -/
import Derived.Test.YtcgoggkaiiljmaaAdd
namespace Go.Proofs.Ytcgoggkaiiljmaa
open Go.RowKit Go.Maps

set_option maxRecDepth 100000 in
set_option maxHeartbeats 4000000 in
theorem RefInter_any {w : World} {va vb : Value} {l r : List Int} (ha : IA w va l) (hla : l.length ≤ 524288) (hb : IA w vb r) (hlb : r.length ≤ 524288) :
    Calls Try.prog 21 #[va, vb] w fun e w' => ∃ v', e = .returned v' ∧ IA w' v' (interS l r) ∧ Below w.heap.size w w' := by
  obtain ⟨a, c, rfl, hac⟩ := ha.slice
  have H := Lib.hid ha
  have HR := Lib.hid hb
  clear ha hb
  go_enter Try.func21, Try.ntmps21
  go_wp2
  go_loopw [5, 6, 7] (fun s i _ wr => ∃ k : Nat, k ≤ l.length ∧ i = .int .i64 k ∧ Hid (IA wr s (interS (l.take k) r)) ∧ Hid (Below w.heap.size w wr)) (fun _ i _ _ => l.length - (intOf i).toNat)
  case atStart => exact ⟨0, by omega, rfl, (show IA _ (.slice none 0 0) [] from IA.nil _), Below.refl _ _⟩
  case round =>
    obtain ⟨k, hk, rfl, HI, HB⟩ := hrel
    by_cases hlt : k < l.length
    · obtain ⟨b, off, rfl, hb, hc⟩ := (H.out.below HB.out).get hlt
      have hts := take_snocI l k hlt
      have hss : interS (l.take k ++ [l.getD k 0]) r = _ := setS_filter_snoc (fun x => r.contains x) (l.take k) (l.getD k 0)
      rw [← hts] at hss
      have hlen : (interS (l.take k) r).length ≤ (l.take k).length := Nat.le_trans (len_setS_le _) (List.length_filter_le _ _)
      have hkl : (l.take k).length ≤ l.length := by rw [List.length_take]; omega
      generalize l.getD k 0 = x at *
      have hh := RefHas_any x (HR.out.below HB.out) (by omega)
      cases hcx : r.contains x with
      | true =>
        have HS : Hid (interS (l.take (k + 1)) r = addS (interS (l.take k) r) x) := by show _ = _; rw [hss]; simp only [hcx]; rfl
        rw [hcx] at hh
        have ha := add_any x HI.out (by omega)
        rw [← HS.out] at ha
        clear hts hss hcx
        go_wp2_with fail
        refine hh.mono ?_
        rintro e w0 ⟨rfl, rfl⟩
        go_wp2_with fail
        refine ha.mono ?_
        rintro e w1 ⟨v1, rfl, hi, hb1⟩
        have HI1 := Lib.hid hi
        have HB1 := Lib.hid (HB.out.trans (hb1.mono HB.out.size))
        clear hi hb1 ha
        go_wp2
        go_roundw
        case rel => exact ⟨k + 1, by omega, by go_num, HI1, HB1⟩
        case measure => simp [intOf]; omega
      | false =>
        have HS : Hid (interS (l.take (k + 1)) r = interS (l.take k) r) := by show _ = _; rw [hss]; simp only [hcx]; rfl
        rw [hcx] at hh
        clear hts hss hcx
        go_wp2_with fail
        refine hh.mono ?_
        rintro e w0 ⟨rfl, rfl⟩
        go_wp2
        go_roundw
        case rel => exact ⟨k + 1, by omega, by go_num, by rw [HS.out]; exact HI, HB⟩
        case measure => simp [intOf]; omega
    · obtain rfl : k = l.length := by omega
      have h := HI.out
      rw [List.take_length] at h
      have HI1 := Lib.hid h
      clear h
      go_wp2
      go_ret
      exact ⟨_, rfl, HI1.out, HB.out⟩
set_option maxRecDepth 100000 in
set_option maxHeartbeats 4000000 in
theorem RefMinus_any {w : World} {va vb : Value} {l r : List Int} (ha : IA w va l) (hla : l.length ≤ 524288) (hb : IA w vb r) (hlb : r.length ≤ 524288) :
    Calls Try.prog 23 #[va, vb] w fun e w' => ∃ v', e = .returned v' ∧ IA w' v' (minusS l r) ∧ Below w.heap.size w w' := by
  obtain ⟨a, c, rfl, hac⟩ := ha.slice
  have H := Lib.hid ha
  have HR := Lib.hid hb
  clear ha hb
  go_enter Try.func23, Try.ntmps23
  go_wp2
  go_loopw [5, 6, 7] (fun s i _ wr => ∃ k : Nat, k ≤ l.length ∧ i = .int .i64 k ∧ Hid (IA wr s (minusS (l.take k) r)) ∧ Hid (Below w.heap.size w wr)) (fun _ i _ _ => l.length - (intOf i).toNat)
  case atStart => exact ⟨0, by omega, rfl, (show IA _ (.slice none 0 0) [] from IA.nil _), Below.refl _ _⟩
  case round =>
    obtain ⟨k, hk, rfl, HI, HB⟩ := hrel
    by_cases hlt : k < l.length
    · obtain ⟨b, off, rfl, hb, hc⟩ := (H.out.below HB.out).get hlt
      have hts := take_snocI l k hlt
      have hss : minusS (l.take k ++ [l.getD k 0]) r = _ := setS_filter_snoc (fun x => !r.contains x) (l.take k) (l.getD k 0)
      rw [← hts] at hss
      have hlen : (minusS (l.take k) r).length ≤ (l.take k).length := Nat.le_trans (len_setS_le _) (List.length_filter_le _ _)
      have hkl : (l.take k).length ≤ l.length := by rw [List.length_take]; omega
      generalize l.getD k 0 = x at *
      have hh := RefHas_any x (HR.out.below HB.out) (by omega)
      cases hcx : r.contains x with
      | false =>
        have HS : Hid (minusS (l.take (k + 1)) r = addS (minusS (l.take k) r) x) := by show _ = _; rw [hss]; simp only [hcx]; rfl
        rw [hcx] at hh
        have ha := add_any x HI.out (by omega)
        rw [← HS.out] at ha
        clear hts hss hcx
        go_wp2_with fail
        refine hh.mono ?_
        rintro e w0 ⟨rfl, rfl⟩
        go_wp2_with fail
        refine ha.mono ?_
        rintro e w1 ⟨v1, rfl, hi, hb1⟩
        have HI1 := Lib.hid hi
        have HB1 := Lib.hid (HB.out.trans (hb1.mono HB.out.size))
        clear hi hb1 ha
        go_wp2
        go_roundw
        case rel => exact ⟨k + 1, by omega, by go_num, HI1, HB1⟩
        case measure => simp [intOf]; omega
      | true =>
        have HS : Hid (minusS (l.take (k + 1)) r = minusS (l.take k) r) := by show _ = _; rw [hss]; simp only [hcx]; rfl
        rw [hcx] at hh
        clear hts hss hcx
        go_wp2_with fail
        refine hh.mono ?_
        rintro e w0 ⟨rfl, rfl⟩
        go_wp2
        go_roundw
        case rel => exact ⟨k + 1, by omega, by go_num, by rw [HS.out]; exact HI, HB⟩
        case measure => simp [intOf]; omega
    · obtain rfl : k = l.length := by omega
      have h := HI.out
      rw [List.take_length] at h
      have HI1 := Lib.hid h
      clear h
      go_wp2
      go_ret
      exact ⟨_, rfl, HI1.out, HB.out⟩
end Go.Proofs.Ytcgoggkaiiljmaa
