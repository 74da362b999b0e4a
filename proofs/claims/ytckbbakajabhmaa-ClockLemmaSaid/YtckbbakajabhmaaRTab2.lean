/- The document's table: Until, Valid, Over, Grant, Note, Drop. -/
import Derived.Test.YtckbbakajabhmaaRTab
namespace Go.Proofs.Ytckbbakajabhmaa
open Go.RowKit Go.Maps

set_option maxRecDepth 100000 in
set_option maxHeartbeats 2000000 in
theorem rUntil_any {S : Nat → Prop} {w : World} {rb n : Nat} {g : G} (h : RTab S w rb n g) (hc : n ≤ 1099511627776) (k : Int) :
    Calls Try.prog 25 #[ptrV rb, .int .i64 k] w fun e w' => e = .returned (.int .i64 (untilG g k)) ∧ w = w' := by
  obtain ⟨L, v, h, _, rfl, hl⟩ := h
  have HF := Lib.hid (rFind_any h (by omega) k)
  obtain ⟨a, c, rfl⟩ := h.slice
  have c0 : w.cell? ⟨rb, 0, none⟩ = some (.slice a L.length c) := by rw [Lib.cell_of_heap h.block]; rfl
  cases e : lookL L k with
  | none =>
    have HU : Hid (untilG (lookL L) k = 0) := by show _ = _; unfold untilG; rw [e]; rfl
    rw [find_none L 0 k e] at HF
    clear h e
    generalize untilG (lookL L) k = u at *
    go_enter Try.func25, Try.ntmps25
    go_wp2_with fail
    refine HF.out.mono ?_
    rintro e w1 ⟨rfl, rfl⟩
    go_wp2
    go_ret
    exact ⟨ret_int HU.out.symm, rfl⟩
  | some x =>
    have HU : Hid (untilG (lookL L) k = x) := by show _ = _; unfold untilG; rw [e]; rfl
    obtain ⟨i, e1, e2, _⟩ := find_some L 0 k x e
    rw [e1, Nat.zero_add] at HF
    have hi := (List.getElem?_eq_some_iff.1 e2).1
    have hii : (i : Int) < (L.length : Int) := by omega
    obtain ⟨g, rfl, _, hcap, _, _, _, x0, x1, _⟩ := h.get e2
    simp only at x0 x1
    clear h e e1 e2
    generalize untilG (lookL L) k = u at *
    go_enter Try.func25, Try.ntmps25
    go_wp2_with fail
    refine HF.out.mono ?_
    rintro e w1 ⟨rfl, rfl⟩
    go_wp2
    go_ret
    exact ⟨ret_int HU.out.symm, rfl⟩
set_option maxRecDepth 100000 in
set_option maxHeartbeats 2000000 in
theorem rValid_any {S : Nat → Prop} {w : World} {rb n : Nat} {g : G} (h : RTab S w rb n g) (hc : n ≤ 1099511627776) (k now : Int) :
    Calls Try.prog 23 #[ptrV rb, .int .i64 k, .int .i64 now] w fun e w' => e = .returned (.bool (validG g k now)) ∧ w = w' := by
  obtain ⟨L, v, h, _, rfl, hl⟩ := h
  have HF := Lib.hid (rFind_any h (by omega) k)
  obtain ⟨a, c, rfl⟩ := h.slice
  have c0 : w.cell? ⟨rb, 0, none⟩ = some (.slice a L.length c) := by rw [Lib.cell_of_heap h.block]; rfl
  cases e : lookL L k with
  | none =>
    have HU : Hid (validG (lookL L) k now = false) := by show _ = _; unfold validG; rw [e]
    rw [find_none L 0 k e] at HF
    clear h e
    generalize validG (lookL L) k now = u at *
    go_enter Try.func23, Try.ntmps23
    go_wp2_with fail
    refine HF.out.mono ?_
    rintro e w1 ⟨rfl, rfl⟩
    go_wp2
    go_ret
    exact ⟨ret_bool HU.out.symm, rfl⟩
  | some x =>
    have HU : Hid (validG (lookL L) k now = decide (now < x)) := by show _ = _; unfold validG; rw [e]
    obtain ⟨i, e1, e2, _⟩ := find_some L 0 k x e
    rw [e1, Nat.zero_add] at HF
    have hi := (List.getElem?_eq_some_iff.1 e2).1
    have hii : (i : Int) < (L.length : Int) := by omega
    obtain ⟨g, rfl, _, hcap, _, _, _, x0, x1, _⟩ := h.get e2
    simp only at x0 x1
    clear h e e1 e2
    generalize validG (lookL L) k now = u at *
    by_cases hnx : now < x
    · go_enter Try.func23, Try.ntmps23
      go_wp2_with fail
      refine HF.out.mono ?_
      rintro e w1 ⟨rfl, rfl⟩
      go_wp2
      go_ret
      rw [HU.out, decide_eq_true hnx]
      exact ⟨rfl, rfl⟩
    · have hge : x ≤ now := by omega
      go_enter Try.func23, Try.ntmps23
      go_wp2_with fail
      refine HF.out.mono ?_
      rintro e w1 ⟨rfl, rfl⟩
      go_wp2
      go_ret
      rw [HU.out]
      exact ⟨rfl, rfl⟩
set_option maxRecDepth 100000 in
set_option maxHeartbeats 2000000 in
theorem rOver_any {S : Nat → Prop} {w : World} {rb n : Nat} {g : G} (h : RTab S w rb n g) (hc : n ≤ 1099511627776) (he : Ends g) {k now wait : Int} (hnow : I64 now) (hwait : I64 wait) :
    Calls Try.prog 30 #[ptrV rb, .int .i64 k, .int .i64 now, .int .i64 wait] w fun e w' => e = .returned (.bool (overG g k now wait)) ∧ w = w' := by
  obtain ⟨L, v, h, _, rfl, hl⟩ := h
  have HF := Lib.hid (rFind_any h (by omega) k)
  obtain ⟨a, c, rfl⟩ := h.slice
  have c0 : w.cell? ⟨rb, 0, none⟩ = some (.slice a L.length c) := by rw [Lib.cell_of_heap h.block]; rfl
  cases e : lookL L k with
  | none =>
    have HU : Hid (overG (lookL L) k now wait = false) := by show _ = _; unfold overG; rw [e]
    rw [find_none L 0 k e] at HF
    clear h e he
    generalize overG (lookL L) k now wait = u at *
    go_enter Try.func30, Try.ntmps30
    go_wp2_with fail
    refine HF.out.mono ?_
    rintro e w1 ⟨rfl, rfl⟩
    go_wp2
    go_ret
    exact ⟨ret_bool HU.out.symm, rfl⟩
  | some x =>
    have hxi := he k x e
    have HU : Hid (overG (lookL L) k now wait = (decide (x ≤ now) && decide (wait ≤ now - x))) := by show _ = _; unfold overG; rw [e]
    obtain ⟨i, e1, e2, _⟩ := find_some L 0 k x e
    rw [e1, Nat.zero_add] at HF
    have hi := (List.getElem?_eq_some_iff.1 e2).1
    have hii : (i : Int) < (L.length : Int) := by omega
    obtain ⟨g, rfl, _, hcap, _, _, _, x0, x1, _⟩ := h.get e2
    simp only at x0 x1
    clear h e e1 e2 he
    generalize overG (lookL L) k now wait = u at *
    by_cases hlt : now < x
    · have hV : (decide (x ≤ now) && decide (wait ≤ now - x)) = false := by rw [decide_eq_false (by omega)]; rfl
      rw [hV] at HU
      clear hV
      go_enter Try.func30, Try.ntmps30
      go_wp2_with fail
      refine HF.out.mono ?_
      rintro e w1 ⟨rfl, rfl⟩
      go_wp2
      go_ret
      exact ⟨ret_bool HU.out.symm, rfl⟩
    · have hge : x ≤ now := by omega
      have HS := Lib.hid (u64_sub hnow hxi hge)
      by_cases hw : wait ≤ 0
      · have hV : (decide (x ≤ now) && decide (wait ≤ now - x)) = true := by rw [decide_eq_true hge, decide_eq_true (by omega)]; rfl
        rw [hV] at HU
        clear hV
        go_enter Try.func30, Try.ntmps30
        go_wp2_with fail
        refine HF.out.mono ?_
        rintro e w1 ⟨rfl, rfl⟩
        go_wp2
        go_ret
        exact ⟨ret_bool HU.out.symm, rfl⟩
      · have hw' : 0 < wait := by omega
        have HX := Lib.hid (u64_not hwait (Int.le_of_lt hw'))
        go_enter Try.func30, Try.ntmps30
        go_wp2_with fail
        refine HF.out.mono ?_
        rintro e w1 ⟨rfl, rfl⟩
        go_wp2
        go_ret
        rw [HS.out, HX.out, HU.out, decide_eq_true hge, Bool.true_and, decide_eq_false (show ¬ wait ≤ 0 by omega)]
        exact ⟨rfl, rfl⟩
end Go.Proofs.Ytckbbakajabhmaa
