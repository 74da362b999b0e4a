/- Waits: Note, Over, Drop. -/
import Derived.Test.YtckbbakajabhmaaLease
namespace Go.Proofs.Ytckbbakajabhmaa
open Go.RowKit Go.Maps

set_option maxHeartbeats 1000000 in
theorem Note_any {S : Nat → Prop} {w : World} {b n : Nat} {g : G} (h : TabAt 48 S w b n g) (hS : ∀ k, w.heap.size ≤ k → S k) {k u : Int} (hk : I64 k) (hn : n < maxLen) :
    Calls Try.prog 26 #[ptrV b, .int .i64 k, .int .i64 u] w fun e w' => e = .returned (.tuple #[]) ∧ TabAt 48 S w' b (n + 1) (noteG g k u) ∧ Kept S w w' := by
  obtain ⟨mo, h1, h2, h3⟩ := h
  have c0 : w.cell? ⟨b, 0, none⟩ = some (.map mo) := by rw [Lib.cell_of_heap h2]; rfl
  have f0 : w.frozen? ⟨b, 0, none⟩ = false := Lib.frozen_of_heap h2 0
  have hmn := fun w mo => run_eql_map_nil (P := Try.prog) w 33 _ _ mo Try.underlying33
  have hlt := heap_lt h2
  rcases h3 with ⟨rfl, rfl⟩ | ⟨mb, rfl, h4, h5, h6⟩
  · obtain ⟨t1, t2⟩ := tab_map h2
    have tk : Kept S w _ := tab_map_kept (w := w) h1 (.map (some w.heap.size))
    have hmm := @run_makeMap Try.prog
    have f0' : (w.alloc (.map #[] 0)).frozen? ⟨b, 0, none⟩ = false := Lib.frozen_of_heap ((Below.heap_alloc _ _ _ hlt).trans h2) 0
    generalize hw1 : (w.alloc (.map #[] 0)).setCell ⟨b, 0, none⟩ (.map (some w.heap.size)) = w1 at t1 t2 tk
    have hl := (t2.look 33 3 Try.underlying33 (fun w => zeroI w) hk w1 rfl).2
    have c1 : w1.cell? ⟨b, 0, none⟩ = some (.map (some w.heap.size)) := by rw [Lib.cell_of_heap t1]; rfl
    obtain ⟨w2, r2, m2, u2⟩ := t2.put 33 3 Try.underlying33 hk (by unfold maxLen; omega) u
    have HF : Hid (TabAt 48 S w2 b (n + 1) (noteG noG k u) ∧ Kept S w w2) :=
      ⟨tab_turned h1 t1 (hS _ (Nat.le_refl _)) (by omega) (m2.mono (by omega)) u2, tk.trans (turned_kept u2 (hS _ (Nat.le_refl _)))⟩
    clear t1 t2 tk m2 u2 h1 h2 hS hn
    go_enter Try.func26, Try.ntmps26
    go_wp2
    go_end0
    exact ⟨rfl, HF.out⟩
  · have hl := (h6.look 33 3 Try.underlying33 (fun w => zeroI w) hk w rfl).2
    obtain ⟨w2, r2, m2, u2⟩ := h6.put 33 3 Try.underlying33 hk hn u
    cases hc : g k with
    | none =>
      rw [hc] at hl
      have HF : Hid (TabAt 48 S w2 b (n + 1) (noteG g k u) ∧ Kept S w w2) := ⟨by unfold noteG; rw [hc]; exact tab_turned h1 h2 h4 h5 m2 u2, turned_kept u2 h4⟩
      clear hc m2 u2 h1 h2 h4 h5 h6 hS hn
      generalize noteG g k u = g' at HF
      go_enter Try.func26, Try.ntmps26
      go_wp2
      go_end0
      exact ⟨rfl, HF.out⟩
    | some e =>
      rw [hc] at hl
      have HF : Hid (TabAt 48 S w b (n + 1) (noteG g k u)) := by unfold noteG; rw [hc]; exact ⟨_, h1, h2, .inr ⟨mb, rfl, h4, h5, h6.mono (by omega)⟩⟩
      clear hc m2 u2 h1 h2 h4 h5 h6 hS hn r2
      generalize noteG g k u = g' at HF
      go_enter Try.func26, Try.ntmps26
      go_wp2
      go_end0
      exact ⟨rfl, HF.out, Kept.refl _ _⟩
set_option maxHeartbeats 1000000 in
theorem WDrop_any {S : Nat → Prop} {w : World} {b n : Nat} {g : G} (h : TabAt 48 S w b n g) {k : Int} (hk : I64 k) :
    Calls Try.prog 28 #[ptrV b, .int .i64 k] w fun e w' => e = .returned (.tuple #[]) ∧ TabAt 48 S w' b n (dropG g k) ∧ Kept S w w' := by
  obtain ⟨mo, h1, h2, h3⟩ := h
  have c0 : w.cell? ⟨b, 0, none⟩ = some (.map mo) := by rw [Lib.cell_of_heap h2]; rfl
  obtain ⟨w2, r2, HF⟩ : ∃ w2, (Builtin.delete_ #[33, 3] 0 #[.map mo, .int .i64 k]).run Try.prog w = .ok (.tuple #[]) w2 ∧ Hid (TabAt 48 S w2 b n (dropG g k) ∧ Kept S w w2) := by
    rcases h3 with ⟨rfl, rfl⟩ | ⟨mb, rfl, h4, h5, h6⟩
    · refine ⟨w, Maps.drop_nil lawI Try.underlying33 (hkeyI hk) 0, ⟨none, h1, h2, .inl ⟨rfl, ?_⟩⟩, Kept.refl _ _⟩
      funext y; unfold dropG upd noG; split <;> rfl
    · obtain ⟨w2, r2, m2, u2⟩ := h6.del 33 3 Try.underlying33 hk 0
      exact ⟨w2, r2, tab_turned h1 h2 h4 h5 m2 u2, turned_kept u2 h4⟩
  clear h1 h2 h3
  go_enter Try.func28, Try.ntmps28
  go_wp2
  go_end0
  exact ⟨rfl, HF.out⟩
/-- the difference of two 64-bit integers, as numbers without a sign -/
theorem wrap_u64 (x : Int) : IntKind.u64.wrap x = x % 18446744073709551616 := by
  first | rfl | (simp [IntKind.wrap]; omega) | (unfold IntKind.wrap; omega)
theorem u64_sub {x y : Int} (hx : I64 x) (hy : I64 y) (h : y ≤ x) : IntKind.u64.wrap (IntKind.u64.wrap x - IntKind.u64.wrap y) = x - y := by
  unfold I64 at *; simp only [wrap_u64]; omega
theorem u64_not {x : Int} (hx : I64 x) (h : 0 ≤ x) : IntKind.u64.wrap x = x := by
  unfold I64 at *; simp only [wrap_u64]; omega
set_option maxHeartbeats 1000000 in
theorem Over_any {S : Nat → Prop} {w : World} {b n : Nat} {g : G} (h : TabAt 48 S w b n g) (he : Ends g) {k now wait : Int} (hk : I64 k) (hnow : I64 now) (hwait : I64 wait) :
    Calls Try.prog 29 #[ptrV b, .int .i64 k, .int .i64 now, .int .i64 wait] w fun e w' => e = .returned (.bool (overG g k now wait)) ∧ w = w' := by
  obtain ⟨mo, h1, h2, h3⟩ := h
  have c0 : w.cell? ⟨b, 0, none⟩ = some (.map mo) := by rw [Lib.cell_of_heap h2]; rfl
  have hl := (h3.look hk w (fun _ _ => rfl)).2
  clear h1 h2 h3
  cases hc : g k with
  | none =>
    have HV : Hid (overG g k now wait = false) := by show _ = _; unfold overG; rw [hc]
    have hu : untilG g k = 0 := by unfold untilG; rw [hc]; rfl
    rw [hc, hu] at hl
    generalize overG g k now wait = R at *
    clear hc hu he
    go_enter Try.func29, Try.ntmps29
    go_wp2
    go_ret
    exact ⟨ret_bool HV.out.symm, rfl⟩
  | some e =>
    have hei := he _ _ hc
    have HV : Hid (overG g k now wait = (decide (e ≤ now) && decide (wait ≤ now - e))) := by show _ = _; unfold overG; rw [hc]
    have hu : untilG g k = e := by unfold untilG; rw [hc]; rfl
    rw [hc, hu] at hl
    generalize overG g k now wait = R at *
    clear hc hu he
    by_cases hlt : now < e
    · have hV : (decide (e ≤ now) && decide (wait ≤ now - e)) = false := by rw [decide_eq_false (by omega)]; rfl
      rw [hV] at HV
      clear hV
      go_enter Try.func29, Try.ntmps29
      go_wp2
      go_ret
      exact ⟨ret_bool HV.out.symm, rfl⟩
    · have hge : e ≤ now := by omega
      have HS := Lib.hid (u64_sub hnow hei hge)
      by_cases hw : wait < 0
      · have hV : (decide (e ≤ now) && decide (wait ≤ now - e)) = true := by rw [decide_eq_true hge, decide_eq_true (by omega)]; rfl
        have HX : Hid (decide (IntKind.u64.wrap 0 ≤ now - e) = true) := decide_eq_true (by rw [u64_not ⟨by omega, by omega⟩ (Int.le_refl 0)]; omega)
        rw [hV] at HV
        clear hV
        go_enter Try.func29, Try.ntmps29
        go_wp2
        go_ret
        first | (rw [HV.out]; exact ⟨rfl, rfl⟩) | (rw [HS.out, HX.out, HV.out]; exact ⟨rfl, rfl⟩)
      · have hw' : 0 ≤ wait := by omega
        have HX := Lib.hid (u64_not hwait hw')
        go_enter Try.func29, Try.ntmps29
        go_wp2
        go_ret
        rw [HS.out, HX.out, HV.out, decide_eq_true hge, Bool.true_and]
        exact ⟨rfl, rfl⟩
end Go.Proofs.Ytckbbakajabhmaa
