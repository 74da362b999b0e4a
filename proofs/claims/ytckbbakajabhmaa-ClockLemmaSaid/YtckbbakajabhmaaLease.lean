/- Leases: Grant, end, Valid, Until, Drop. -/
import Derived.Test.YtckbbakajabhmaaTab
namespace Go.Proofs.Ytckbbakajabhmaa
open Go.RowKit Go.Maps

/-- a struct's map turned into another one of the same block -/
theorem tab_turned {T : TypeId} {S : Nat → Prop} {w w' : World} {b mb n : Nat} {g : G} (h1 : S b) (h2 : w.heap[b]? = some (.cells #[.map (some mb)] T (0, 0))) (h4 : S mb) (h5 : mb ≠ b) (hm : IMap w' mb n g) (ht : w.mapTurned w' mb) : TabAt T S w' b n g :=
  ⟨some mb, h1, (ht.grown.block b (heap_lt h2) (fun e => h5 (by cases e; rfl))).trans h2, .inr ⟨mb, rfl, h4, h5, hm⟩⟩
/-- a new map laid into the struct -/
theorem tab_map {T : TypeId} {w : World} {b : Nat} (h2 : w.heap[b]? = some (.cells #[.map none] T (0, 0))) :
    ((w.alloc (.map #[] 0)).setCell ⟨b, 0, none⟩ (.map (some w.heap.size))).heap[b]? = some (.cells #[.map (some w.heap.size)] T (0, 0)) ∧
    IMap ((w.alloc (.map #[] 0)).setCell ⟨b, 0, none⟩ (.map (some w.heap.size))) w.heap.size 0 noG := by
  have hlt := heap_lt h2
  constructor
  · have hb : (w.alloc (.map #[] 0)).heap[b]? = some (.cells #[.map none] T (0, 0)) := (Below.heap_alloc _ _ _ hlt).trans h2
    simp [World.setCell, Array.getElem?_modify, hb]
  · exact (GMap.made (Value.int .i64) w).keep (Below.heap_setCell _ _ _ _ (by show w.heap.size ≠ b; omega))
theorem tab_map_kept {S : Nat → Prop} {w : World} {b : Nat} (hb : S b) (v : Value) : Kept S w ((w.alloc (.map #[] 0)).setCell ⟨b, 0, none⟩ v) := ((Kept.refl S w).alloc _).set (.inl hb) v
theorem grant_is (g : G) (k u : Int) : upd g k (some (match g k with | none => u | some e => max u e)) = grantG g k u := rfl
set_option maxHeartbeats 1000000 in
theorem Grant_any {S : Nat → Prop} {w : World} {b n : Nat} {g : G} (h : TabAt 35 S w b n g) (hS : ∀ k, w.heap.size ≤ k → S k) {k u : Int} (hk : I64 k) (hn : n < maxLen) :
    Calls Try.prog 18 #[ptrV b, .int .i64 k, .int .i64 u] w fun e w' => e = .returned (.tuple #[]) ∧ TabAt 35 S w' b (n + 1) (grantG g k u) ∧ Kept S w w' := by
  obtain ⟨mo, h1, h2, h3⟩ := h
  have c0 : w.cell? ⟨b, 0, none⟩ = some (.map mo) := by rw [Lib.cell_of_heap h2]; rfl
  have f0 : w.frozen? ⟨b, 0, none⟩ = false := Lib.frozen_of_heap h2 0
  have hmn := fun w mo => run_eql_map_nil (P := Try.prog) w 33 _ _ mo Try.underlying33
  have hlt := heap_lt h2
  rcases h3 with ⟨rfl, rfl⟩ | ⟨mb, rfl, h4, h5, h6⟩
  · obtain ⟨t1, t2⟩ := tab_map h2
    have tk : Kept S w _ := tab_map_kept (w := w) h1 (.map (some w.heap.size))
    have hmm := @run_makeMap Try.prog
    have f0' : (w.alloc (.map #[] 0)).frozen? ⟨b, 0, none⟩ = false := Lib.frozen_of_heap ((Below.heap_alloc _ _ _ hlt).trans h2) 0
    generalize hw1 : (w.alloc (.map #[] 0)).setCell ⟨b, 0, none⟩ (.map (some w.heap.size)) = w1 at t1 t2 tk
    have hl := (t2.look 33 3 Try.underlying33 (fun w => zeroI w) hk w1 rfl).2
    have c1 : w1.cell? ⟨b, 0, none⟩ = some (.map (some w.heap.size)) := by rw [Lib.cell_of_heap t1]; rfl
    obtain ⟨w2, r2, m2, u2⟩ := t2.put 33 3 Try.underlying33 hk (by unfold maxLen; omega) u
    have HF : Hid (TabAt 35 S w2 b (n + 1) (grantG noG k u) ∧ Kept S w w2) :=
      ⟨tab_turned h1 t1 (hS _ (Nat.le_refl _)) (by omega) (m2.mono (by omega)) u2, tk.trans (turned_kept u2 (hS _ (Nat.le_refl _)))⟩
    clear t1 t2 tk m2 u2 h1 h2 hS hn
    go_enter Try.func18, Try.ntmps18
    go_wp2
    go_end0
    exact ⟨rfl, HF.out⟩
  · have hl := (h6.look 33 3 Try.underlying33 (fun w => zeroI w) hk w rfl).2
    obtain ⟨w2, r2, m2, u2⟩ := h6.put 33 3 Try.underlying33 hk hn (match g k with | none => u | some e => max u e)
    rw [grant_is] at m2
    have HF : Hid (TabAt 35 S w2 b (n + 1) (grantG g k u) ∧ Kept S w w2) := ⟨tab_turned h1 h2 h4 h5 m2 u2, turned_kept u2 h4⟩
    clear m2 u2 h1 h2 h4 h5 h6 hS hn
    generalize grantG g k u = g' at HF
    cases hc : g k with
    | none =>
      rw [hc] at hl r2
      clear hc
      go_enter Try.func18, Try.ntmps18
      go_wp2
      go_end0
      exact ⟨rfl, HF.out⟩
    | some e =>
      rw [hc] at hl r2
      clear hc
      by_cases hle : e ≤ u
      · have hle' : ¬ u < e := by omega
        simp only [show max u e = u from by omega] at r2
        go_enter Try.func18, Try.ntmps18
        go_wp2
        go_end0
        exact ⟨rfl, HF.out⟩
      · have hle' : u < e := by omega
        simp only [show max u e = e from by omega] at r2
        go_enter Try.func18, Try.ntmps18
        go_wp2
        go_end0
        exact ⟨rfl, HF.out⟩
set_option maxHeartbeats 1000000 in
theorem LDrop_any {S : Nat → Prop} {w : World} {b n : Nat} {g : G} (h : TabAt 35 S w b n g) {k : Int} (hk : I64 k) :
    Calls Try.prog 20 #[ptrV b, .int .i64 k] w fun e w' => e = .returned (.tuple #[]) ∧ TabAt 35 S w' b n (dropG g k) ∧ Kept S w w' := by
  obtain ⟨mo, h1, h2, h3⟩ := h
  have c0 : w.cell? ⟨b, 0, none⟩ = some (.map mo) := by rw [Lib.cell_of_heap h2]; rfl
  obtain ⟨w2, r2, HF⟩ : ∃ w2, (Builtin.delete_ #[33, 3] 0 #[.map mo, .int .i64 k]).run Try.prog w = .ok (.tuple #[]) w2 ∧ Hid (TabAt 35 S w2 b n (dropG g k) ∧ Kept S w w2) := by
    rcases h3 with ⟨rfl, rfl⟩ | ⟨mb, rfl, h4, h5, h6⟩
    · refine ⟨w, Maps.drop_nil lawI Try.underlying33 (hkeyI hk) 0, ⟨none, h1, h2, .inl ⟨rfl, ?_⟩⟩, Kept.refl _ _⟩
      funext y; unfold dropG upd noG; split <;> rfl
    · obtain ⟨w2, r2, m2, u2⟩ := h6.del 33 3 Try.underlying33 hk 0
      exact ⟨w2, r2, tab_turned h1 h2 h4 h5 m2 u2, turned_kept u2 h4⟩
  clear h1 h2 h3
  go_enter Try.func20, Try.ntmps20
  go_wp2
  go_end0
  exact ⟨rfl, HF.out⟩
set_option maxHeartbeats 1000000 in
theorem end_any {S : Nat → Prop} {w : World} {b n : Nat} {g : G} (h : TabAt 35 S w b n g) {k : Int} (hk : I64 k) :
    Calls Try.prog 38 #[ptrV b, .int .i64 k] w fun e w' => e = .returned (.tuple #[.int .i64 (untilG g k), .bool (g k).isSome]) ∧ w = w' := by
  obtain ⟨mo, h1, h2, h3⟩ := h
  have c0 : w.cell? ⟨b, 0, none⟩ = some (.map mo) := by rw [Lib.cell_of_heap h2]; rfl
  have hl := (h3.look hk w (fun _ _ => rfl)).2
  clear h1 h2 h3
  generalize untilG g k = u at *
  generalize (g k).isSome = s at *
  go_enter Try.func38, Try.ntmps38
  go_wp2
  go_ret2
  exact ⟨rfl, rfl⟩
set_option maxHeartbeats 1000000 in
theorem Until_any {S : Nat → Prop} {w : World} {b n : Nat} {g : G} (h : TabAt 35 S w b n g) {k : Int} (hk : I64 k) :
    Calls Try.prog 24 #[ptrV b, .int .i64 k] w fun e w' => e = .returned (.int .i64 (untilG g k)) ∧ w = w' := by
  have HE := Lib.hid (end_any h hk)
  clear h
  go_enter Try.func24, Try.ntmps24
  go_wp2_with fail
  refine HE.out.mono ?_
  rintro e w1 ⟨rfl, rfl⟩
  go_wp2
  go_ret
  exact ⟨rfl, rfl⟩
theorem valid_is (g : G) (k now : Int) : validG g k now = ((g k).isSome && decide (now < untilG g k)) := by
  unfold validG untilG; cases g k <;> rfl
set_option maxHeartbeats 1000000 in
theorem Valid_any {S : Nat → Prop} {w : World} {b n : Nat} {g : G} (h : TabAt 35 S w b n g) {k : Int} (hk : I64 k) (now : Int) :
    Calls Try.prog 22 #[ptrV b, .int .i64 k, .int .i64 now] w fun e w' => e = .returned (.bool (validG g k now)) ∧ w = w' := by
  have HE := Lib.hid (end_any h hk)
  clear h
  rw [valid_is]
  generalize untilG g k = u at *
  cases hs : (g k).isSome <;> rw [hs] at HE
  · go_enter Try.func22, Try.ntmps22
    go_wp2_with fail
    refine HE.out.mono ?_
    rintro e w1 ⟨rfl, rfl⟩
    go_wp2
    go_ret
    exact ⟨rfl, rfl⟩
  · by_cases hlt : now < u
    · go_enter Try.func22, Try.ntmps22
      go_wp2_with fail
      refine HE.out.mono ?_
      rintro e w1 ⟨rfl, rfl⟩
      go_wp2
      go_ret
      exact ⟨by rw [decide_eq_true hlt]; rfl, rfl⟩
    · have hge : u ≤ now := by omega
      go_enter Try.func22, Try.ntmps22
      go_wp2_with fail
      refine HE.out.mono ?_
      rintro e w1 ⟨rfl, rfl⟩
      go_wp2
      go_ret
      exact ⟨rfl, rfl⟩
end Go.Proofs.Ytckbbakajabhmaa
