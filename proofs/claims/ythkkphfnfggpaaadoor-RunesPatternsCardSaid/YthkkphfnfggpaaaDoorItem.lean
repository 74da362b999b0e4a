/- One item of a class. -/
import Derived.Test.YthkkphfnfggpaaaDoorReader
namespace Go.Proofs.YthkkphfnfggpaaaDoor
open Go.RowKit

/-- one code point of an item, and the place behind -/
def pointF (L : List Int) (k : Nat) : Option (Int × Nat) :=
  if k < L.length then (if L.getD k 0 = 92 then (if k + 1 < L.length then some (L.getD (k + 1) 0, k + 2) else none) else some (L.getD k 0, k + 1)) else none
/-- one item, and the place behind -/
def itemF (L : List Int) (k : Nat) : Option ((Int × Int) × Nat) :=
  match pointF L k with
  | none => none
  | some (low, k1) => if rangesB L k1 = true then (match pointF L (k1 + 1) with
      | none => none
      | some (high, k2) => if low ≤ high then some ((low, high), k2) else none) else some ((low, low), k1)
theorem only_quiet {w w' : World} {row : Option Nat} (h : ∃ n, w' = w.drewN n) : w.grownBy w' row := by
  obtain ⟨n, rfl⟩ := h; exact only_drewN (only_refl _ _) n
theorem Rd.quiet {w w' : World} {r : Nat} {L : List Int} {PL : List Nat} {k : Nat} (h : Rd w r L PL k) (hq : ∃ n, w' = w.drewN n) : Rd w' r L PL k := by
  obtain ⟨n, rfl⟩ := hq; exact h

theorem take_at (r : Nat) (L : List Int) (PL : List Nat) (k : Nat) (x : Int) (w : World) (h : Rd w r L PL k) (hk : k < L.length) (hx : L.getD k 0 = x) :
    Calls Tryd.prog 49 #[.pointer (some ⟨r, 0, none⟩)] w fun e w' => e = .returned (.int .i32 x) ∧ w.grownBy w' (some r) ∧ Rd w' r L PL (k + 1) := by
  subst hx; exact take_any r L PL k w h hk

set_option maxHeartbeats 1000000 in
theorem point_some (r : Nat) (L : List Int) (PL : List Nat) (k : Nat) (c : Int) (k' : Nat) (w : World) (h : Rd w r L PL k) (hp : pointF L k = some (c, k')) :
    Calls Tryd.prog 59 #[.pointer (some ⟨r, 0, none⟩)] w fun e w' => e = .returned (.tuple #[.int .i32 c, .bool true]) ∧ w.grownBy w' (some r) ∧ Rd w' r L PL k' := by
  have HR := Lib.hid h
  clear h
  by_cases hk : k < L.length
  · by_cases hx : L.getD k 0 = 92
    · by_cases hk2 : k + 1 < L.length
      · obtain ⟨e1, rfl⟩ : L.getD (k + 1) 0 = c ∧ k + 2 = k' := by unfold pointF at hp; rw [if_pos hk, if_pos hx, if_pos hk2] at hp; simpa using hp
        have E1 := Lib.hid e1
        clear hp e1
        have HX := Lib.hid hx
        clear hx
        go_enter Tryd.func59, Tryd.ntmps59
        go_wp2_with fail
        refine (skip_yes r L PL k 92 _ HR.out hk HX.out).mono ?_
        rintro e w1 ⟨rfl, g1, R1⟩
        have HR1 := Lib.hid R1
        clear R1
        go_wp2_with fail
        refine (more_any r L PL (k + 1) _ HR1.out).mono ?_
        rw [decide_eq_true hk2]
        rintro e w2 ⟨rfl, q2⟩
        have g2 := only_trans g1 (only_quiet q2)
        have HR2 := Lib.hid (HR1.out.quiet q2)
        clear q2 g1
        go_wp2_with fail
        refine (take_at r L PL (k + 1) c _ HR2.out hk2 E1.out).mono ?_
        rintro e w3 ⟨rfl, g3, R3⟩
        have g4 := only_trans g2 g3
        have HR3 := Lib.hid R3
        clear g2 g3 R3
        go_wp2
        go_ret2
        exact ⟨rfl, g4, HR3.out⟩
      · unfold pointF at hp; rw [if_pos hk, if_pos hx, if_neg hk2] at hp; cases hp
    · obtain ⟨e1, rfl⟩ : L.getD k 0 = c ∧ k + 1 = k' := by unfold pointF at hp; rw [if_pos hk, if_neg hx] at hp; simpa using hp
      have E1 := Lib.hid e1
      clear hp e1
      have HX := Lib.hid hx
      clear hx
      go_enter Tryd.func59, Tryd.ntmps59
      go_wp2_with fail
      refine (skip_no r L PL k 92 _ HR.out (fun e => HX.out e.2)).mono ?_
      rintro e w1 ⟨rfl, q1⟩
      have g1 : w.grownBy w1 (some r) := only_quiet q1
      have HR1 := Lib.hid (HR.out.quiet q1)
      clear q1
      go_wp2_with fail
      refine (take_at r L PL k c _ HR1.out hk E1.out).mono ?_
      rintro e w3 ⟨rfl, g3, R3⟩
      have g4 := only_trans g1 g3
      have HR3 := Lib.hid R3
      clear g1 g3 R3
      go_wp2
      go_ret2
      exact ⟨rfl, g4, HR3.out⟩
  · unfold pointF at hp; rw [if_neg hk] at hp; cases hp

set_option maxHeartbeats 1000000 in
theorem point_none (r : Nat) (L : List Int) (PL : List Nat) (k : Nat) (w : World) (h : Rd w r L PL k) (hk : k < L.length) (hp : pointF L k = none) :
    Calls Tryd.prog 59 #[.pointer (some ⟨r, 0, none⟩)] w fun e w' => e = .returned (.tuple #[.int .i32 0, .bool false]) ∧ w.grownBy w' (some r) := by
  have HR := Lib.hid h
  clear h
  unfold pointF at hp
  rw [if_pos hk] at hp
  by_cases hx : L.getD k 0 = 92
  · rw [if_pos hx] at hp
    by_cases hk2 : k + 1 < L.length
    · rw [if_pos hk2] at hp; cases hp
    · clear hp
      have HX := Lib.hid hx
      clear hx
      go_enter Tryd.func59, Tryd.ntmps59
      go_wp2_with fail
      refine (skip_yes r L PL k 92 _ HR.out hk HX.out).mono ?_
      rintro e w1 ⟨rfl, g1, R1⟩
      have HR1 := Lib.hid R1
      clear R1
      go_wp2_with fail
      refine (more_any r L PL (k + 1) _ HR1.out).mono ?_
      rw [decide_eq_false hk2]
      rintro e w2 ⟨rfl, q2⟩
      have g2 := only_trans g1 (only_quiet q2)
      clear q2 g1
      go_wp2
      go_ret2
      exact ⟨rfl, g2⟩
  · rw [if_neg hx] at hp; cases hp

theorem point_lt {L : List Int} {k k' : Nat} {c : Int} (h : pointF L k = some (c, k')) : k < k' ∧ k' ≤ L.length := by
  unfold pointF at h
  split at h
  · split at h
    · split at h
      · simp at h; omega
      · cases h
    · simp at h; omega
  · cases h
theorem item_lt {L : List Int} {k k' : Nat} {s : Int × Int} (h : itemF L k = some (s, k')) : k < k' ∧ k' ≤ L.length := by
  unfold itemF at h
  split at h
  · cases h
  · rename_i low k1 h1
    have := point_lt h1
    split at h
    · split at h
      · cases h
      · rename_i high k2 h2
        have := point_lt h2
        split at h
        · simp at h; omega
        · cases h
    · simp at h; omega

/-- what 'item' tells: a span and whether there is one (what it tells where there is none is not said) -/
def ItemPost (r : Nat) (L : List Int) (PL : List Nat) (w : World) (o : Option ((Int × Int) × Nat)) (e : Ending) (w' : World) : Prop :=
  match o with
  | some (s, k') => e = .returned (.tuple #[.agg #[.int .i32 s.1, .int .i32 s.2], .bool true]) ∧ w.grownBy w' (some r) ∧ Rd w' r L PL k'
  | none => ∃ a b, e = .returned (.tuple #[.agg #[.int .i32 a, .int .i32 b], .bool false]) ∧ w.grownBy w' (some r)

theorem cells_set {w : World} {b : Nat} {cs : Array Value} {T : TypeId} {fr : Nat × Nat} (h : w.heap[b]? = some (.cells cs T fr)) {j : Nat} (v : Value) : (w.setCell ⟨b, j, none⟩ v).heap[b]? = some (.cells (cs.setIfInBounds j v) T fr) := by
  simp [World.setCell, Array.getElem?_modify, h]
/-- a store into a block that is not the reader's, nor its rows', leaves it -/
theorem Rd.other {w : World} {r : Nat} {L : List Int} {PL : List Nat} {k : Nat} (h : Rd w r L PL k) {b : Nat} {cs : Array Value} {T : TypeId} {fr : Nat × Nat} (hb : w.heap[b]? = some (.cells cs T fr))
    (hT : T ≠ 77 ∧ T ≠ 21 ∧ T ≠ 3) (j : Nat) (v : Value) : Rd (w.setCell ⟨b, j, none⟩ v) r L PL k := by
  obtain ⟨h1, h1b, h2, h3, ap, cp, aq, cq, h4, h5, h6, h7⟩ := h
  have nr : r ≠ b := by rintro rfl; rw [h4] at hb; simp at hb; exact hT.1 hb.2.1.symm
  refine ⟨h1, h1b, h2, by simpa [World.setCell] using h3, ap, cp, aq, cq, (Below.heap_setCell _ _ _ _ nr).trans h4, h5, h6, ?_⟩
  rcases h7 with h7 | ⟨bp, op, bq, oq, e1, e2, n1, n2, l1, l2, ⟨cs1, fz1, k1⟩, ⟨cs2, fz2, k2⟩, c1, c2⟩
  · exact .inl h7
  · have m1 : bp ≠ b := by rintro rfl; rw [k1] at hb; simp at hb; exact hT.2.1 hb.2.1.symm
    have m2 : bq ≠ b := by rintro rfl; rw [k2] at hb; simp at hb; exact hT.2.2 hb.2.1.symm
    refine .inr ⟨bp, op, bq, oq, e1, e2, n1, n2, by simpa [World.setCell] using l1, by simpa [World.setCell] using l2, ⟨cs1, fz1, (Below.heap_setCell _ _ _ _ m1).trans k1⟩, ⟨cs2, fz2, (Below.heap_setCell _ _ _ _ m2).trans k2⟩, fun j u hu => ?_, fun j u hu => ?_⟩
    · rw [World.cell?_of_block (w := w) (Below.heap_setCell _ _ _ _ m1)]; exact c1 j u hu
    · rw [World.cell?_of_block (w := w) (Below.heap_setCell _ _ _ _ m2)]; exact c2 j u hu
theorem span_cells {w : World} {b : Nat} {x y : Value} (c0 : w.cell? ⟨b, 0, none⟩ = some x) (c1 : w.cell? ⟨b, 1, none⟩ = some y) (u v : Value) :
    (w.setCell ⟨b, 0, none⟩ u).cell? ⟨b, 0, none⟩ = some u ∧ ((w.setCell ⟨b, 0, none⟩ u).setCell ⟨b, 1, none⟩ v).cell? ⟨b, 1, none⟩ = some v :=
  ⟨World.cell?_setCell_same _ _ _ c0, World.cell?_setCell_same _ _ _ ((World.cell?_setCell_other _ _ _ _ (by simp)).trans c1)⟩
theorem only_new {a w : World} {o : Obj} {r : Nat} (h : (a.alloc o).grownBy w (some r)) : a.grownBy w (some r) := only_trans (only_alloc (only_refl a _) o) h
/-- a new block of two cells stands behind what goes on in block r -/
theorem new_kept {a w : World} {cs : Array Value} {T : TypeId} {r : Nat} (h : (a.alloc (.cells cs T)).grownBy w (some r)) (hr : r < a.heap.size) : w.heap[a.heap.size]? = some (.cells cs T (0, 0)) := by
  rw [h.block a.heap.size (by simp) (by intro e; simp at e; omega)]; exact heap_alloc_new a _

set_option maxHeartbeats 4000000 in
theorem item_any (r : Nat) (L : List Int) (PL : List Nat) (k : Nat) (w : World) (h : Rd w r L PL k) (hk : k < L.length) :
    Calls Tryd.prog 57 #[.pointer (some ⟨r, 0, none⟩)] w (ItemPost r L PL w (itemF L k)) := by
  have hr : r < w.heap.size := h.2.2.2.1
  have HR := Lib.hid (h.below ((Below.refl _ _).alloc (Nat.le_refl _) (.cells #[.int .i32 0, .int .i32 0] 85)))
  clear h
  cases h1 : pointF L k with
  | none =>
    have HE : Hid (itemF L k = none) := by show _ = _; unfold itemF; rw [h1]
    rw [HE.out]
    have H1 := Lib.hid h1
    clear h1
    go_enter Tryd.func57, Tryd.ntmps57
    go_wp2_with fail
    refine (point_none r L PL k _ HR.out hk H1.out).mono ?_
    rintro e w1 ⟨rfl, g1⟩
    have hz := new_kept g1 hr
    have c0 : w1.cell? ⟨w.heap.size, 0, none⟩ = some (.int .i32 0) := by rw [Lib.cell_of_heap hz]; rfl
    have c1 : w1.cell? ⟨w.heap.size, 1, none⟩ = some (.int .i32 0) := by rw [Lib.cell_of_heap hz]; rfl
    have f0 : w1.frozen? ⟨w.heap.size, 0, none⟩ = false := Lib.frozen_of_heap hz 0
    have f1 : w1.frozen? ⟨w.heap.size, 1, none⟩ = false := Lib.frozen_of_heap hz 1
    have D := span_cells c0 c1 (.int .i32 0) (.int .i32 0)
    have G := Lib.hid (only_new g1)
    clear hz g1
    go_wp2
    refine bodyPost_ret (v := .tuple #[.agg #[.int .i32 0, .int .i32 0], .bool false]) ?_ rfl ⟨0, 0, rfl, ?_⟩
    · simp [results, Tryd.results57, go_sem, D.1, D.2] <;> omega
    · exact only_setCell (only_setCell G.out (.inr (Nat.le_refl _)) _) (.inr (Nat.le_refl _)) _
  | some p =>
    obtain ⟨low, k1⟩ := p
    have hlt := point_lt h1
    by_cases hrg : rangesB L k1 = true
    · have hk2 : k1 + 1 < L.length := by unfold rangesB at hrg; rw [decide_eq_true_iff] at hrg; exact hrg.1
      cases h2 : pointF L (k1 + 1) with
      | none =>
        have HE : Hid (itemF L k = none) := by show _ = _; unfold itemF; simp only [h1, hrg, h2, if_true]
        rw [HE.out]
        have H1 := Lib.hid h1
        have H2 := Lib.hid h2
        have HG := Lib.hid hrg
        clear h1 h2 hrg
        go_enter Tryd.func57, Tryd.ntmps57
        go_wp2_with fail
        refine (point_some r L PL k low k1 _ HR.out H1.out).mono ?_
        rintro e w1 ⟨rfl, g1, R1⟩
        have HR1 := Lib.hid R1
        clear R1
        go_wp2_with fail
        refine (ranges_any r L PL k1 _ HR1.out).mono ?_
        rw [HG.out]
        rintro e w2 ⟨rfl, q2⟩
        have g2 := only_trans g1 (only_quiet q2)
        have HR2 := Lib.hid (HR1.out.quiet q2)
        clear g1 q2
        go_wp2_with fail
        refine (take_any r L PL k1 _ HR2.out (by omega)).mono ?_
        rintro e w3 ⟨rfl, g3, R3⟩
        have g4 := only_trans g2 g3
        have HR3 := Lib.hid R3
        clear g2 g3 R3
        go_wp2_with fail
        refine (point_none r L PL (k1 + 1) _ HR3.out hk2 H2.out).mono ?_
        rintro e w5 ⟨rfl, g5⟩
        have g6 := only_trans g4 g5
        clear g4 g5
        have hz := new_kept g6 hr
        have c0 : w5.cell? ⟨w.heap.size, 0, none⟩ = some (.int .i32 0) := by rw [Lib.cell_of_heap hz]; rfl
        have c1 : w5.cell? ⟨w.heap.size, 1, none⟩ = some (.int .i32 0) := by rw [Lib.cell_of_heap hz]; rfl
        have f0 : w5.frozen? ⟨w.heap.size, 0, none⟩ = false := Lib.frozen_of_heap hz 0
        have f1 : w5.frozen? ⟨w.heap.size, 1, none⟩ = false := Lib.frozen_of_heap hz 1
        have D := span_cells c0 c1 (.int .i32 low) (.int .i32 0)
        have G := Lib.hid (only_new g6)
        clear hz g6
        go_wp2
        refine bodyPost_ret (v := .tuple #[.agg #[.int .i32 low, .int .i32 0], .bool false]) ?_ rfl ⟨low, 0, rfl, ?_⟩
        · simp [results, Tryd.results57, go_sem, D.1, D.2] <;> omega
        · exact only_setCell (only_setCell G.out (.inr (Nat.le_refl _)) _) (.inr (Nat.le_refl _)) _
      | some p =>
        obtain ⟨high, k2⟩ := p
        by_cases hle : low ≤ high
        · have HE : Hid (itemF L k = some ((low, high), k2)) := by show _ = _; unfold itemF; simp only [h1, hrg, h2, if_true, if_pos hle]
          rw [HE.out]
          have H1 := Lib.hid h1
          have H2 := Lib.hid h2
          have HG := Lib.hid hrg
          clear h1 h2 hrg
          go_enter Tryd.func57, Tryd.ntmps57
          go_wp2_with fail
          refine (point_some r L PL k low k1 _ HR.out H1.out).mono ?_
          rintro e w1 ⟨rfl, g1, R1⟩
          have HR1 := Lib.hid R1
          clear R1
          go_wp2_with fail
          refine (ranges_any r L PL k1 _ HR1.out).mono ?_
          rw [HG.out]
          rintro e w2 ⟨rfl, q2⟩
          have g2 := only_trans g1 (only_quiet q2)
          have HR2 := Lib.hid (HR1.out.quiet q2)
          clear g1 q2
          go_wp2_with fail
          refine (take_any r L PL k1 _ HR2.out (by omega)).mono ?_
          rintro e w3 ⟨rfl, g3, R3⟩
          have g4 := only_trans g2 g3
          have HR3 := Lib.hid R3
          clear g2 g3 R3
          go_wp2_with fail
          refine (point_some r L PL (k1 + 1) high k2 _ HR3.out H2.out).mono ?_
          rintro e w5 ⟨rfl, g5, R5⟩
          have g6 := only_trans g4 g5
          have HR5 := Lib.hid R5
          clear g4 g5 R5
          have hz := new_kept g6 hr
          have hlt5 : r < w5.heap.size := HR5.out.2.2.2.1
          have hne : r ≠ w.heap.size := by omega
          have c0 : w5.cell? ⟨w.heap.size, 0, none⟩ = some (.int .i32 0) := by rw [Lib.cell_of_heap hz]; rfl
          have c1 : w5.cell? ⟨w.heap.size, 1, none⟩ = some (.int .i32 0) := by rw [Lib.cell_of_heap hz]; rfl
          have f0 : w5.frozen? ⟨w.heap.size, 0, none⟩ = false := Lib.frozen_of_heap hz 0
          have f1 : w5.frozen? ⟨w.heap.size, 1, none⟩ = false := Lib.frozen_of_heap hz 1
          have D := span_cells c0 c1 (.int .i32 low) (.int .i32 high)
          have G := Lib.hid (only_new g6)
          have HR6 := Lib.hid (((HR5.out.other hz (by decide) 0 (.int .i32 low))).other (cells_set hz _) (by decide) 1 (.int .i32 high))
          clear hz g6
          go_wp2
          refine bodyPost_ret (v := .tuple #[.agg #[.int .i32 low, .int .i32 high], .bool true]) ?_ rfl ⟨rfl, ?_, HR6.out⟩
          · simp [results, Tryd.results57, go_sem, D.1, D.2] <;> omega
          · exact only_setCell (only_setCell G.out (.inr (Nat.le_refl _)) _) (.inr (Nat.le_refl _)) _
        · have HE : Hid (itemF L k = none) := by show _ = _; unfold itemF; simp only [h1, hrg, h2, if_true, if_neg hle]
          rw [HE.out]
          have H1 := Lib.hid h1
          have H2 := Lib.hid h2
          have HG := Lib.hid hrg
          clear h1 h2 hrg
          go_enter Tryd.func57, Tryd.ntmps57
          go_wp2_with fail
          refine (point_some r L PL k low k1 _ HR.out H1.out).mono ?_
          rintro e w1 ⟨rfl, g1, R1⟩
          have HR1 := Lib.hid R1
          clear R1
          go_wp2_with fail
          refine (ranges_any r L PL k1 _ HR1.out).mono ?_
          rw [HG.out]
          rintro e w2 ⟨rfl, q2⟩
          have g2 := only_trans g1 (only_quiet q2)
          have HR2 := Lib.hid (HR1.out.quiet q2)
          clear g1 q2
          go_wp2_with fail
          refine (take_any r L PL k1 _ HR2.out (by omega)).mono ?_
          rintro e w3 ⟨rfl, g3, R3⟩
          have g4 := only_trans g2 g3
          have HR3 := Lib.hid R3
          clear g2 g3 R3
          go_wp2_with fail
          refine (point_some r L PL (k1 + 1) high k2 _ HR3.out H2.out).mono ?_
          rintro e w5 ⟨rfl, g5, R5⟩
          have g6 := only_trans g4 g5
          have HR5 := Lib.hid R5
          clear g4 g5 R5
          have hz := new_kept g6 hr
          have hlt5 : r < w5.heap.size := HR5.out.2.2.2.1
          have hne : r ≠ w.heap.size := by omega
          have c0 : w5.cell? ⟨w.heap.size, 0, none⟩ = some (.int .i32 0) := by rw [Lib.cell_of_heap hz]; rfl
          have c1 : w5.cell? ⟨w.heap.size, 1, none⟩ = some (.int .i32 0) := by rw [Lib.cell_of_heap hz]; rfl
          have f0 : w5.frozen? ⟨w.heap.size, 0, none⟩ = false := Lib.frozen_of_heap hz 0
          have f1 : w5.frozen? ⟨w.heap.size, 1, none⟩ = false := Lib.frozen_of_heap hz 1
          have D := span_cells c0 c1 (.int .i32 low) (.int .i32 high)
          have G := Lib.hid (only_new g6)
          have HR6 := Lib.hid (((HR5.out.other hz (by decide) 0 (.int .i32 low))).other (cells_set hz _) (by decide) 1 (.int .i32 high))
          clear hz g6
          go_wp2
          refine bodyPost_ret (v := .tuple #[.agg #[.int .i32 low, .int .i32 high], .bool false]) ?_ rfl ⟨low, high, rfl, ?_⟩
          · simp [results, Tryd.results57, go_sem, D.1, D.2] <;> omega
          · exact only_setCell (only_setCell G.out (.inr (Nat.le_refl _)) _) (.inr (Nat.le_refl _)) _
    · have hrg2 : rangesB L k1 = false := by simpa using hrg
      have HE : Hid (itemF L k = some ((low, low), k1)) := by show _ = _; unfold itemF; simp only [h1, hrg2]; rfl
      rw [HE.out]
      have H1 := Lib.hid h1
      have HG := Lib.hid hrg2
      clear h1 hrg hrg2
      go_enter Tryd.func57, Tryd.ntmps57
      go_wp2_with fail
      refine (point_some r L PL k low k1 _ HR.out H1.out).mono ?_
      rintro e w1 ⟨rfl, g1, R1⟩
      have HR1 := Lib.hid R1
      clear R1
      go_wp2_with fail
      refine (ranges_any r L PL k1 _ HR1.out).mono ?_
      rw [HG.out]
      rintro e w2 ⟨rfl, q2⟩
      have g2 := only_trans g1 (only_quiet q2)
      have HR2 := Lib.hid (HR1.out.quiet q2)
      clear g1 q2
      have g6 := g2
      have HR5 := HR2
      clear HR2 g2
      generalize w2 = w5 at *
      have hz := new_kept g6 hr
      have hlt5 : r < w5.heap.size := HR5.out.2.2.2.1
      have hne : r ≠ w.heap.size := by omega
      have c0 : w5.cell? ⟨w.heap.size, 0, none⟩ = some (.int .i32 0) := by rw [Lib.cell_of_heap hz]; rfl
      have c1 : w5.cell? ⟨w.heap.size, 1, none⟩ = some (.int .i32 0) := by rw [Lib.cell_of_heap hz]; rfl
      have f0 : w5.frozen? ⟨w.heap.size, 0, none⟩ = false := Lib.frozen_of_heap hz 0
      have f1 : w5.frozen? ⟨w.heap.size, 1, none⟩ = false := Lib.frozen_of_heap hz 1
      have D := span_cells c0 c1 (.int .i32 low) (.int .i32 low)
      have G := Lib.hid (only_new g6)
      have HR6 := Lib.hid (((HR5.out.other hz (by decide) 0 (.int .i32 low))).other (cells_set hz _) (by decide) 1 (.int .i32 low))
      clear hz g6
      go_wp2
      refine bodyPost_ret (v := .tuple #[.agg #[.int .i32 low, .int .i32 low], .bool true]) ?_ rfl ⟨rfl, ?_, HR6.out⟩
      · simp [results, Tryd.results57, go_sem, D.1, D.2] <;> omega
      · exact only_setCell (only_setCell G.out (.inr (Nat.le_refl _)) _) (.inr (Nat.le_refl _)) _
end Go.Proofs.YthkkphfnfggpaaaDoor
