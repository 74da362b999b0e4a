/- The pattern reader's methods. -/
import Derived.Test.YthkkphfnfggpaaaDoorRefText
namespace Go.Proofs.YthkkphfnfggpaaaDoor
open Go.RowKit

theorem quiet_add_same {P : Program} {f : FuncId} {args : Array Value} {w : World} {a n : Nat} {v : Value}
    (h : Calls P f args (w.drewN (a + n)) fun e w' => e = .returned v ∧ w' = w.drewN (a + n)) :
    Calls P f args (w.drewN (a + n)) fun e w'' => e = .returned v ∧ ∃ m, w'' = w.drewN (a + m) :=
  h.mono fun _ _ ⟨he, hm⟩ => ⟨he, n, hm⟩
theorem only_drewN {a w : World} {row : Option Nat} (h : a.grownBy w row) (n : Nat) : a.grownBy (w.drewN n) row := ⟨h.os, h.tape, h.output, h.size, h.block⟩
theorem only_refl (w : World) (row : Option Nat) : w.grownBy w row := ⟨rfl, rfl, rfl, Nat.le_refl _, fun _ _ _ => rfl⟩
theorem only_alloc {a w : World} {row : Option Nat} (h : a.grownBy w row) (o : Obj) : a.grownBy (w.alloc o) row :=
  ⟨h.os, h.tape, h.output, Nat.le_trans h.size (by simp), fun i hi hne => (Below.heap_alloc w o i (Nat.lt_of_lt_of_le hi h.size)).trans (h.block i hi hne)⟩
theorem only_setCell {a w : World} {g : Nat} (h : a.grownBy w (some g)) {p : Addr} (hp : p.block = g ∨ a.heap.size ≤ p.block) (u : Value) : a.grownBy (w.setCell p u) (some g) :=
  ⟨h.os, h.tape, h.output, by simpa [World.setCell] using h.size, fun i hi hne => (Below.heap_setCell w p u i (by
    rintro rfl
    rcases hp with hp | hp
    · exact hne (by rw [hp])
    · omega)).trans (h.block i hi hne)⟩
theorem only_trans {a b c : World} {row : Option Nat} (h : a.grownBy b row) (k : b.grownBy c row) : a.grownBy c row :=
  ⟨k.os.trans h.os, k.tape.trans h.tape, k.output.trans h.output, Nat.le_trans h.size k.size, fun i hi hne => (k.block i (Nat.lt_of_lt_of_le hi h.size) hne).trans (h.block i hi hne)⟩
theorem only_below {a w w' : World} {row : Option Nat} (h : a.grownBy w row) (hb : Below w.heap.size w w') : a.grownBy w' row :=
  ⟨hb.os.trans h.os, hb.tape.trans h.tape, hb.output.trans h.output, Nat.le_trans h.size hb.size, fun i hi hne => (hb.block i (Nat.lt_of_lt_of_le hi h.size)).trans (h.block i hi hne)⟩

/-- a list of places as cells -/
abbrev i64s (l : List Nat) : List Value := l.map fun x : Nat => Value.int .i64 (x : Int)
/-- the reader in block r, with its pieces, their places, and the next one -/
def Rd (w : World) (r : Nat) (L : List Int) (PL : List Nat) (k : Nat) : Prop :=
  PL.length = L.length ∧ L.length ≤ 1099511627776 ∧ k ≤ L.length ∧ r < w.heap.size ∧ ∃ ap cp aq cq, w.heap[r]? = some (.cells #[.slice ap L.length cp, .slice aq L.length cq, .int .i64 k] 77 (0, 0)) ∧ L.length ≤ cp ∧ L.length ≤ cq ∧
    (L.length = 0 ∨ ∃ bp op bq oq, ap = some ⟨bp, op, none⟩ ∧ aq = some ⟨bq, oq, none⟩ ∧ bp ≠ r ∧ bq ≠ r ∧ bp < w.heap.size ∧ bq < w.heap.size ∧ (∃ cs fz, w.heap[bp]? = some (.cells cs 21 fz)) ∧ (∃ cs fz, w.heap[bq]? = some (.cells cs 3 fz)) ∧
      (∀ j u, (i32s L)[j]? = some u → w.cell? ⟨bp, op + j, none⟩ = some u) ∧ (∀ j u, (i64s PL)[j]? = some u → w.cell? ⟨bq, oq + j, none⟩ = some u))
theorem Rd.drewN {w : World} {r : Nat} {L : List Int} {PL : List Nat} {k : Nat} (h : Rd w r L PL k) (n : Nat) : Rd (w.drewN n) r L PL k := h
/-- what happens elsewhere leaves the reader -/
theorem Rd.below {w w' : World} {r : Nat} {L : List Int} {PL : List Nat} {k : Nat} (h : Rd w r L PL k) (hb : Below w.heap.size w w') : Rd w' r L PL k := by
  obtain ⟨h1, h1b, h2, h3, ap, cp, aq, cq, h4, h5, h6, h7⟩ := h
  refine ⟨h1, h1b, h2, Nat.lt_of_lt_of_le h3 hb.size, ap, cp, aq, cq, (hb.block r h3).trans h4, h5, h6, ?_⟩
  rcases h7 with h7 | ⟨bp, op, bq, oq, e1, e2, n1, n2, l1, l2, ⟨cs1, fz1, k1⟩, ⟨cs2, fz2, k2⟩, c1, c2⟩
  · exact .inl h7
  · exact .inr ⟨bp, op, bq, oq, e1, e2, n1, n2, Nat.lt_of_lt_of_le l1 hb.size, Nat.lt_of_lt_of_le l2 hb.size, ⟨cs1, fz1, (hb.block bp l1).trans k1⟩, ⟨cs2, fz2, (hb.block bq l2).trans k2⟩, fun j u hu => (hb.cell (p := ⟨bp, op + j, none⟩) l1).trans (c1 j u hu), fun j u hu => (hb.cell (p := ⟨bq, oq + j, none⟩) l2).trans (c2 j u hu)⟩
/-- the reader goes on -/
theorem Rd.set {w : World} {r : Nat} {L : List Int} {PL : List Nat} {k : Nat} (h : Rd w r L PL k) (k' : Nat) (hk : k' ≤ L.length) (i : Int) (hi : i = k') : Rd (w.setCell ⟨r, 2, none⟩ (.int .i64 i)) r L PL k' := by
  subst hi
  obtain ⟨h1, h1b, h2, h3, ap, cp, aq, cq, h4, h5, h6, h7⟩ := h
  refine ⟨h1, h1b, hk, by simpa [World.setCell] using h3, ap, cp, aq, cq, ?_, h5, h6, ?_⟩
  · simp [World.setCell, Array.getElem?_modify, h4]
  rcases h7 with h7 | ⟨bp, op, bq, oq, e1, e2, n1, n2, l1, l2, ⟨cs1, fz1, k1⟩, ⟨cs2, fz2, k2⟩, c1, c2⟩
  · exact .inl h7
  · refine .inr ⟨bp, op, bq, oq, e1, e2, n1, n2, by simpa [World.setCell] using l1, by simpa [World.setCell] using l2, ⟨cs1, fz1, (Below.heap_setCell _ _ _ _ n1).trans k1⟩, ⟨cs2, fz2, (Below.heap_setCell _ _ _ _ n2).trans k2⟩, fun j u hu => ?_, fun j u hu => ?_⟩
    · rw [World.cell?_of_block (w := w) (Below.heap_setCell _ _ _ _ n1)]; exact c1 j u hu
    · rw [World.cell?_of_block (w := w) (Below.heap_setCell _ _ _ _ n2)]; exact c2 j u hu
/-- what the walk reads of it -/
theorem Rd.cells {w : World} {r : Nat} {L : List Int} {PL : List Nat} {k : Nat} (h : Rd w r L PL k) :
    ∃ ap cp aq cq, w.cell? ⟨r, 0, none⟩ = some (.slice ap L.length cp) ∧ w.cell? ⟨r, 1, none⟩ = some (.slice aq L.length cq) ∧ w.cell? ⟨r, 2, none⟩ = some (.int .i64 k) ∧ w.frozen? ⟨r, 2, none⟩ = false ∧
      ∀ j, j < L.length → ∃ bp op bq oq, ap = some ⟨bp, op, none⟩ ∧ aq = some ⟨bq, oq, none⟩ ∧ (∀ i, i < L.length → w.cell? ⟨bp, op + i, none⟩ = some (.int .i32 (L.getD i 0))) ∧ (∀ i, i < L.length → w.cell? ⟨bq, oq + i, none⟩ = some (.int .i64 ((PL.getD i 0 : Nat) : Int))) := by
  obtain ⟨h1, h1b, h2, h3, ap, cp, aq, cq, h4, h5, h6, h7⟩ := h
  refine ⟨ap, cp, aq, cq, by rw [Lib.cell_of_heap h4]; rfl, by rw [Lib.cell_of_heap h4]; rfl, by rw [Lib.cell_of_heap h4]; rfl, Lib.frozen_of_heap h4 2, fun j hj => ?_⟩
  rcases h7 with h7 | ⟨bp, op, bq, oq, e1, e2, n1, n2, l1, l2, ⟨cs1, fz1, k1⟩, ⟨cs2, fz2, k2⟩, c1, c2⟩
  · omega
  · refine ⟨bp, op, bq, oq, e1, e2, fun i hi => ListAt.i32 c1 i hi, fun i hi => ?_⟩
    apply c2; simp [List.getElem?_eq_getElem (show i < PL.length by omega), List.getD]

set_option maxHeartbeats 1000000 in
theorem more_any (r : Nat) (L : List Int) (PL : List Nat) (k : Nat) (w : World) (h : Rd w r L PL k) :
    Calls Tryd.prog 48 #[.pointer (some ⟨r, 0, none⟩)] w fun e w' => e = .returned (.bool (decide (k < L.length))) ∧ ∃ n, w' = w.drewN n := by
  obtain ⟨ap, cp, aq, cq, c0, c1, c2, f2, _⟩ := h.cells
  clear c1 f2
  by_cases hk : k < L.length
  · have hki : decide ((k : Int) < (L.length : Int)) = true := by simpa using hk
    rw [decide_eq_true hk]
    go_enter Tryd.func48, Tryd.ntmps48
    go_wp2
    go_quiet (fail)
    go_wp2
    go_ret
    exact ⟨rfl, _, rfl⟩
  · have hki : decide ((k : Int) < (L.length : Int)) = false := by simpa using hk
    rw [decide_eq_false hk]
    go_enter Tryd.func48, Tryd.ntmps48
    go_wp2
    go_quiet (fail)
    go_wp2
    go_ret
    exact ⟨rfl, _, rfl⟩

set_option maxHeartbeats 1000000 in
theorem take_any (r : Nat) (L : List Int) (PL : List Nat) (k : Nat) (w : World) (h : Rd w r L PL k) (hk : k < L.length) :
    Calls Tryd.prog 49 #[.pointer (some ⟨r, 0, none⟩)] w fun e w' => e = .returned (.int .i32 (L.getD k 0)) ∧ w.grownBy w' (some r) ∧ Rd w' r L PL (k + 1) := by
  obtain ⟨ap, cp, aq, cq, c0, c1, c2, f2, hj⟩ := h.cells
  obtain ⟨bp, op, bq, oq, rfl, rfl, cc, _⟩ := hj k hk
  have hc := cc k hk
  have hn := h.2.1
  clear c1 cc hj
  have HR := Lib.hid h
  clear h
  generalize L.getD k 0 = x at *
  go_enter Tryd.func49, Tryd.ntmps49
  go_wp2
  go_quiet (fail)
  go_wp2
  go_ret
  exact ⟨rfl, only_setCell (only_drewN (only_refl _ _) _) (.inl rfl) _, (HR.out.drewN _).set (k + 1) (by omega) _ (by omega)⟩

set_option maxHeartbeats 1000000 in
theorem skip_yes (r : Nat) (L : List Int) (PL : List Nat) (k : Nat) (c : Int) (w : World) (h : Rd w r L PL k) (hk : k < L.length) (hx : L.getD k 0 = c) :
    Calls Tryd.prog 56 #[.pointer (some ⟨r, 0, none⟩), .int .i32 c] w fun e w' => e = .returned (.bool true) ∧ w.grownBy w' (some r) ∧ Rd w' r L PL (k + 1) := by
  have hm := fun n => more_any r L PL k (w.drewN n) (h.drewN n)
  obtain ⟨ap, cp, aq, cq, c0, c1, c2, f2, hj⟩ := h.cells
  have hn := h.2.1
  have HR := Lib.hid h
  clear h c1
  obtain ⟨bp, op, bq, oq, rfl, rfl, cc, _⟩ := hj k hk
  have hc := cc k hk
  clear cc hj
  rw [decide_eq_true hk] at hm
  generalize L.getD k 0 = x at *
  have hxi : (x == c) = true := by rw [beq_iff_eq]; exact hx
  have HM := Lib.hid hm
  clear hx hm
  go_enter Tryd.func56, Tryd.ntmps56
  go_wp2_with fail
  go_quiet ((go_at_call 48; exact Calls.quiet_of (HM.out _)))
  go_wp2
  go_ret
  exact ⟨rfl, only_setCell (only_drewN (only_refl _ _) _) (.inl rfl) _, (HR.out.drewN _).set (k + 1) (by omega) _ (by omega)⟩

set_option maxHeartbeats 1000000 in
theorem skip_no (r : Nat) (L : List Int) (PL : List Nat) (k : Nat) (c : Int) (w : World) (h : Rd w r L PL k) (hx : ¬ (k < L.length ∧ L.getD k 0 = c)) :
    Calls Tryd.prog 56 #[.pointer (some ⟨r, 0, none⟩), .int .i32 c] w fun e w' => e = .returned (.bool false) ∧ ∃ n, w' = w.drewN n := by
  have hm := fun n => more_any r L PL k (w.drewN n) (h.drewN n)
  obtain ⟨ap, cp, aq, cq, c0, c1, c2, f2, hj⟩ := h.cells
  have hn := h.2.1
  clear h c1
  by_cases hk : k < L.length
  · obtain ⟨bp, op, bq, oq, rfl, rfl, cc, _⟩ := hj k hk
    have hc := cc k hk
    clear cc hj
    rw [decide_eq_true hk] at hm
    have hx : ¬ L.getD k 0 = c := fun e => hx ⟨hk, e⟩
    generalize L.getD k 0 = x at *
    have hxi : (x == c) = false := by rw [beq_eq_false_iff_ne]; exact hx
    have HM := Lib.hid hm
    clear hx hm
    go_enter Tryd.func56, Tryd.ntmps56
    go_wp2_with fail
    go_quiet ((go_at_call 48; exact Calls.quiet_of (HM.out _)))
    go_wp2
    go_ret
    exact ⟨rfl, _, rfl⟩
  · rw [decide_eq_false hk] at hm
    clear hj hx
    have HM := Lib.hid hm
    clear hm
    go_enter Tryd.func56, Tryd.ntmps56
    go_wp2_with fail
    go_quiet ((go_at_call 48; exact Calls.quiet_of (HM.out _)))
    go_wp2
    go_ret
    exact ⟨rfl, _, rfl⟩

/-- does an item go on? -/
def rangesB (L : List Int) (k : Nat) : Bool := decide (k + 1 < L.length ∧ L.getD k 0 = 45 ∧ L.getD (k + 1) 0 ≠ 93)
set_option maxHeartbeats 2000000 in
theorem ranges_any (r : Nat) (L : List Int) (PL : List Nat) (k : Nat) (w : World) (h : Rd w r L PL k) :
    Calls Tryd.prog 60 #[.pointer (some ⟨r, 0, none⟩)] w fun e w' => e = .returned (.bool (rangesB L k)) ∧ ∃ n, w' = w.drewN n := by
  obtain ⟨ap, cp, aq, cq, c0, c1, c2, f2, hj⟩ := h.cells
  have hn := h.2.1
  have hkn := h.2.2.1
  clear h c1
  by_cases hk : k + 1 < L.length
  · have hk1 : (k : Int) + 1 < (L.length : Int) := by omega
    have hk2 : (k : Int) < (L.length : Int) := by omega
    have hki : decide ((k : Int) + 1 < (L.length : Int)) = true := by rw [decide_eq_true_iff]; exact hk1
    obtain ⟨bp, op, bq, oq, rfl, rfl, cc, _⟩ := hj k (by omega)
    have hc1 := cc k (by omega)
    have hc2 := cc (k + 1) hk
    have HV : Hid (rangesB L k = (decide (L.getD k 0 = 45) && decide (L.getD (k + 1) 0 ≠ 93))) := by
      show _ = _; unfold rangesB; rw [Bool.eq_iff_iff]; simp [hk]
    clear cc hj
    generalize L.getD k 0 = x at *
    generalize L.getD (k + 1) 0 = y at *
    by_cases hx : x = 45
    · have hxi : (x == 45) = true := by rw [beq_iff_eq]; exact hx
      have HX := Lib.hid hx
      clear hx
      go_enter Tryd.func60, Tryd.ntmps60
      go_wp2
      go_quiet (fail)
      go_wp2
      go_ret
      exact ⟨ret_bool (by rw [HV.out, HX.out, Bool.eq_iff_iff]; simp), _, rfl⟩
    · have hxi : (x == 45) = false := by rw [beq_eq_false_iff_ne]; exact hx
      have HX := Lib.hid hx
      clear hx
      go_enter Tryd.func60, Tryd.ntmps60
      go_wp2
      go_quiet (fail)
      go_wp2
      go_ret
      exact ⟨ret_bool (by rw [HV.out, decide_eq_false HX.out]; rfl), _, rfl⟩
  · have HV : Hid (rangesB L k = false) := by show _ = _; unfold rangesB; rw [decide_eq_false_iff_not]; intro e; exact hk e.1
    have hki : decide (((k : Int) + 1) < (L.length : Int)) = false := by rw [decide_eq_false_iff_not]; omega
    clear hj
    go_enter Tryd.func60, Tryd.ntmps60
    go_wp2
    go_quiet (fail)
    go_wp2
    go_ret
    exact ⟨ret_bool HV.out.symm, _, rfl⟩
end Go.Proofs.YthkkphfnfggpaaaDoor
