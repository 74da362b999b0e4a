/- A class of a pattern. -/
import Derived.Test.YthkkphfnfggpaaaDoorItem
namespace Go.Proofs.YthkkphfnfggpaaaDoor
open Go.RowKit

/-- a pattern's part -/
structure Prt where
  star : Bool
  neg : Bool
  spans : List (Int × Int)
/-- a class's items, from a place on -/
def classGo (L : List Int) : Nat → Nat → List (Int × Int) → Option (List (Int × Int) × Nat)
  | 0, _, _ => none
  | f + 1, k, acc => if k < L.length then (if L.getD k 0 = 93 then (if acc = [] then none else some (acc, k + 1)) else
      match itemF L k with
      | none => none
      | some (s, k') => classGo L f k' (acc ++ [s])) else none
def negB (L : List Int) (k : Nat) : Bool := decide (k < L.length ∧ L.getD k 0 = 94)
def classF (L : List Int) (k : Nat) : Option (Prt × Nat) :=
  match classGo L (L.length + 1) (if negB L k = true then k + 1 else k) [] with
  | none => none
  | some (s, k') => some (⟨false, negB L k, s⟩, k')
def spanCells (l : List (Int × Int)) : List Value := l.flatMap fun s => [.int .i32 s.1, .int .i32 s.2]
theorem spanCells_len (l : List (Int × Int)) : (spanCells l).length = l.length * 2 := by
  induction l with
  | nil => rfl
  | cons a l ih => simp [spanCells] at *; omega
theorem spanCells_snoc (l : List (Int × Int)) (s : Int × Int) : spanCells (l ++ [s]) = spanCells l ++ [.int .i32 s.1, .int .i32 s.2] := by simp [spanCells]
/-- spans in memory -/
def SpansAt (w : World) (B : Nat) (v : Value) (l : List (Int × Int)) : Prop := w.ownsRow B 85 2 v l.length (spanCells l)
theorem info_span : (Tryd.prog.info? 85).map (fun i => (i.zero, i.size, i.bytes)) = some (some (.agg #[.int .i32 0, .int .i32 0]), 2, 8) := by kernel_rfl
theorem own_ne_cells {w : World} {B : Nat} {e : TypeId} {size : Nat} {v : Value} {n : Nat} {xs : List Value} (h : w.ownsRow B e size v n xs) {k : Nat} {cs : Array Value} {T : TypeId} {fr : Nat × Nat} (hk : w.heap[k]? = some (.cells cs T fr)) (hT : T ≠ e) : v.ownBlock ≠ some k := by
  rcases h.2 with ⟨rfl, _⟩ | ⟨g, cap, cur, rfl, _, hg, _⟩
  · simp [Value.ownBlock]
  · intro e
    simp only [Value.ownBlock, Option.some.injEq] at e
    subst e
    rw [hg] at hk; simp at hk; exact hT hk.2.1.symm
theorem own_only {w w' : World} {B : Nat} {e : TypeId} {size : Nat} {v : Value} {n : Nat} {xs : List Value} (h : w.ownsRow B e size v n xs) {r : Nat} (hg : w.grownBy w' (some r)) {cs : Array Value} {T : TypeId} {fr : Nat × Nat} (hk : w.heap[r]? = some (.cells cs T fr)) (hT : T ≠ e) : w'.ownsRow B e size v n xs :=
  h.kept hg (Or.inr (own_ne_cells h hk hT))
theorem own_setCell {w : World} {B : Nat} {e : TypeId} {size : Nat} {v : Value} {n : Nat} {xs : List Value} (h : w.ownsRow B e size v n xs) {b : Nat} {cs : Array Value} {T : TypeId} {fr : Nat × Nat} (hb : w.heap[b]? = some (.cells cs T fr)) (hT : T ≠ e) (j : Nat) (u : Value) : (w.setCell ⟨b, j, none⟩ u).ownsRow B e size v n xs :=
  h.kept (row := some b) ⟨rfl, rfl, rfl, by simp [World.setCell], fun k _ hk => Below.heap_setCell _ _ _ _ (fun e => hk (by simp [e]))⟩ (Or.inr (own_ne_cells h hb hT))
theorem Rd.heap {w : World} {r : Nat} {L : List Int} {PL : List Nat} {k : Nat} (h : Rd w r L PL k) : ∃ cs, w.heap[r]? = some (.cells cs 77 (0, 0)) := by
  obtain ⟨_, _, _, _, ap, cp, aq, cq, h4, _⟩ := h; exact ⟨_, h4⟩
theorem slice_of_own {w : World} {B : Nat} {e : TypeId} {size : Nat} {v : Value} {n : Nat} {xs : List Value} (h : w.ownsRow B e size v n xs) : ∃ a c, v = .slice a n c := by
  rcases h.2 with ⟨rfl, rfl⟩ | ⟨g, cap, cur, rfl, _⟩
  · exact ⟨_, _, rfl⟩
  · exact ⟨_, _, rfl⟩

/-- three stores into a part's block -/
def set3 (w : World) (b : Nat) (u v x : Value) : World := ((w.setCell ⟨b, 0, none⟩ u).setCell ⟨b, 1, none⟩ v).setCell ⟨b, 2, none⟩ x
theorem set3_cells {w : World} {b : Nat} {cs : Array Value} {T : TypeId} {fr : Nat × Nat} (h : w.heap[b]? = some (.cells cs T fr)) (hs : cs.size = 3) (u v x : Value) :
    (set3 w b u v x).cell? ⟨b, 0, none⟩ = some u ∧ (set3 w b u v x).cell? ⟨b, 1, none⟩ = some v ∧ (set3 w b u v x).cell? ⟨b, 2, none⟩ = some x := by
  have h3 := cells_set (cells_set (cells_set h (j := 0) u) (j := 1) v) (j := 2) x
  unfold set3
  rw [Lib.cell_of_heap h3, Lib.cell_of_heap h3, Lib.cell_of_heap h3]
  refine ⟨?_, ?_, ?_⟩ <;> simp [Array.getElem?_setIfInBounds, hs]
theorem Rd.set3 {w : World} {r : Nat} {L : List Int} {PL : List Nat} {k : Nat} (h : Rd w r L PL k) {b : Nat} {cs : Array Value} {fr : Nat × Nat} (hb : w.heap[b]? = some (.cells cs 81 fr)) (u v x : Value) : Rd (set3 w b u v x) r L PL k :=
  ((h.other hb (by decide) 0 u).other (cells_set hb _) (by decide) 1 v).other (cells_set (cells_set hb _) _) (by decide) 2 x
theorem own_set3 {w : World} {B : Nat} {e : TypeId} {size : Nat} {v : Value} {n : Nat} {xs : List Value} (h : w.ownsRow B e size v n xs) {b : Nat} {cs : Array Value} {T : TypeId} {fr : Nat × Nat} (hb : w.heap[b]? = some (.cells cs T fr)) (hT : T ≠ e) (u y x : Value) : (set3 w b u y x).ownsRow B e size v n xs :=
  own_setCell (own_setCell (own_setCell h hb hT 0 u) (cells_set hb _) hT 1 y) (cells_set (cells_set hb _) _) hT 2 x
theorem only_set3 {a w : World} {g b : Nat} (h : a.grownBy w (some g)) (hb : a.heap.size ≤ b) (u v x : Value) : a.grownBy (set3 w b u v x) (some g) :=
  only_setCell (only_setCell (only_setCell h (.inr hb) _) (.inr hb) _) (.inr hb) _
theorem only_drew {a w : World} {row : Option Nat} (h : a.grownBy w row) : a.grownBy w.drew row := ⟨h.os, h.tape, h.output, h.size, h.block⟩

theorem set3_size (w : World) (b : Nat) (u v x : Value) : (set3 w b u v x).heap.size = w.heap.size := by simp [set3, World.setCell]
theorem set3_alloc {w : World} {b : Nat} {cs : Array Value} {T : TypeId} {fr : Nat × Nat} (h : w.heap[b]? = some (.cells cs T fr)) (hs : cs.size = 3) (u v x : Value) (o : Obj) :
    ((set3 w b u v x).alloc o).cell? ⟨b, 0, none⟩ = some u ∧ ((set3 w b u v x).alloc o).cell? ⟨b, 1, none⟩ = some v ∧ ((set3 w b u v x).alloc o).cell? ⟨b, 2, none⟩ = some x := by
  have D := set3_cells h hs u v x
  have hlt : b < (set3 w b u v x).heap.size := by rw [set3_size]; exact (Array.getElem?_eq_some_iff.1 h).1
  exact ⟨(World.cell?_alloc_past _ _ _ hlt).trans D.1, (World.cell?_alloc_past _ _ _ hlt).trans D.2.1, (World.cell?_alloc_past _ _ _ hlt).trans D.2.2⟩

theorem newsAt (w : World) (T : TypeId) (xs : List Value) (n : Nat) (hn : n = w.heap.size) : ∀ j u, xs[j]? = some u → (w.alloc (.cells xs.toArray T)).cell? ((⟨n, 0, none⟩ : Addr).add j) = some u := by
  subst hn; exact newsL w T xs
/-- what leaves blocks of the reader's three types leaves the reader -/
theorem Rd.keep {w w' : World} {r : Nat} {L : List Int} {PL : List Nat} {k : Nat} (h : Rd w r L PL k) (hs : w.heap.size ≤ w'.heap.size)
    (hk : ∀ (b : Nat) (cs : Array Value) (T : TypeId) (fz : Nat × Nat), w.heap[b]? = some (.cells cs T fz) → (T = 77 ∨ T = 21 ∨ T = 3) → w'.heap[b]? = w.heap[b]?) : Rd w' r L PL k := by
  obtain ⟨h1, h1b, h2, h3, ap, cp, aq, cq, h4, h5, h6, h7⟩ := h
  refine ⟨h1, h1b, h2, Nat.lt_of_lt_of_le h3 hs, ap, cp, aq, cq, (hk r _ _ _ h4 (.inl rfl)).trans h4, h5, h6, ?_⟩
  rcases h7 with h7 | ⟨bp, op, bq, oq, e1, e2, n1, n2, l1, l2, ⟨cs1, fz1, k1⟩, ⟨cs2, fz2, k2⟩, c1, c2⟩
  · exact .inl h7
  · have b1 := hk bp _ _ _ k1 (.inr (.inl rfl))
    have b2 := hk bq _ _ _ k2 (.inr (.inr rfl))
    exact .inr ⟨bp, op, bq, oq, e1, e2, n1, n2, Nat.lt_of_lt_of_le l1 hs, Nat.lt_of_lt_of_le l2 hs, ⟨cs1, fz1, b1.trans k1⟩, ⟨cs2, fz2, b2.trans k2⟩,
      fun j u hu => by rw [World.cell?_of_block (w := w) b1]; exact c1 j u hu, fun j u hu => by rw [World.cell?_of_block (w := w) b2]; exact c2 j u hu⟩
theorem Rd.grown {w w' : World} {r : Nat} {L : List Int} {PL : List Nat} {k : Nat} (h : Rd w r L PL k) {B : Nat} {e : TypeId} {size : Nat} {v : Value} {n : Nat} {xs : List Value} (ho : w.ownsRow B e size v n xs)
    (he : e ≠ 77 ∧ e ≠ 21 ∧ e ≠ 3) (hg : w.grownBy w' v.ownBlock) : Rd w' r L PL k :=
  h.keep hg.size fun b cs T fz hb hT => hg.block b (Array.getElem?_eq_some_iff.1 hb).1 (fun e2 => own_ne_cells ho hb (by intro ee; subst ee; exact hT.elim he.1 (fun h => h.elim he.2.1 he.2.2)) e2.symm)
/-- a block of another type behind an append -/
theorem cells_grown {w w' : World} {B : Nat} {e : TypeId} {size : Nat} {v : Value} {n : Nat} {xs : List Value} (ho : w.ownsRow B e size v n xs) (hg : w.grownBy w' v.ownBlock) {b : Nat} {cs : Array Value} {T : TypeId} {fr : Nat × Nat}
    (hb : w.heap[b]? = some (.cells cs T fr)) (hT : T ≠ e) : w'.heap[b]? = some (.cells cs T fr) := by
  rw [hg.block b (Array.getElem?_eq_some_iff.1 hb).1 (fun e2 => own_ne_cells ho hb hT e2.symm)]; exact hb
theorem cells_alloc {w : World} {b : Nat} {cs : Array Value} {T : TypeId} {fr : Nat × Nat} (hb : w.heap[b]? = some (.cells cs T fr)) (o : Obj) : (w.alloc o).heap[b]? = some (.cells cs T fr) := by
  rw [Below.heap_alloc w o b (Array.getElem?_eq_some_iff.1 hb).1]; exact hb
theorem Rd.alloc {w : World} {r : Nat} {L : List Int} {PL : List Nat} {k : Nat} (h : Rd w r L PL k) (o : Obj) : Rd (w.alloc o) r L PL k := h.below ((Below.refl _ _).alloc (Nat.le_refl _) o)

def ClassPost (r : Nat) (L : List Int) (PL : List Nat) (w : World) (o : Option (Prt × Nat)) (e : Ending) (w' : World) : Prop :=
  match o with
  | some (p, k') => ∃ sv, e = .returned (.tuple #[.agg #[.bool false, .bool p.neg, sv], .bool true]) ∧ SpansAt w' w.heap.size sv p.spans ∧ w.grownBy w' (some r) ∧ Rd w' r L PL k'
  | none => ∃ b, e = .returned (.tuple #[.agg #[.bool false, .bool b, .slice none 0 0], .bool false]) ∧ w.grownBy w' (some r)

set_option maxHeartbeats 4000000 in
theorem class_any (r : Nat) (L : List Int) (PL : List Nat) (k : Nat) (w : World) (h : Rd w r L PL k) :
    Calls Tryd.prog 50 #[.pointer (some ⟨r, 0, none⟩)] w (ClassPost r L PL w (classF L k)) := by
  obtain ⟨i0, hi, hz0, hz1, hz2⟩ := info_parts info_span
  have hr : r < w.heap.size := h.2.2.2.1
  have hn := h.2.1
  have HR := Lib.hid (h.below ((Below.refl _ _).alloc (Nat.le_refl _) (.cells #[.bool false, .bool false, .slice none 0 0] 81)))
  clear h
  go_enter Tryd.func50, Tryd.ntmps50
  -- the sign ^
  have step1 : ∃ k0 nb, k0 = (if negB L k = true then k + 1 else k) ∧ nb = negB L k := ⟨_, _, rfl, rfl⟩
  obtain ⟨k0, nb, hk0, hnb⟩ := step1
  have HK0 := Lib.hid hk0
  have HNB := Lib.hid hnb
  clear hk0 hnb
  have skip94 : ∀ W : World, Rd W r L PL k → Calls Tryd.prog 56 #[.pointer (some ⟨r, 0, none⟩), .int .i32 94] W fun e w' => e = .returned (.bool nb) ∧ W.grownBy w' (some r) ∧ Rd w' r L PL k0 := by
    intro W hW
    by_cases hx : k < L.length ∧ L.getD k 0 = 94
    · have e1 : negB L k = true := by unfold negB; rw [decide_eq_true_iff]; exact hx
      have e2 : nb = true := by rw [HNB.out, e1]
      have e3 : k0 = k + 1 := by rw [HK0.out, if_pos e1]
      rw [e2, e3]
      exact skip_yes r L PL k 94 W hW hx.1 hx.2
    · have e1 : negB L k = false := by unfold negB; rw [decide_eq_false_iff_not]; exact hx
      have e2 : nb = false := by rw [HNB.out, e1]
      have e3 : k0 = k := by rw [HK0.out, e1]; rfl
      rw [e2, e3]
      refine (skip_no r L PL k 94 W hW hx).mono ?_
      rintro e w' ⟨he, hq⟩
      exact ⟨he, only_quiet hq, hW.quiet hq⟩
  have SK := Lib.hid skip94
  clear skip94
  go_wp2_with fail
  refine (SK.out _ HR.out).mono ?_
  rintro e w1 ⟨rfl, g1, R1⟩
  have hzr := new_kept g1 hr
  have HR1 := Lib.hid R1
  have G1 := Lib.hid (only_new g1)
  have hw1 : w.heap.size < w1.heap.size := (Array.getElem?_eq_some_iff.1 hzr).1
  have HZ := Lib.hid hzr
  clear R1 g1 hzr
  go_wp2
  go_loopg [] (L.length + 1) (fun g wr => ∃ (q : Nat) (acc : List (Int × Int)) (sv : Value), q ≤ L.length ∧ acc.length ≤ q ∧ L.length + 1 - q ≤ g ∧ classGo L g q acc = classGo L (L.length + 1) k0 [] ∧ Rd wr r L PL q ∧
      wr.heap[w1.heap.size]? = some (.cells #[.bool false, .bool nb, sv] 81 (0, 0)) ∧ SpansAt wr w.heap.size sv acc ∧
      wr.heap[w.heap.size]? = some (.cells #[.bool false, .bool false, .slice none 0 0] 81 (0, 0)) ∧ w.grownBy wr (some r) ∧ (acc = [] → sv = .slice none 0 0))
  case atStart =>
    refine ⟨k0, [], .slice none 0 0, HR1.out.2.2.1, by simp, by omega, rfl, HR1.out.below ((Below.refl _ _).alloc (Nat.le_refl _) _), heap_alloc_new w1 _, World.ownsRow_nil _ _ _ _, ?_, only_alloc G1.out _, fun _ => rfl⟩
    rw [Below.heap_alloc w1 _ _ hw1]; exact HZ.out
  case round =>
    obtain ⟨q, acc, sv, hq, hacc, hg, hx, hR, hX, hS, hZ, hG, hnil⟩ := hrel
    have HX := Lib.hid hx
    have HRr := Lib.hid hR
    have HS := Lib.hid hS
    have HG := Lib.hid hG
    have HXX := Lib.hid hX
    have HZZ := Lib.hid hZ
    have HN := Lib.hid hnil
    clear hx hR hS hG hX hZ hnil SK HR HR1 G1 HZ
    by_cases hlt : q < L.length
    · obtain ⟨g, rfl⟩ : ∃ g, gk = g + 1 := ⟨gk - 1, by omega⟩
      by_cases h93 : L.getD q 0 = 93
      · have HC : Hid (classGo L (g + 1) q acc = if acc = [] then none else some (acc, q + 1)) := by
          show _ = _; simp only [classGo, if_pos hlt, if_pos h93]
        have H93 := Lib.hid h93
        clear h93
        go_wp2_with fail
        refine (more_any r L PL q _ HRr.out).mono ?_
        rw [decide_eq_true hlt]
        rintro e w2 ⟨rfl, q2⟩
        obtain ⟨n2, rfl⟩ := q2
        go_wp2_with fail
        refine (skip_yes r L PL q 93 _ (HRr.out.drewN n2) hlt H93.out).mono ?_
        rintro e w3 ⟨rfl, g3, R3⟩
        have hX3 : w3.heap[w1.heap.size]? = some (.cells #[.bool false, .bool nb, sv] 81 (0, 0)) := by
          obtain ⟨cs, hcs⟩ := HRr.out.heap
          have : w1.heap.size < wr.heap.size := (Array.getElem?_eq_some_iff.1 HXX.out).1
          rw [g3.block w1.heap.size this (by intro e; simp at e; omega)]; exact HXX.out
        have hZ3 : w3.heap[w.heap.size]? = some (.cells #[.bool false, .bool false, .slice none 0 0] 81 (0, 0)) := by
          have : w.heap.size < wr.heap.size := (Array.getElem?_eq_some_iff.1 HZZ.out).1
          rw [g3.block w.heap.size this (by intro e; simp at e; omega)]; exact HZZ.out
        have hlen : acc.length ≤ 1099511627776 := by omega
        obtain ⟨sa, sc, hsv⟩ := slice_of_own HS.out
        subst hsv
        have x0 : w3.cell? ⟨w1.heap.size, 0, none⟩ = some (.bool false) := by rw [Lib.cell_of_heap hX3]; rfl
        have x1 : w3.cell? ⟨w1.heap.size, 1, none⟩ = some (.bool nb) := by rw [Lib.cell_of_heap hX3]; rfl
        have x2 : w3.cell? ⟨w1.heap.size, 2, none⟩ = some (.slice sa acc.length sc) := by rw [Lib.cell_of_heap hX3]; rfl
        have z0 : w3.cell? ⟨w.heap.size, 0, none⟩ = some (.bool false) := by rw [Lib.cell_of_heap hZ3]; rfl
        have z1 : w3.cell? ⟨w.heap.size, 1, none⟩ = some (.bool false) := by rw [Lib.cell_of_heap hZ3]; rfl
        have z2 : w3.cell? ⟨w.heap.size, 2, none⟩ = some (.slice none 0 0) := by rw [Lib.cell_of_heap hZ3]; rfl
        have f0 : w3.frozen? ⟨w.heap.size, 0, none⟩ = false := Lib.frozen_of_heap hZ3 0
        have f1 : w3.frozen? ⟨w.heap.size, 1, none⟩ = false := Lib.frozen_of_heap hZ3 1
        have f2 : w3.frozen? ⟨w.heap.size, 2, none⟩ = false := Lib.frozen_of_heap hZ3 2
        have HX3 := Lib.hid hX3
        have HZ3 := Lib.hid hZ3
        have G3 := Lib.hid g3
        have HR3 := Lib.hid R3
        clear hX3 hZ3 g3 R3
        go_wp2
        go_region
        go_wp2
        have D := set3_cells HZ3.out rfl (.bool false) (.bool nb) (.slice sa acc.length sc)
        refine bodyPost_ret (v := .tuple #[.agg #[.bool false, .bool nb, .slice sa acc.length sc], .bool (decide (0 < acc.length))]) ?_ rfl ?_
        · unfold set3 at D
          simp [results, Tryd.results50, go_sem, D.1, D.2.1, D.2.2]
        · show ClassPost r L PL w (classF L k) _ (set3 w3 w.heap.size (.bool false) (.bool nb) (.slice sa acc.length sc)).drew
          have hF : classF L k = (match classGo L (g + 1) q acc with | none => none | some (s, k') => some (⟨false, negB L k, s⟩, k')) := by
            unfold classF; rw [← HK0.out, HX.out]
          rw [hF, HC.out]
          have G4 := only_trans (only_drewN HG.out n2) G3.out
          by_cases ha : acc = []
          · subst ha
            have := HN.out rfl
            simp only [if_true]
            rw [this]
            exact ⟨nb, rfl, only_drew (only_set3 G4 (Nat.le_refl _) _ _ _)⟩
          · rw [if_neg ha]
            have hpos : 0 < acc.length := by cases acc with | nil => exact absurd rfl ha | cons a t => simp
            obtain ⟨cs, hcs⟩ := HRr.out.heap
            refine ⟨.slice sa acc.length sc, ?_, own_set3 (own_only HS.out (only_trans (only_drewN (only_refl wr _) n2) G3.out) hcs (by decide)) HZ3.out (by decide) _ _ _, only_drew (only_set3 G4 (Nat.le_refl _) _ _ _), HR3.out.set3 HZ3.out _ _ _⟩
            rw [decide_eq_true hpos, HNB.out]
      · have hno : ¬ (q < L.length ∧ L.getD q 0 = 93) := fun e => h93 e.2
        have hC : classGo L (g + 1) q acc = (match itemF L q with | none => none | some (s, k') => classGo L g k' (acc ++ [s])) := by
          simp only [classGo, if_pos hlt, if_neg h93]
        have hF : classF L k = (match classGo L (g + 1) q acc with | none => none | some (s, k') => some (⟨false, negB L k, s⟩, k')) := by
          unfold classF; rw [← HK0.out, HX.out]
        have HNO := Lib.hid hno
        cases hit : itemF L q with
        | none =>
          have HE : Hid (classF L k = none) := by show _ = _; rw [hF, hC, hit]
          rw [HE.out]
          have HIT := Lib.hid hit
          clear h93 hno hC hF hit
          go_wp2_with fail
          refine (more_any r L PL q _ HRr.out).mono ?_
          rw [decide_eq_true hlt]
          rintro e w2 ⟨rfl, q2⟩
          obtain ⟨n2, rfl⟩ := q2
          go_wp2_with fail
          refine (skip_no r L PL q 93 _ (HRr.out.drewN n2) HNO.out).mono ?_
          rintro e w3 ⟨rfl, q3⟩
          have HR3 := Lib.hid ((HRr.out.drewN n2).quiet q3)
          have G3 : Hid (w.grownBy w3 (some r)) := only_trans (only_drewN HG.out n2) (only_quiet q3)
          have hZ3 : w3.heap[w.heap.size]? = some (.cells #[.bool false, .bool false, .slice none 0 0] 81 (0, 0)) := by
            obtain ⟨n3, rfl⟩ := q3; exact HZZ.out
          have HZ3 := Lib.hid hZ3
          clear q3 hZ3
          go_wp2_with fail
          refine (item_any r L PL q _ HR3.out hlt).mono ?_
          rw [HIT.out]
          rintro e w4 ⟨a, b, rfl, g4⟩
          have G4 : Hid (w.grownBy w4 (some r)) := only_trans G3.out g4
          have hZ5 : w4.heap[w.heap.size]? = some (.cells #[.bool false, .bool false, .slice none 0 0] 81 (0, 0)) := by
            have : w.heap.size < w3.heap.size := (Array.getElem?_eq_some_iff.1 HZ3.out).1
            rw [g4.block w.heap.size this (by intro e; simp at e; omega)]; exact HZ3.out
          have hlt4 : w.heap.size < w4.heap.size := (Array.getElem?_eq_some_iff.1 hZ5).1
          have z0 : w4.cell? ⟨w.heap.size, 0, none⟩ = some (.bool false) := by rw [Lib.cell_of_heap hZ5]; rfl
          have z1 : w4.cell? ⟨w.heap.size, 1, none⟩ = some (.bool false) := by rw [Lib.cell_of_heap hZ5]; rfl
          have z2 : w4.cell? ⟨w.heap.size, 2, none⟩ = some (.slice none 0 0) := by rw [Lib.cell_of_heap hZ5]; rfl
          have f0 : w4.frozen? ⟨w.heap.size, 0, none⟩ = false := Lib.frozen_of_heap hZ5 0
          have f1 : w4.frozen? ⟨w.heap.size, 1, none⟩ = false := Lib.frozen_of_heap hZ5 1
          have f2 : w4.frozen? ⟨w.heap.size, 2, none⟩ = false := Lib.frozen_of_heap hZ5 2
          have D := set3_alloc hZ5 rfl (.bool false) (.bool false) (.slice none 0 0) (.cells #[.int .i32 a, .int .i32 b] 85)
          clear hZ5 g4
          go_wp2
          refine bodyPost_ret (v := .tuple #[.agg #[.bool false, .bool false, .slice none 0 0], .bool false]) ?_ rfl ?_
          · unfold set3 at D
            simp [results, Tryd.results50, go_sem, D.1, D.2.1, D.2.2]
          · exact ⟨false, rfl, only_alloc (only_set3 G4.out (Nat.le_refl _) _ _ _) _⟩
        | some p =>
          obtain ⟨s, q'⟩ := p
          have hql := item_lt hit
          have HE : Hid (classGo L (g + 1) q acc = classGo L g q' (acc ++ [s])) := by show _ = _; rw [hC, hit]
          have HIT := Lib.hid hit
          clear h93 hno hC hF hit
          go_wp2_with fail
          refine (more_any r L PL q _ HRr.out).mono ?_
          rw [decide_eq_true hlt]
          rintro e w2 ⟨rfl, q2⟩
          obtain ⟨n2, rfl⟩ := q2
          go_wp2_with fail
          refine (skip_no r L PL q 93 _ (HRr.out.drewN n2) HNO.out).mono ?_
          rintro e w3 ⟨rfl, q3⟩
          have HR3 := Lib.hid ((HRr.out.drewN n2).quiet q3)
          have g3 : wr.grownBy w3 (some r) := only_trans (only_drewN (only_refl wr _) n2) (only_quiet q3)
          clear q3
          go_wp2_with fail
          refine (item_any r L PL q _ HR3.out hlt).mono ?_
          rw [HIT.out]
          rintro e w4 ⟨rfl, g4, R4⟩
          have g5 : wr.grownBy w4 (some r) := only_trans g3 g4
          clear g3
          obtain ⟨cs, hcs⟩ := HRr.out.heap
          have hwr1 : w1.heap.size < wr.heap.size := (Array.getElem?_eq_some_iff.1 HXX.out).1
          have hX4 : w4.heap[w1.heap.size]? = some (.cells #[.bool false, .bool nb, sv] 81 (0, 0)) := by
            rw [g5.block w1.heap.size hwr1 (by intro e; simp at e; omega)]; exact HXX.out
          have hZ4 : w4.heap[w.heap.size]? = some (.cells #[.bool false, .bool false, .slice none 0 0] 81 (0, 0)) := by
            rw [g5.block w.heap.size (by omega) (by intro e; simp at e; omega)]; exact HZZ.out
          have hS4 : w4.ownsRow w.heap.size 85 2 sv acc.length (spanCells acc) := own_only HS.out g5 hcs (by decide)
          have x2 : w4.cell? ⟨w1.heap.size, 2, none⟩ = some sv := by rw [Lib.cell_of_heap hX4]; rfl
          have hB4 : w.heap.size ≤ w4.heap.size := (only_trans HG.out g5).size
          have hX1 : w1.heap.size < w4.heap.size := (Array.getElem?_eq_some_iff.1 hX4).1
          have HX4 := Lib.hid hX4
          have HZ4 := Lib.hid hZ4
          have HR4 := Lib.hid R4
          have HG4 : Hid (w.grownBy w4 (some r)) := only_trans HG.out g5
          clear g4 g5 hX4 hZ4 R4 hcs
          go_wp2_with (at_builtin; go_loud (refine wpList_append_own _ rfl _ _ 79 rfl w.heap.size 85 i0 (.agg #[.int .i32 0, .int .i32 0]) 2 8 Tryd.underlying79 hi hz0 hz1 hz2 rfl (by decide) _ _ _ rfl ((hS4.alloc _).alloc _) ⟨w4.heap.size + 1, 0, none⟩ 1 1 [.int .i32 s.1, .int .i32 s.2] rfl rfl (newsAt _ _ [.int .i32 s.1, .int .i32 s.2] _ (by simp)) (ones .i32 [_, _]) (by unfold maxLen; omega) (by omega) (by simp; omega) ?_))
          intro v' w5 hown' hgrow hne
          have hS5 := (hS4.alloc (.cells #[.int .i32 s.1, .int .i32 s.2] 85)).alloc (.cells #[.int .i32 s.1, .int .i32 s.2] 85)
          have hX5 := cells_grown hS5 hgrow (cells_alloc (cells_alloc HX4.out _) _) (by decide)
          have hZ5 := cells_grown hS5 hgrow (cells_alloc (cells_alloc HZ4.out _) _) (by decide)
          have hR5 := ((HR4.out.alloc _).alloc _).grown hS5 (by decide) hgrow
          have hG5 : w.grownBy w5 (some r) := by
            refine ⟨hgrow.os.trans HG4.out.os, hgrow.tape.trans HG4.out.tape, hgrow.output.trans HG4.out.output, Nat.le_trans HG4.out.size (Nat.le_trans (by simp; omega) hgrow.size), fun i hi hne2 => ?_⟩
            rw [hgrow.block i (by simp; omega) (fun e2 => by have := (hS4.lt i e2.symm).1; omega), Below.heap_alloc _ _ _ (by simp; omega), Below.heap_alloc _ _ _ (by omega)]
            exact HG4.out.block i hi hne2
          have y2 : w5.cell? ⟨w1.heap.size, 2, none⟩ = some sv := by rw [Lib.cell_of_heap hX5]; rfl
          have fy : w5.frozen? ⟨w1.heap.size, 2, none⟩ = false := Lib.frozen_of_heap hX5 2
          have hX6 := cells_set hX5 (j := 2) v'
          have hR6 := hR5.other hX5 (by decide) 2 v'
          have hS6 : (w5.setCell ⟨w1.heap.size, 2, none⟩ v').ownsRow w.heap.size 85 2 v' (acc ++ [s]).length (spanCells (acc ++ [s])) := by
            have := own_setCell hown' hX5 (by decide) 2 v'
            rw [spanCells_snoc]; simpa using this
          have hZ6 : (w5.setCell ⟨w1.heap.size, 2, none⟩ v').heap[w.heap.size]? = some (.cells #[.bool false, .bool false, .slice none 0 0] 81 (0, 0)) := by
            rw [Below.heap_setCell _ _ _ _ (by show w.heap.size ≠ w1.heap.size; omega)]; exact hZ5
          have hG6 := only_setCell (p := ⟨w1.heap.size, 2, none⟩) hG5 (.inr (by show w.heap.size ≤ w1.heap.size; omega)) v'
          obtain ⟨va, vc, hv'⟩ := slice_of_own hown'
          have HP : Hid (∃ (q : Nat) (acc : List (Int × Int)) (sv : Value), q ≤ L.length ∧ acc.length ≤ q ∧ L.length + 1 - q ≤ g ∧ classGo L g q acc = classGo L (L.length + 1) k0 [] ∧ Rd (w5.setCell ⟨w1.heap.size, 2, none⟩ v') r L PL q ∧
              (w5.setCell ⟨w1.heap.size, 2, none⟩ v').heap[w1.heap.size]? = some (.cells #[.bool false, .bool nb, sv] 81 (0, 0)) ∧ SpansAt (w5.setCell ⟨w1.heap.size, 2, none⟩ v') w.heap.size sv acc ∧
              (w5.setCell ⟨w1.heap.size, 2, none⟩ v').heap[w.heap.size]? = some (.cells #[.bool false, .bool false, .slice none 0 0] 81 (0, 0)) ∧ w.grownBy (w5.setCell ⟨w1.heap.size, 2, none⟩ v') (some r) ∧ (acc = [] → sv = .slice none 0 0)) :=
            ⟨q', acc ++ [s], v', hql.2, by simp; omega, by omega, by rw [← HE.out]; exact HX.out, hR6, hX6, hS6, hZ6, hG6, fun e => by simp at e⟩
          clear hS5 hX5 hZ5 hR5 hG5 hX6 hR6 hS6 hZ6 hG6 hown' hgrow hne hS4 HR4 HX4 HZ4 HG4
          subst hv'
          go_wp2
          go_roundg g
          case measure => omega
          case rel => exact HP.out
    · have hC : classGo L gk q acc = none := by cases gk <;> simp [classGo, hlt]
      have HE : Hid (classF L k = none) := by
        show _ = _
        unfold classF; rw [← HK0.out, ← HX.out, hC]
      rw [HE.out]
      have hlt4 : w.heap.size < wr.heap.size := (Array.getElem?_eq_some_iff.1 HZZ.out).1
      clear hC
      go_wp2_with fail
      refine (more_any r L PL q _ HRr.out).mono ?_
      rw [decide_eq_false hlt]
      rintro e w2 ⟨rfl, q2⟩
      obtain ⟨n2, rfl⟩ := q2
      have hZ5 : (wr.drewN n2).heap[w.heap.size]? = some (.cells #[.bool false, .bool false, .slice none 0 0] 81 (0, 0)) := HZZ.out
      have G5 : Hid (w.grownBy (wr.drewN n2) (some r)) := only_drewN HG.out n2
      generalize wr.drewN n2 = w4 at *
      have z0 : w4.cell? ⟨w.heap.size, 0, none⟩ = some (.bool false) := by rw [Lib.cell_of_heap hZ5]; rfl
      have z1 : w4.cell? ⟨w.heap.size, 1, none⟩ = some (.bool false) := by rw [Lib.cell_of_heap hZ5]; rfl
      have z2 : w4.cell? ⟨w.heap.size, 2, none⟩ = some (.slice none 0 0) := by rw [Lib.cell_of_heap hZ5]; rfl
      have f0 : w4.frozen? ⟨w.heap.size, 0, none⟩ = false := Lib.frozen_of_heap hZ5 0
      have f1 : w4.frozen? ⟨w.heap.size, 1, none⟩ = false := Lib.frozen_of_heap hZ5 1
      have f2 : w4.frozen? ⟨w.heap.size, 2, none⟩ = false := Lib.frozen_of_heap hZ5 2
      have D := set3_cells hZ5 rfl (.bool false) (.bool false) (.slice none 0 0)
      clear hZ5
      go_wp2
      refine bodyPost_ret (v := .tuple #[.agg #[.bool false, .bool false, .slice none 0 0], .bool false]) ?_ rfl ?_
      · unfold set3 at D
        simp [results, Tryd.results50, go_sem, D.1, D.2.1, D.2.2]
      · show ClassPost r L PL w (classF L k) _ (set3 w4 w.heap.size (.bool false) (.bool false) (.slice none 0 0))
        rw [HE.out]
        exact ⟨false, rfl, only_set3 G5.out (Nat.le_refl _) _ _ _⟩
end Go.Proofs.YthkkphfnfggpaaaDoor
