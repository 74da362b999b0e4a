/- Lists that are written over, cell by cell; and what BagOwn holds at once. -/
import Derived.Test.YtheldpdckgoniaaAll
import Derived.Test.YtheldpdckgoniaaTake
import Derived.Test.YtheldpdckgoniaaLeave
namespace Go.Proofs.Ytheldpdckgoniaa
open Go.RowKit

/-- a row of cells in one block, all of which may be written -/
def Wr (g off tot : Nat) (w : World) : Prop := ∃ cur t, w.heap[g]? = some (.cells cur t (0, 0)) ∧ off + tot ≤ cur.size
theorem Wr.cell {g off tot j : Nat} {w : World} (h : Wr g off tot w) (hj : j < tot) : ∃ u, w.cell? ⟨g, off + j, none⟩ = some u := by
  obtain ⟨cur, t, hg, hs⟩ := h
  exact ⟨_, by rw [Lib.cell_of_heap hg]; exact Array.getElem?_eq_getElem (by omega)⟩
theorem Wr.froz {g off tot : Nat} {w : World} (h : Wr g off tot w) (j : Nat) : w.frozen? ⟨g, j, none⟩ = false := by
  obtain ⟨cur, t, hg, _⟩ := h
  exact Lib.frozen_of_heap hg j
theorem Wr.set {g off tot i : Nat} {w : World} (h : Wr g off tot w) (u : Value) : Wr g off tot (w.setCell ⟨g, i, none⟩ u) := by
  obtain ⟨cur, t, hg, hs⟩ := h
  exact ⟨_, _, heap_set hg, by simpa using hs⟩
/-- where a list's cells lie, if it has any -/
def Lies (a : Option Addr) (n : Nat) (j : Nat) : Prop := 0 < n ∧ ∃ off, a = some ⟨j, off, none⟩
def WrA (a : Option Addr) (n size : Nat) (w : World) : Prop := 0 < n → ∃ g off, a = some ⟨g, off, none⟩ ∧ Wr g off (n * size) w
theorem Run.wrA {B : Nat → Prop} {w : World} {a : Option Addr} {n c size : Nat} {cells : List Value} (h : Run B w (.slice a n c) n cells) (hB : ∀ k, B k → Soft w k) (hl : cells.length = n * size) (hsz : 0 < size) :
    WrA a n size w ∧ ∀ j, Lies a n j → B j := by
  obtain ⟨a', c', e, h1, h2, h3⟩ := h
  cases e
  rcases h3 with rfl | ⟨b, off, rfl, hb, hlt, hc⟩
  · exact ⟨fun h => absurd h (Nat.lt_irrefl _), fun j hj => absurd hj.1 (Nat.lt_irrefl _)⟩
  · refine ⟨fun hn => ⟨b, off, rfl, ?_⟩, fun j hj => ?_⟩
    · obtain ⟨cur, t, hg⟩ := hB b hb
      refine ⟨cur, t, hg, ?_⟩
      have hp : 0 < n * size := Nat.mul_pos hn hsz
      have hj : n * size - 1 < cells.length := by omega
      have := hc (n * size - 1) _ (List.getElem?_eq_getElem hj)
      rw [Lib.cell_of_heap hg] at this
      have := (Array.getElem?_eq_some_iff.1 this).1
      omega
    · obtain ⟨_, off', e⟩ := hj
      cases e
      exact hb
theorem one_msg {w : World} {B : Nat → Prop} {m : Msg} {lv ev : Value} (hB : B w.heap.size) (h : LI B w m lv ev) : MsgsIn B (w.alloc (.cells (m.arr lv ev) 38)) (.slice (some ⟨w.heap.size, 0, none⟩) 1 1) [(m, lv, ev)] := by
  refine ⟨⟨_, 1, rfl, Nat.le_refl _, (fun e => by cases e), .inr ⟨w.heap.size, 0, rfl, hB, by simp, fun j u hu => ?_⟩⟩, fun y hy => ?_⟩
  · have e : rowC [(m, lv, ev)] = (m.arr lv ev).toList := rfl
    rw [e] at hu
    rw [Lib.cell_of_heap (heap_alloc_new w _), Nat.zero_add, ← Array.getElem?_toList]
    exact hu
  · have : y = (m, lv, ev) := by simpa using hy
    subst this
    exact h.below ((Below.refl _ _).alloc (Nat.le_refl _) _)
/-- what the law holds between its steps -/
structure Own (w0 : World) (m : Msg) (x : Int) (lv ev : Value) (bb : Nat) (S : Nat → Prop) (ms : List Msg) (w : World) : Prop where
  bel : Below w0.heap.size w0 w
  box : w.heap[w0.heap.size]? = some (.cells (m.arr lv ev) 38 (0, 0))
  bx : w.heap[w0.heap.size + 1]? = some (.cells #[.int .i64 x] 3 (0, 0))
  li : LI (fun k => k < w0.heap.size) w m lv ev
  low : w0.heap.size + 2 ≤ bb
  sb : ∀ k, S k → bb ≤ k
  bag : BagAt BagT S w bb 9 ms
theorem Own.size {w0 : World} {m : Msg} {x : Int} {lv ev : Value} {bb : Nat} {S : Nat → Prop} {ms : List Msg} {w : World} (h : Own w0 m x lv ev bb S ms w) : w0.heap.size + 2 ≤ w.heap.size := by
  have := (Array.getElem?_eq_some_iff.1 h.bx).1
  omega
theorem Own.c {w0 : World} {m : Msg} {x : Int} {lv ev : Value} {bb : Nat} {S : Nat → Prop} {ms : List Msg} {w : World} (h : Own w0 m x lv ev bb S ms w) : w.cell? ⟨w0.heap.size + 1, 0, none⟩ = some (.int .i64 x) := by rw [Lib.cell_of_heap h.bx]; rfl
theorem Own.step {w0 : World} {m : Msg} {x : Int} {lv ev : Value} {bb : Nat} {S S' : Nat → Prop} {ms ms' : List Msg} {w w' : World} {T : Nat → Prop} (h : Own w0 m x lv ev bb S ms w) (hk : Kept T w w') (hT : ∀ k, T k → w0.heap.size + 2 ≤ k) (hS : ∀ k, S' k → bb ≤ k) (hb : BagAt BagT S' w' bb 9 ms') : Own w0 m x lv ev bb S' ms' w' := by
  have hsz := h.size
  exact ⟨h.bel.trans (hk.below h.bel.size (fun j hj => by have := hT j hj; omega)), (hk.block _ (by omega) (fun e => by have := hT _ e; omega)).trans h.box, (hk.block _ (by omega) (fun e => by have := hT _ e; omega)).trans h.bx,
    h.li.keep hk.size (fun g hg hl => hk.block g hl (fun e => by have := hT _ e; omega)), h.low, hS, hb⟩
/-- written elsewhere -/
theorem Own.kept {w0 : World} {m : Msg} {x : Int} {lv ev : Value} {bb : Nat} {S : Nat → Prop} {ms : List Msg} {w w' : World} {T : Nat → Prop} (h : Own w0 m x lv ev bb S ms w) (hk : Kept T w w') (hT : ∀ k, T k → w0.heap.size + 2 ≤ k) (hn : ∀ k, k < w.heap.size → S k → ¬ T k) : Own w0 m x lv ev bb S ms w' :=
  h.step hk hT h.sb (h.bag.other hk hn)
theorem AtSoft.one {ms : List Msg} {i : Int} {lo hi : Nat} {e : Ending} {w : World} {m : Msg} (h : AtSoft ms i lo hi e w) (hm : getI ms i = some m) :
    ∃ la lc ea ec, e = .returned (.tuple #[m.agg (.slice la m.l.length lc) (.slice ea m.es.length ec), .bool true]) ∧ LI (fun k => lo ≤ k ∧ k < hi ∧ Soft w k) w m (.slice la m.l.length lc) (.slice ea m.es.length ec) := by
  unfold AtSoft at h
  rw [hm] at h
  exact h
/-- both lists of a message may be written -/
theorem LI.wrA {B : Nat → Prop} {w : World} {m : Msg} {la ea : Option Addr} {lc ec : Nat} (h : LI B w m (.slice la m.l.length lc) (.slice ea m.es.length ec)) (hB : ∀ k, B k → Soft w k) :
    WrA la m.l.length 1 w ∧ WrA ea m.es.length 2 w ∧ (∀ j, Lies la m.l.length j → B j) ∧ ∀ j, Lies ea m.es.length j → B j := by
  obtain ⟨h1, h2⟩ := h.1.wrA (size := 1) hB (by simp [intsC]) (by decide)
  obtain ⟨h3, h4⟩ := h.2.wrA (size := 2) hB (entC_len m.es) (by decide)
  exact ⟨h1, h3, h2, h4⟩
theorem WrA.keep {a : Option Addr} {n size : Nat} {w w' : World} (h : WrA a n size w) (hk : ∀ j, Lies a n j → j < w.heap.size → w'.heap[j]? = w.heap[j]?) : WrA a n size w' := fun hn => by
  obtain ⟨g, off, e, cur, t, hg, hs⟩ := h hn
  exact ⟨g, off, e, cur, t, (hk g ⟨hn, off, e⟩ (Array.getElem?_eq_some_iff.1 hg).1).trans hg, hs⟩
/-- .. whatever is written elsewhere, or here -/
theorem WrA.setAny {a : Option Addr} {n size : Nat} {w : World} (h : WrA a n size w) (g i : Nat) (u : Value) : WrA a n size (w.setCell ⟨g, i, none⟩ u) := fun hn => by
  obtain ⟨g', off, e, hw⟩ := h hn
  refine ⟨g', off, e, ?_⟩
  by_cases hg : g' = g
  · subst hg; exact hw.set u
  · obtain ⟨cur, t, hh, hs⟩ := hw
    exact ⟨cur, t, (Below.heap_setCell _ _ _ _ (fun e => hg e)).trans hh, hs⟩
theorem WrA.keepC {a : Option Addr} {n size : Nat} {w w' : World} (h : WrA a n size w) (hk : KeepC w w') : WrA a n size w' := fun hn => by
  obtain ⟨g, off, e, cur, t, hg, hs⟩ := h hn
  exact ⟨g, off, e, cur, t, hk.2 g _ hg rfl, hs⟩
/-- a round's box, whose list may be written -/
def BoxS (base : Nat) (xs : List X) (k : Nat) (v : Value) (bm : Nat) (W : World) : Prop :=
  ∃ x la lc ea ec, xs[k]? = some x ∧ v = x.1.agg (.slice la x.1.l.length lc) (.slice ea x.1.es.length ec) ∧ W.heap[bm]? = some (msgO x.1 (.slice la x.1.l.length lc) (.slice ea x.1.es.length ec)) ∧ base ≤ bm ∧ WrA la x.1.l.length 1 W ∧ ∀ j, Lies la x.1.l.length j → base ≤ j ∧ j < bm
theorem BoxS.own {base : Nat} {xs : List X} {k : Nat} {v : Value} {bm : Nat} {W W' : World} (h : BoxS base xs k v bm W) (hk : KeepC W W') : BoxS base xs k v bm W' := by
  obtain ⟨x, la, lc, ea, ec, h1, h2, h3, h4, h5, h6⟩ := h
  exact ⟨x, la, lc, ea, ec, h1, h2, hk.2 _ _ h3 rfl, h4, h5.keepC hk, h6⟩
theorem boxS_new {base lo : Nat} {xs : List X} {k : Nat} {W W' : World} {y : X} {lb eb : Option Addr} {lc ec : Nat} (hx : xs[k]? = some y)
    (hli : LI (fun j => lo ≤ j ∧ Soft W j) W y.1 (.slice lb y.1.l.length lc) (.slice eb y.1.es.length ec)) (h1 : base ≤ lo) (h2 : lo ≤ W.heap.size) (hal : Below W.heap.size W W')
    (hn : W'.heap[W.heap.size]? = some (msgO y.1 (.slice lb y.1.l.length lc) (.slice eb y.1.es.length ec))) : BoxS base xs k (y.1.agg (.slice lb y.1.l.length lc) (.slice eb y.1.es.length ec)) W.heap.size W' := by
  obtain ⟨hw, hl⟩ := hli.1.wrA (size := 1) (fun k hk => hk.2) (by simp [intsC]) (by decide)
  exact ⟨y, lb, lc, eb, ec, hx, rfl, hn, Nat.le_trans h1 h2, hw.keep (fun j _ hj => hal.block j hj), fun j hj => ⟨Nat.le_trans h1 (hl j hj).1, (hl j hj).2.lt⟩⟩
end Go.Proofs.Ytheldpdckgoniaa
