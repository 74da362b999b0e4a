/- Rows among the arguments: elements of several cells each. -/
import Derived.Test.YtheldpdckgoniaaActs
import Derived.Deep.Slices
namespace Go.Proofs.Ytheldpdckgoniaa
open Go.RowKit
open Go.Deep (choose_lt)

theorem flat_get {α : Type} (sz : Nat) (cell : α → List Value) (hc : ∀ x, (cell x).length = sz) : ∀ (l : List α) (j : Nat) (u : Value), (l.flatMap cell)[j]? = some u → ∃ (i r : Nat) (x : α), l[i]? = some x ∧ j = i * sz + r ∧ (cell x)[r]? = some u
  | [], j, u, h => by simp at h
  | p :: t, j, u, h => by
    simp only [List.flatMap_cons] at h
    by_cases hj : j < sz
    · rw [List.getElem?_append_left (by rw [hc]; exact hj)] at h
      exact ⟨0, j, p, rfl, by omega, h⟩
    · rw [List.getElem?_append_right (by rw [hc]; omega), hc] at h
      obtain ⟨i, r, x, h1, h2, h3⟩ := flat_get sz cell hc t (j - sz) u h
      exact ⟨i + 1, r, x, by simpa using h1, by rw [Nat.add_mul]; omega, h3⟩
theorem run_rows {α : Type} [Inhabited α] {W : World} (sz : Nat) (hsz : 0 < sz) (cell : α → List Value) (hc : ∀ x, (cell x).length = sz) (Q : α → Prop) {a : Addr} {len cap : Nat} (hl : len ≤ cap)
    (h : ∀ i, i < len → ∃ x, (∀ j u, (cell x)[j]? = some u → W.cell? (a.add (i * sz + j)) = some u) ∧ Q x) : ∃ l : List α, len = l.length ∧ Run (fun k => k < W.heap.size) W (.slice (some a) len cap) len (l.flatMap cell) ∧ ∀ x ∈ l, Q x := by
  obtain ⟨X, hX⟩ := choose_lt h
  refine ⟨(List.range len).map X, by simp, ⟨some a, cap, rfl, hl, (fun e => by cases e), ?_⟩, fun x hx => ?_⟩
  · by_cases h0 : len = 0
    · left; subst h0; rfl
    · right
      obtain ⟨b, off, spot⟩ := a
      obtain ⟨u0, hu0⟩ : ∃ u, (cell (X 0))[0]? = some u := ⟨_, List.getElem?_eq_getElem (by rw [hc]; exact hsz)⟩
      have h00 := (hX 0 (by omega)).1 0 u0 hu0
      have hspot : spot = none := by simpa [Addr.add] using World.cell?_spot h00
      subst hspot
      have hadd : ∀ j, (⟨b, off, none⟩ : Addr).add j = ⟨b, off + j, none⟩ := fun j => by
        unfold Addr.add
        by_cases h : j = 0
        · subst h; simp
        · simp [h]
      have hlt : b < W.heap.size := by
        rw [hadd] at h00
        exact World.block_lt_of_cell? W _ h00
      refine ⟨b, off, rfl, hlt, hlt, fun j u hu => ?_⟩
      obtain ⟨i, r, x, h1, rfl, h3⟩ := flat_get sz cell hc _ j u hu
      have hi : i < len := by have := (List.getElem?_eq_some_iff.1 h1).1; simpa using this
      have hxe : x = X i := by
        rw [List.getElem?_map, List.getElem?_range hi] at h1
        exact (Option.some.inj h1).symm
      subst hxe
      have := (hX i hi).1 r u h3
      rw [hadd] at this
      exact this
  · obtain ⟨i, hi, rfl⟩ := List.mem_map.1 hx
    exact (hX i (List.mem_range.1 hi)).2
end Go.Proofs.Ytheldpdckgoniaa
