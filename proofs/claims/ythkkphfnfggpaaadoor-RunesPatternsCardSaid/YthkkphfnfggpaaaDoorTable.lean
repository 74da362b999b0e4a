/- The reference's table: the first parts against the first pieces. -/
import Derived.Test.YthkkphfnfggpaaaDoorStars2
namespace Go.Proofs.YthkkphfnfggpaaaDoor
open Go.RowKit

theorem mt_split : ∀ (P Q : List Prt) (S : List Int), mtB (P ++ Q) S = true → ∃ j, j ≤ S.length ∧ mtB P (S.take j) = true ∧ mtB Q (S.drop j) = true
  | [], Q, S, h => ⟨0, Nat.zero_le _, by simp [mtB], h⟩
  | p :: P, Q, S, h => by
    simp only [List.cons_append, mtB] at h
    by_cases hs : p.star = true
    · rw [if_pos hs, List.any_eq_true] at h
      obtain ⟨i, hi, hm⟩ := h
      rw [List.mem_range] at hi
      obtain ⟨j, hj, h1, h2⟩ := mt_split P Q _ hm
      rw [List.length_drop] at hj
      refine ⟨i + j, by omega, ?_, ?_⟩
      · simp only [mtB]
        rw [if_pos hs, List.any_eq_true]
        refine ⟨i, by rw [List.mem_range, List.length_take]; omega, ?_⟩
        rw [List.drop_take, show i + j - i = j from by omega]; exact h1
      · rw [List.drop_drop] at h2; exact h2
    · rw [if_neg hs] at h
      cases S with
      | nil => cases h
      | cons c S =>
        simp only [Bool.and_eq_true] at h
        obtain ⟨j, hj, h1, h2⟩ := mt_split P Q S h.2
        refine ⟨j + 1, by simp; omega, ?_, ?_⟩
        · rw [List.take_succ_cons]
          simp only [mtB]
          rw [if_neg hs, h.1, h1]; rfl
        · rw [List.drop_succ_cons]; exact h2
theorem mt_none (S : List Int) : mtB [] S = decide (S.length = 0) := by cases S <;> rfl
theorem mt_snoc_star {x : Prt} (hx : x.star = true) (P : List Prt) (S : List Int) (c : Int) : mtB (P ++ [x]) (S ++ [c]) = (mtB P (S ++ [c]) || mtB (P ++ [x]) S) := by
  have one : ∀ U : List Int, mtB [x] U = true := by
    intro U
    simp only [mtB]
    rw [if_pos hx, List.any_eq_true]
    exact ⟨U.length, by rw [List.mem_range]; omega, by simp⟩
  rw [Bool.eq_iff_iff, Bool.or_eq_true]
  constructor
  · intro h
    obtain ⟨j, hj, h1, _⟩ := mt_split P [x] _ h
    rw [List.length_append, List.length_cons, List.length_nil] at hj
    by_cases e : j = S.length + 1
    · left
      rw [List.take_of_length_le (by simp; omega)] at h1; exact h1
    · right
      rw [List.take_append_of_le_length (by omega)] at h1
      have := mt_app P [x] _ (S.drop j) h1 (one _)
      rwa [List.take_append_drop] at this
  · rintro (h | h)
    · have := mt_app P [x] _ [] h (one _)
      rwa [List.append_nil] at this
    · obtain ⟨j, hj, h1, _⟩ := mt_split P [x] _ h
      have := mt_app P [x] _ (S.drop j ++ [c]) h1 (one _)
      rwa [← List.append_assoc, List.take_append_drop] at this
theorem mt_snoc_star_nil {x : Prt} (hx : x.star = true) (P : List Prt) : mtB (P ++ [x]) [] = mtB P [] := by
  rw [Bool.eq_iff_iff]
  constructor
  · intro h
    obtain ⟨j, hj, h1, _⟩ := mt_split P [x] _ h
    simpa using h1
  · intro h
    have := mt_app P [x] [] [] h (by simp only [mtB]; rw [if_pos hx]; rfl)
    simpa using this
theorem mt_snoc_one {x : Prt} (hx : x.star = false) (P : List Prt) (S : List Int) (c : Int) : mtB (P ++ [x]) (S ++ [c]) = (mtB P S && takesB x c) := by
  rw [Bool.eq_iff_iff, Bool.and_eq_true]
  constructor
  · intro h
    obtain ⟨j, hj, h1, h2⟩ := mt_split P [x] _ h
    rw [List.length_append, List.length_cons, List.length_nil] at hj
    simp only [mtB] at h2
    rw [if_neg (by rw [hx]; simp)] at h2
    by_cases e : j = S.length
    · subst e
      rw [List.take_append_of_le_length (Nat.le_refl _), List.take_length] at h1
      rw [List.drop_append_of_le_length (Nat.le_refl _), List.drop_length] at h2
      simp [mtB] at h2
      exact ⟨h1, h2⟩
    · exfalso
      by_cases e2 : j = S.length + 1
      · rw [List.drop_eq_nil_of_le (by simp; omega)] at h2; cases h2
      · rw [List.drop_append_of_le_length (by omega), List.drop_eq_getElem_cons (by omega)] at h2
        cases hd : S.drop (j + 1) with
        | nil => rw [hd] at h2; simp [mtB] at h2
        | cons y T => rw [hd] at h2; simp [mtB] at h2
  · rintro ⟨h1, h2⟩
    refine mt_app P [x] S [c] h1 ?_
    simp only [mtB]
    rw [if_neg (by rw [hx]; simp), h2]; rfl
theorem mt_snoc_one_nil {x : Prt} (hx : x.star = false) (P : List Prt) : mtB (P ++ [x]) [] = false := by
  rw [Bool.eq_false_iff]
  intro h
  obtain ⟨j, hj, _, h2⟩ := mt_split P [x] _ h
  simp only [mtB] at h2
  rw [if_neg (by rw [hx]; simp)] at h2
  simp at h2
/-- the table's cell: the first k parts against the first i pieces -/
def cellB (l : List Prt) (s : List Int) (k i : Nat) : Bool := mtB (l.take k) (s.take i)
theorem cell_zero (l : List Prt) (s : List Int) (i : Nat) (hi : i ≤ s.length) : cellB l s 0 i = decide (i = 0) := by
  unfold cellB; rw [List.take_zero, mt_none, List.length_take]
  rw [decide_eq_decide]; omega
theorem cell_star {l : List Prt} {s : List Int} {k i : Nat} (hk : k < l.length) (hi : i ≤ s.length) (hs : (l.getD k default).star = true) : cellB l s (k + 1) i = (cellB l s k i || (decide (0 < i) && cellB l s (k + 1) (i - 1))) := by
  unfold cellB
  have e : l.getD k default = l[k] := by simp [List.getD, hk]
  rw [e] at hs
  rw [List.take_succ_eq_append_getElem hk]
  cases i with
  | zero => simp only [List.take_zero]; rw [mt_snoc_star_nil hs]; simp
  | succ i =>
    rw [List.take_succ_eq_append_getElem (show i < s.length by omega), mt_snoc_star hs]; simp
theorem cell_one {l : List Prt} {s : List Int} {k i : Nat} (hk : k < l.length) (hi : i ≤ s.length) (hs : (l.getD k default).star = false) : cellB l s (k + 1) i = (decide (0 < i) && (cellB l s k (i - 1) && takesB (l.getD k default) (s.getD (i - 1) 0))) := by
  unfold cellB
  have e : l.getD k default = l[k] := by simp [List.getD, hk]
  rw [e] at hs ⊢
  rw [List.take_succ_eq_append_getElem hk]
  cases i with
  | zero => simp only [List.take_zero]; rw [mt_snoc_one_nil hs]; simp
  | succ i =>
    rw [List.take_succ_eq_append_getElem (show i < s.length by omega), mt_snoc_one hs]
    simp [List.getD, show i < s.length by omega]
theorem cell_all (l : List Prt) (s : List Int) : cellB l s l.length s.length = mtB l s := by
  unfold cellB; rw [List.take_length, List.take_length]
end Go.Proofs.YthkkphfnfggpaaaDoor
