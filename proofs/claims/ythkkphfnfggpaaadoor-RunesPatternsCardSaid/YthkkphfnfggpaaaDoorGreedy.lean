/- What a pattern says, and why going back to the last star alone is enough. Plain. -/
import Derived.Test.YthkkphfnfggpaaaDoorTakes
namespace Go.Proofs.YthkkphfnfggpaaaDoor
open Go.RowKit

/-- all of a text is what the parts say -/
def mtB : List Prt → List Int → Bool
  | [], s => s.isEmpty
  | p :: ps, s => if p.star then (List.range (s.length + 1)).any (fun j => mtB ps (s.drop j)) else
      match s with
      | [] => false
      | c :: s' => takesB p c && mtB ps s'
instance : Inhabited Prt := ⟨⟨false, false, []⟩⟩
section
variable (l : List Prt) (s : List Int)
def T (i j : Nat) : Prop := mtB (l.drop i) (s.drop j) = true
theorem T_star {i j : Nat} (hi : i < l.length) (hs : (l.getD i default).star = true) (hj : j ≤ s.length) : T l s i j ↔ ∃ j2, j ≤ j2 ∧ j2 ≤ s.length ∧ T l s (i + 1) j2 := by
  unfold T
  rw [List.drop_eq_getElem_cons hi]
  have e : l.getD i default = l[i] := by simp [List.getD, hi]
  rw [e] at hs
  simp only [mtB, hs, if_true, List.any_eq_true, List.mem_range, List.drop_drop, List.length_drop]
  constructor
  · rintro ⟨x, hx, h⟩; exact ⟨j + x, by omega, by omega, h⟩
  · rintro ⟨j2, h1, h2, h⟩; exact ⟨j2 - j, by omega, by rw [show j + (j2 - j) = j2 from by omega]; exact h⟩
theorem T_one {i j : Nat} (hi : i < l.length) (hs : (l.getD i default).star = false) (hj : j < s.length) : T l s i j ↔ takesB (l.getD i default) (s.getD j 0) = true ∧ T l s (i + 1) (j + 1) := by
  unfold T
  rw [List.drop_eq_getElem_cons hi, drop_cons hj]
  have e : l.getD i default = l[i] := by simp [List.getD, hi]
  rw [e] at hs ⊢
  simp [mtB, hs]
theorem T_none {i j : Nat} (hi : i < l.length) (hs : (l.getD i default).star = false) (hj : ¬ j < s.length) : ¬ T l s i j := by
  unfold T
  rw [List.drop_eq_getElem_cons hi, List.drop_eq_nil_of_le (show s.length ≤ j by omega)]
  have e : l.getD i default = l[i] := by simp [List.getD, hi]
  rw [e] at hs
  simp [mtB, hs]
theorem T_end {j : Nat} (hj : j ≤ s.length) : T l s l.length j ↔ j = s.length := by
  unfold T
  rw [List.drop_length]
  simp only [mtB, List.isEmpty_iff, List.drop_eq_nil_iff]
  omega
theorem T_seg {a : Nat} : ∀ (m : Nat) {j : Nat}, a + m ≤ l.length → (∀ i, a ≤ i → i < a + m → (l.getD i default).star = false) → j ≤ s.length → T l s a j → j + m ≤ s.length ∧ T l s (a + m) (j + m)
  | 0, j, _, _, hj, h => ⟨hj, h⟩
  | m + 1, j, hm, hns, hj, h => by
    obtain ⟨h1, h2⟩ := T_seg m (by omega) (fun i a b => hns i a (by omega)) hj h
    have hn := hns (a + m) (by omega) (by omega)
    by_cases hj2 : j + m < s.length
    · have := ((T_one l s (by omega) hn hj2).1 h2).2
      exact ⟨by omega, this⟩
    · exact absurd h2 (T_none l s (by omega) hn hj2)

/-- what stands at the head of a round: 'st' is one more than the last star's place -/
def Inv (next at' st fr : Nat) : Prop :=
  next ≤ l.length ∧ at' ≤ s.length ∧ st ≤ next ∧
  ((st = 0 ∧ (mtB l s = true ↔ T l s next at')) ∨
   (0 < st ∧ at' = fr + (next - st) ∧ (l.getD (st - 1) default).star = true ∧ (∀ i, st ≤ i → i < next → (l.getD i default).star = false) ∧
     (mtB l s = true ↔ T l s next at' ∨ ∃ j, fr < j ∧ j ≤ s.length ∧ T l s st j)))
theorem Inv.start : Inv l s 0 0 0 0 := ⟨by omega, by omega, by omega, .inl ⟨rfl, Iff.rfl⟩⟩
/-- a star: from here on it is the last one -/
theorem Inv.star {next at' st fr : Nat} (h : Inv l s next at' st fr) (hn : next < l.length) (hs : (l.getD next default).star = true) : Inv l s (next + 1) at' (next + 1) at' := by
  obtain ⟨h1, h2, h3, h4⟩ := h
  have key : mtB l s = true ↔ T l s next at' := by
    rcases h4 with ⟨_, h⟩ | ⟨h5, h6, h7, h8, h⟩
    · exact h
    · rw [h]
      constructor
      · rintro (h | ⟨j, j1, j2, hj⟩)
        · exact h
        · have := T_seg l s (next - st) (j := j) (by omega) (fun i a b => h8 i a (by omega)) j2 hj
          rw [show st + (next - st) = next from by omega] at this
          obtain ⟨k, k1, k2, k3⟩ := (T_star l s hn hs this.1).1 this.2
          exact (T_star l s hn hs h2).2 ⟨k, by omega, k2, k3⟩
      · exact fun h => .inl h
  refine ⟨by omega, h2, by omega, .inr ⟨by omega, by omega, by simpa using hs, fun i a b => by omega, ?_⟩⟩
  rw [key, T_star l s hn hs h2]
  constructor
  · rintro ⟨j, j1, j2, hj⟩
    by_cases e : j = at'
    · subst e; exact .inl hj
    · exact .inr ⟨j, by omega, j2, hj⟩
  · rintro (h | ⟨j, j1, j2, hj⟩)
    · exact ⟨at', by omega, h2, h⟩
    · exact ⟨j, by omega, j2, hj⟩
theorem Inv.one {next at' st fr : Nat} (h : Inv l s next at' st fr) (hn : next < l.length) (hs : (l.getD next default).star = false) (ha : at' < s.length) (ht : takesB (l.getD next default) (s.getD at' 0) = true) : Inv l s (next + 1) (at' + 1) st fr := by
  obtain ⟨h1, h2, h3, h4⟩ := h
  have e : T l s next at' ↔ T l s (next + 1) (at' + 1) := by rw [T_one l s hn hs ha]; exact ⟨fun h => h.2, fun h => ⟨ht, h⟩⟩
  refine ⟨by omega, by omega, by omega, ?_⟩
  rcases h4 with ⟨h0, h⟩ | ⟨h5, h6, h7, h8, h⟩
  · exact .inl ⟨h0, by rw [h, e]⟩
  · refine .inr ⟨h5, by omega, h7, fun i a b => ?_, by rw [h, e]⟩
    by_cases ei : i = next
    · subst ei; exact hs
    · exact h8 i a (by omega)
/-- no way on from here -/
def Stuck (next at' : Nat) : Prop := next = l.length ∨ (next < l.length ∧ (l.getD next default).star = false ∧ takesB (l.getD next default) (s.getD at' 0) = false)
theorem Stuck.not {next at' : Nat} (h : Stuck l s next at') (ha : at' < s.length) : ¬ T l s next at' := by
  rcases h with rfl | ⟨h1, h2, h3⟩
  · rw [T_end l s (by omega)]; omega
  · rw [T_one l s h1 h2 ha]; exact fun h => by rw [h3] at h; exact absurd h.1 (by decide)
theorem Inv.back {next at' st fr : Nat} (h : Inv l s next at' st fr) (ha : at' < s.length) (hk : Stuck l s next at') (hst : 0 < st) : Inv l s st (fr + 1) st (fr + 1) ∧ fr < s.length := by
  have hno := hk.not l s ha
  obtain ⟨h1, h2, h3, h4⟩ := h
  rcases h4 with ⟨h0, h⟩ | ⟨h5, h6, h7, h8, h⟩
  · omega
  · refine ⟨⟨by omega, by omega, by omega, .inr ⟨h5, by omega, h7, fun i a b => by omega, ?_⟩⟩, by omega⟩
    rw [h]
    constructor
    · rintro (h | ⟨j, j1, j2, hj⟩)
      · exact absurd h hno
      · by_cases e : j = fr + 1
        · subst e; exact .inl hj
        · exact .inr ⟨j, by omega, j2, hj⟩
    · rintro (h | ⟨j, j1, j2, hj⟩)
      · exact .inr ⟨fr + 1, by omega, by omega, h⟩
      · exact .inr ⟨j, by omega, j2, hj⟩
theorem Inv.lost {next at' fr : Nat} (h : Inv l s next at' 0 fr) (ha : at' < s.length) (hk : Stuck l s next at') : mtB l s = false := by
  have hno := hk.not l s ha
  obtain ⟨h1, h2, h3, h4⟩ := h
  rcases h4 with ⟨h0, h⟩ | ⟨h5, _⟩
  · rw [Bool.eq_false_iff]; intro e; exact hno (h.1 e)
  · omega
theorem Inv.last {next at' st fr : Nat} (h : Inv l s next at' st fr) (ha : ¬ at' < s.length) : mtB l s = true ↔ T l s next s.length := by
  obtain ⟨h1, h2, h3, h4⟩ := h
  obtain rfl : at' = s.length := by omega
  rcases h4 with ⟨h0, h⟩ | ⟨h5, h6, h7, h8, h⟩
  · exact h
  · rw [h]
    constructor
    · rintro (h | ⟨j, j1, j2, hj⟩)
      · exact h
      · have := T_seg l s (next - st) (j := j) (by omega) (fun i a b => h8 i a (by omega)) j2 hj
        omega
    · exact fun h => .inl h
/-- the stars at the end -/
theorem T_tail {next : Nat} (hn : next < l.length) : T l s next s.length ↔ (l.getD next default).star = true ∧ T l s (next + 1) s.length := by
  cases hs : (l.getD next default).star
  · simp [T_none l s hn hs (Nat.lt_irrefl _)]
  · rw [T_star l s hn hs (Nat.le_refl _)]
    constructor
    · rintro ⟨j, j1, j2, hj⟩
      obtain rfl : j = s.length := by omega
      exact ⟨rfl, hj⟩
    · rintro ⟨_, h⟩; exact ⟨_, Nat.le_refl _, Nat.le_refl _, h⟩
end
/-- how many rounds are to come -/
def meas (nl ns next st fr : Nat) : Nat := (nl + 1 - st) * ((ns + 2) * (nl + 2)) + (ns + 1 - fr) * (nl + 2) + (nl + 1 - next)
theorem meas_star {nl ns next at' st fr : Nat} (h1 : st ≤ next) (h2 : next < nl) : meas nl ns (next + 1) (next + 1) at' < meas nl ns next st fr := by
  unfold meas
  have a : (nl + 1 - (next + 1) + 1) * ((ns + 2) * (nl + 2)) ≤ (nl + 1 - st) * ((ns + 2) * (nl + 2)) := Nat.mul_le_mul_right _ (by omega)
  have b : (ns + 1 - at') * (nl + 2) ≤ (ns + 1) * (nl + 2) := Nat.mul_le_mul_right _ (by omega)
  have c : (ns + 2) * (nl + 2) = (ns + 1) * (nl + 2) + (nl + 2) := by rw [← Nat.succ_mul]
  rw [Nat.succ_mul] at a
  omega
theorem meas_one {nl ns next st fr : Nat} (h2 : next < nl) : meas nl ns (next + 1) st fr < meas nl ns next st fr := by
  unfold meas; omega
theorem meas_back {nl ns next st fr : Nat} (h1 : st ≤ nl) (h2 : fr < ns) (h3 : next ≤ nl) : meas nl ns st st (fr + 1) < meas nl ns next st fr := by
  unfold meas
  have c : (ns + 1 - fr) * (nl + 2) = (ns + 1 - (fr + 1)) * (nl + 2) + (nl + 2) := by
    rw [show ns + 1 - fr = (ns + 1 - (fr + 1)) + 1 from by omega, Nat.succ_mul]
  omega
end Go.Proofs.YthkkphfnfggpaaaDoor
