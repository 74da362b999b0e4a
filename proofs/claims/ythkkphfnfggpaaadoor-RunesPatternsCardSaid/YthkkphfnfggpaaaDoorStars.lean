/- Patterns put together. -/
import Derived.Test.YthkkphfnfggpaaaDoorLawPlain
import Derived.Test.YthkkphfnfggpaaaDoorBack
namespace Go.Proofs.YthkkphfnfggpaaaDoor
open Go.RowKit

section
variable (M L N : List Int)
theorem ext_len : (M ++ L ++ N).length = M.length + L.length + N.length := by simp; omega
theorem ext_get {i : Nat} (h : i < L.length) : (M ++ L ++ N).getD (M.length + i) 0 = L.getD i 0 := by
  rw [List.getD, List.getD, List.append_assoc, List.getElem?_append_right (by omega), show M.length + i - M.length = i from by omega, List.getElem?_append_left h]
theorem point_ext {k k' : Nat} {c : Int} (h : pointF L k = some (c, k')) : pointF (M ++ L ++ N) (M.length + k) = some (c, M.length + k') := by
  have hl := ext_len M L N
  unfold pointF at h ⊢
  by_cases h1 : k < L.length
  · rw [if_pos h1] at h
    rw [if_pos (by omega), ext_get M L N h1]
    by_cases h2 : L.getD k 0 = 92
    · rw [if_pos h2] at h ⊢
      by_cases h3 : k + 1 < L.length
      · rw [if_pos h3] at h
        rw [if_pos (by omega), Nat.add_assoc, ext_get M L N h3]
        simp only [Option.some.injEq, Prod.mk.injEq] at h ⊢
        omega
      · rw [if_neg h3] at h; cases h
    · rw [if_neg h2] at h ⊢
      simp only [Option.some.injEq, Prod.mk.injEq] at h ⊢
      omega
  · rw [if_neg h1] at h; cases h
theorem item_ext {k k' : Nat} {s : Int × Int} (h : itemF L k = some (s, k')) (h1 : k' < L.length) (h2 : k' + 1 = L.length → L.getD k' 0 = 93) : itemF (M ++ L ++ N) (M.length + k) = some (s, M.length + k') := by
  have hl := ext_len M L N
  unfold itemF at h ⊢
  cases hp : pointF L k with
  | none => rw [hp] at h; cases h
  | some q =>
    obtain ⟨low, ka⟩ := q
    rw [hp] at h
    rw [point_ext M L N hp]
    simp only at h ⊢
    by_cases hr : rangesB L ka = true
    · have hr2 : rangesB (M ++ L ++ N) (M.length + ka) = true := by
        unfold rangesB at hr ⊢
        rw [decide_eq_true_iff] at hr ⊢
        rw [ext_get M L N (by omega), Nat.add_assoc, ext_get M L N hr.1]
        exact ⟨by omega, hr.2⟩
      rw [if_pos hr] at h
      rw [if_pos hr2, Nat.add_assoc]
      cases hq : pointF L (ka + 1) with
      | none => rw [hq] at h; cases h
      | some q =>
        obtain ⟨high, kb⟩ := q
        rw [hq] at h
        rw [point_ext M L N hq]
        simp only at h ⊢
        split at h
        · rename_i hle
          rw [if_pos hle]
          simp only [Option.some.injEq, Prod.mk.injEq] at h ⊢
          exact ⟨h.1, by omega⟩
        · cases h
    · rw [if_neg hr] at h
      simp only [Option.some.injEq, Prod.mk.injEq] at h
      obtain ⟨rfl, rfl⟩ := h
      have hr2 : ¬ rangesB (M ++ L ++ N) (M.length + ka) = true := by
        unfold rangesB at hr ⊢
        rw [decide_eq_true_iff] at hr ⊢
        rw [ext_get M L N h1]
        by_cases h3 : ka + 1 < L.length
        · rw [Nat.add_assoc, ext_get M L N h3]
          exact fun h => hr ⟨h3, h.2⟩
        · have := h2 (by omega)
          intro h; omega
      rw [if_neg hr2]
theorem class_last {f k : Nat} {acc : List (Int × Int)} {r : List (Int × Int) × Nat} (h : classGo L f k acc = some r) (hk : k + 1 = L.length) : L.getD k 0 = 93 := by
  obtain ⟨s, k'⟩ := r
  cases f with
  | zero => cases h
  | succ f =>
    simp only [classGo] at h
    rw [if_pos (by omega)] at h
    by_cases h9 : L.getD k 0 = 93
    · exact h9
    · rw [if_neg h9] at h
      split at h
      · cases h
      · rename_i s1 k1 h1
        have := item_lt h1
        have := class_lt h
        omega
theorem class_ext : ∀ f f' k acc s k', f ≤ f' → classGo L f k acc = some (s, k') → classGo (M ++ L ++ N) f' (M.length + k) acc = some (s, M.length + k')
  | 0, _, _, _, _, _, _, h => by cases h
  | f + 1, 0, _, _, _, _, hf, _ => by omega
  | f + 1, f' + 1, k, acc, s, k', hf, h => by
    have hl := ext_len M L N
    simp only [classGo] at h ⊢
    by_cases h1 : k < L.length
    · rw [if_pos h1] at h
      rw [if_pos (by omega), ext_get M L N h1]
      by_cases h9 : L.getD k 0 = 93
      · rw [if_pos h9] at h ⊢
        by_cases ha : acc = []
        · rw [if_pos ha] at h; cases h
        · rw [if_neg ha] at h ⊢
          simp only [Option.some.injEq, Prod.mk.injEq] at h ⊢
          exact ⟨h.1, by omega⟩
      · rw [if_neg h9] at h ⊢
        cases hi : itemF L k with
        | none => rw [hi] at h; cases h
        | some q =>
          obtain ⟨s1, k1⟩ := q
          rw [hi] at h
          simp only at h
          have hlt := class_lt h
          rw [item_ext M L N hi (by omega) (fun e => class_last L h e)]
          exact class_ext f f' k1 _ s k' (by omega) h
    · rw [if_neg h1] at h; cases h
theorem classF_ext {k k' : Nat} {p : Prt} (h : classF L k = some (p, k')) : classF (M ++ L ++ N) (M.length + k) = some (p, M.length + k') := by
  have hl := ext_len M L N
  have hlt := classF_lt h
  unfold classF at h ⊢
  have hn : negB (M ++ L ++ N) (M.length + k) = negB L k := by
    unfold negB
    rw [ext_get M L N (by omega)]
    rw [decide_eq_decide]
    exact ⟨fun h => ⟨by omega, h.2⟩, fun h => ⟨by omega, h.2⟩⟩
  rw [hn]
  cases hc : classGo L (L.length + 1) (if negB L k = true then k + 1 else k) [] with
  | none => rw [hc] at h; cases h
  | some q =>
    obtain ⟨s, k1⟩ := q
    rw [hc] at h
    have := class_ext M L N (L.length + 1) ((M ++ L ++ N).length + 1) _ [] s k1 (by omega) hc
    rw [show (if negB L k = true then M.length + k + 1 else M.length + k) = M.length + (if negB L k = true then k + 1 else k) from by split <;> omega, this]
    simp only [Option.some.injEq, Prod.mk.injEq] at h ⊢
    exact ⟨h.1, by omega⟩
/-- what parses, parses so within a longer text -/
theorem parse_ext : ∀ f k acc ps, k ≤ L.length → L.length - k < f → parseGo L f k acc = .inl ps →
    ∃ qs, ps = acc ++ qs ∧ ∀ f' acc', N.length + (L.length - k) < f' → ∃ f2, N.length < f2 ∧ parseGo (M ++ L ++ N) f' (M.length + k) acc' = parseGo (M ++ L ++ N) f2 (M.length + L.length) (acc' ++ qs)
  | 0, _, _, _, _, hf, _ => by omega
  | f + 1, k, acc, ps, hk, hf, h => by
    have hl := ext_len M L N
    have step : ∀ (p : Prt) (k1 : Nat), k < k1 → k1 ≤ L.length → k < L.length → parseGo L f k1 (acc ++ [p]) = .inl ps →
        (∀ f' acc', parseGo (M ++ L ++ N) (f' + 1) (M.length + k) acc' = parseGo (M ++ L ++ N) f' (M.length + k1) (acc' ++ [p])) →
        ∃ qs, ps = acc ++ qs ∧ ∀ f' acc', N.length + (L.length - k) < f' → ∃ f2, N.length < f2 ∧ parseGo (M ++ L ++ N) f' (M.length + k) acc' = parseGo (M ++ L ++ N) f2 (M.length + L.length) (acc' ++ qs) := by
      intro p k1 hk1 hk2 hk3 hp hs
      obtain ⟨qs, e, H⟩ := parse_ext f k1 (acc ++ [p]) ps hk2 (by omega) hp
      refine ⟨p :: qs, by rw [e]; simp, fun f' acc' hf' => ?_⟩
      obtain ⟨f', rfl⟩ : ∃ g, f' = g + 1 := ⟨f' - 1, by omega⟩
      obtain ⟨f2, h2, e2⟩ := H f' (acc' ++ [p]) (by omega)
      exact ⟨f2, h2, by rw [hs, e2]; simp⟩
    by_cases hlt : k < L.length
    · have hlt' : M.length + k < (M ++ L ++ N).length := by omega
      have hg := ext_get M L N hlt
      simp only [parseGo] at h
      rw [if_pos hlt] at h
      by_cases h1 : L.getD k 0 = 42
      · rw [if_pos h1] at h
        exact step starP (k + 1) (by omega) (by omega) hlt h (fun f' acc' => by rw [parseGo, if_pos hlt', hg, if_pos h1, Nat.add_assoc])
      rw [if_neg h1] at h
      by_cases h2 : L.getD k 0 = 63
      · rw [if_pos h2] at h
        exact step anyP (k + 1) (by omega) (by omega) hlt h (fun f' acc' => by rw [parseGo, if_pos hlt', hg, if_neg h1, if_pos h2, Nat.add_assoc])
      rw [if_neg h2] at h
      by_cases h3 : L.getD k 0 = 91
      · rw [if_pos h3] at h
        cases hc : classF L (k + 1) with
        | none => rw [hc] at h; cases h
        | some q =>
          obtain ⟨p, k1⟩ := q
          rw [hc] at h
          have hcl := classF_lt hc
          have hce := classF_ext M L N hc
          exact step p k1 (by omega) (by omega) hlt h (fun f' acc' => by rw [parseGo, if_pos hlt', hg, if_neg h1, if_neg h2, if_pos h3, Nat.add_assoc, hce])
      rw [if_neg h3] at h
      by_cases h4 : L.getD k 0 = 92
      · rw [if_pos h4] at h
        by_cases h5 : k + 1 < L.length
        · rw [if_pos h5] at h
          exact step _ (k + 2) (by omega) (by omega) hlt h (fun f' acc' => by rw [parseGo, if_pos hlt', hg, if_neg h1, if_neg h2, if_neg h3, if_pos h4, Nat.add_assoc, ext_get M L N h5, if_pos (by omega), Nat.add_assoc])
        · rw [if_neg h5] at h; cases h
      · rw [if_neg h4] at h
        exact step _ (k + 1) (by omega) (by omega) hlt h (fun f' acc' => by rw [parseGo, if_pos hlt', hg, if_neg h1, if_neg h2, if_neg h3, if_neg h4, Nat.add_assoc])
    · simp only [parseGo] at h
      rw [if_neg hlt] at h
      obtain rfl : k = L.length := by omega
      refine ⟨[], by simpa using h.symm, fun f' acc' hf' => ⟨f', by omega, by simp⟩⟩
end
def starsOf (b : Bool) : List Int := if b then [42] else []
def starPs (b : Bool) : List Prt := if b then [starP] else []
theorem parse_wrap (L : List Int) (ps : List Prt) (h : parseGo L (L.length + 1) 0 [] = .inl ps) (x y : Bool) : parseGo (starsOf x ++ L ++ starsOf y) ((starsOf x ++ L ++ starsOf y).length + 1) 0 [] = .inl (starPs x ++ ps ++ starPs y) := by
  obtain ⟨qs, e, H⟩ := parse_ext (starsOf x) L (starsOf y) (L.length + 1) 0 [] ps (Nat.zero_le _) (by omega) h
  rw [List.nil_append] at e
  subst e
  have hl := ext_len (starsOf x) L (starsOf y)
  have fin : ∀ f2 acc, (starsOf y).length < f2 → parseGo (starsOf x ++ L ++ starsOf y) f2 ((starsOf x).length + L.length) acc = .inl (acc ++ starPs y) := by
    intro f2 acc hf2
    cases y with
    | false =>
      obtain ⟨f2, rfl⟩ : ∃ g, f2 = g + 1 := ⟨f2 - 1, by omega⟩
      simp only [starsOf, starPs, Bool.false_eq_true, if_false, List.append_nil] at hl ⊢
      simp only [parseGo]
      rw [if_neg (by simp)]
    | true =>
      simp only [starsOf, if_true, List.length_cons, List.length_nil] at hf2
      obtain ⟨f2, rfl⟩ : ∃ g, f2 = g + 2 := ⟨f2 - 2, by omega⟩
      simp only [parseGo]
      have hg : (starsOf x ++ L ++ starsOf true).getD ((starsOf x).length + L.length) 0 = 42 := by
        rw [List.getD, List.getElem?_append_right (by simp)]
        simp [starsOf]
      have hy : (starsOf true).length = 1 := rfl
      rw [if_pos (by omega), hg, if_pos rfl, if_neg (by omega)]
      rfl
  cases x with
  | false =>
    obtain ⟨f2, h2, e2⟩ := H ((starsOf false ++ L ++ starsOf y).length + 1) [] (by rw [hl]; omega)
    have z : (starsOf false).length = 0 := rfl
    rw [z, Nat.add_zero] at e2
    rw [e2]
    have := fin f2 ([] ++ ps) h2
    rw [z] at this
    rw [this]; simp [starPs]
  | true =>
    have z : (starsOf true).length = 1 := rfl
    rw [parseGo, if_pos (by omega)]
    rw [show (starsOf true ++ L ++ starsOf y).getD 0 0 = 42 from by simp [starsOf], if_pos rfl]
    obtain ⟨f2, h2, e2⟩ := H ((starsOf true ++ L ++ starsOf y).length) ([] ++ [starP]) (by rw [hl]; omega)
    rw [z, Nat.add_zero] at e2
    rw [Nat.zero_add, e2]
    have := fin f2 ([] ++ [starP] ++ ps) h2
    rw [z] at this
    rw [this]; simp [starPs]
theorem mt_app : ∀ (P Q : List Prt) (A B : List Int), mtB P A = true → mtB Q B = true → mtB (P ++ Q) (A ++ B) = true
  | [], Q, A, B, h, k => by
    have : A = [] := by simpa [mtB] using h
    rw [this]; exact k
  | p :: P, Q, A, B, h, k => by
    simp only [List.cons_append, mtB] at h ⊢
    by_cases hs : p.star = true
    · rw [if_pos hs] at h ⊢
      rw [List.any_eq_true] at h ⊢
      obtain ⟨j, hj, hm⟩ := h
      rw [List.mem_range] at hj
      refine ⟨j, by rw [List.mem_range, List.length_append]; omega, ?_⟩
      have : (A ++ B).drop j = A.drop j ++ B := by rw [List.drop_append_of_le_length (by omega)]
      rw [this]
      exact mt_app P Q _ B hm k
    · rw [if_neg hs] at h ⊢
      cases A with
      | nil => cases h
      | cons c A =>
        simp only [List.cons_append, Bool.and_eq_true] at h ⊢
        exact ⟨h.1, mt_app P Q A B h.2 k⟩
theorem mt_star (S : List Int) : mtB [starP] S = true := by
  simp only [mtB, starP, if_true, List.any_eq_true, List.mem_range]
  exact ⟨S.length, by omega, by simp⟩
theorem mt_nil : mtB [] [] = true := rfl
theorem mt_wrap (ps : List Prt) (A B C : List Int) (h : mtB ps B = true) (x y : Bool) (hx : x = false → A = []) (hy : y = false → C = []) : mtB (starPs x ++ ps ++ starPs y) (A ++ B ++ C) = true := by
  refine mt_app _ _ _ _ (mt_app _ _ _ _ ?_ h) ?_
  · cases x with
    | false => rw [hx rfl]; rfl
    | true => exact mt_star A
  · cases y with
    | false => rw [hy rfl]; rfl
    | true => exact mt_star C
/-- signs behind a \ -/
def escL (l : List Int) : List Int := l.flatMap fun c => if signB c = true then [92, c] else [c]
theorem parse_esc : ∀ (l M : List Int) (f : Nat) (acc : List Prt), (escL l).length < f → parseGo (M ++ escL l) f M.length acc = .inl (acc ++ l.map oneP)
  | [], M, f, acc, hf => by
    obtain ⟨f, rfl⟩ : ∃ g, f = g + 1 := ⟨f - 1, by omega⟩
    simp [escL, parseGo]
  | c :: l, M, f, acc, hf => by
    have ec : escL (c :: l) = (if signB c = true then [92, c] else [c]) ++ escL l := by simp [escL]
    obtain ⟨f, rfl⟩ : ∃ g, f = g + 1 := ⟨f - 1, by omega⟩
    rw [ec, List.length_append] at hf
    by_cases hs : signB c = true
    · rw [if_pos hs] at ec hf
      simp only [List.length_cons, List.length_nil] at hf
      have ih := parse_esc l (M ++ [92, c]) f (acc ++ [oneP c]) (by omega)
      rw [ec]
      have e : M ++ ([92, c] ++ escL l) = M ++ [92, c] ++ escL l := by simp
      rw [e]
      have hg0 : (M ++ [92, c] ++ escL l).getD M.length 0 = 92 := by simp [List.getD]
      have hg1 : (M ++ [92, c] ++ escL l).getD (M.length + 1) 0 = c := by
        rw [List.getD, List.append_assoc, List.getElem?_append_right (by omega), show M.length + 1 - M.length = 1 from by omega]; simp
      have hln : (M ++ [92, c] ++ escL l).length = M.length + 2 + (escL l).length := by simp; omega
      rw [parseGo, if_pos (by omega), hg0, if_neg (by decide), if_neg (by decide), if_neg (by decide), if_pos rfl, if_pos (by omega), hg1]
      rw [show (M ++ [92, c]).length = M.length + 2 from by simp] at ih
      rw [ih]; simp
    · rw [if_neg hs] at ec hf
      simp only [List.length_cons, List.length_nil] at hf
      have ih := parse_esc l (M ++ [c]) f (acc ++ [oneP c]) (by omega)
      rw [ec]
      have e : M ++ ([c] ++ escL l) = M ++ [c] ++ escL l := by simp
      rw [e]
      have hg0 : (M ++ [c] ++ escL l).getD M.length 0 = c := by simp [List.getD]
      have hln : (M ++ [c] ++ escL l).length = M.length + 1 + (escL l).length := by simp; omega
      unfold signB at hs
      rw [decide_eq_true_iff] at hs
      rw [parseGo, if_pos (by omega), hg0, if_neg (by omega), if_neg (by omega), if_neg (by omega), if_neg (by omega)]
      rw [show (M ++ [c]).length = M.length + 1 from by simp] at ih
      rw [ih]; simp
theorem esc_match (l : List Int) : ∃ ps, parseGo (escL l) ((escL l).length + 1) 0 [] = .inl ps ∧ mtB ps l = true := by
  have := parse_esc l [] ((escL l).length + 1) [] (by omega)
  refine ⟨_, this, ?_⟩
  rw [List.nil_append, mt_plain]; simp
end Go.Proofs.YthkkphfnfggpaaaDoor
