/- Sets as lists that rise, what a majority reaches, and the first ones: as mathematics. -/
namespace Go.Proofs.Ytcgoggkaiiljmaa

/-- rising, each once -/
def Rise (l : List Int) : Prop := l.Pairwise (· < ·)
def addS : List Int → Int → List Int
  | [], x => [x]
  | y :: l, x => if y < x then y :: addS l x else if y = x then y :: l else x :: y :: l
def setS (l : List Int) : List Int := l.foldl addS []
theorem mem_addS : ∀ {l : List Int} {x y : Int}, y ∈ addS l x ↔ y = x ∨ y ∈ l
  | [], x, y => by simp [addS]
  | z :: l, x, y => by
    unfold addS
    split
    · rw [List.mem_cons, mem_addS, List.mem_cons]
      constructor
      · rintro (h | h | h) <;> simp [h]
      · rintro (h | h | h) <;> simp [h]
    · split
      · rename_i h; subst h
        rw [List.mem_cons]
        constructor
        · rintro (h | h) <;> simp [h]
        · rintro (h | h | h) <;> simp [h]
      · simp only [List.mem_cons]
theorem rise_addS : ∀ {l : List Int} {x : Int}, Rise l → Rise (addS l x)
  | [], x, _ => by simp [addS, Rise]
  | z :: l, x, h => by
    have h1 := List.pairwise_cons.1 h
    unfold addS
    split
    · refine List.pairwise_cons.2 ⟨fun y hy => ?_, rise_addS h1.2⟩
      rcases mem_addS.1 hy with rfl | hy
      · assumption
      · exact h1.1 y hy
    · split
      · exact h
      · refine List.pairwise_cons.2 ⟨fun y hy => ?_, h⟩
        rcases List.mem_cons.1 hy with rfl | hy
        · omega
        · have := h1.1 y hy; omega
theorem mem_foldl_addS : ∀ {l acc : List Int} {y : Int}, y ∈ l.foldl addS acc ↔ y ∈ acc ∨ y ∈ l
  | [], acc, y => by simp
  | x :: l, acc, y => by
    rw [List.foldl_cons, mem_foldl_addS, mem_addS, List.mem_cons]
    constructor
    · rintro ((h | h) | h) <;> simp [h]
    · rintro (h | h | h) <;> simp [h]
theorem mem_setS {l : List Int} {y : Int} : y ∈ setS l ↔ y ∈ l := by unfold setS; rw [mem_foldl_addS]; simp
theorem rise_foldl : ∀ {l acc : List Int}, Rise acc → Rise (l.foldl addS acc)
  | [], _, h => h
  | _ :: l, _, h => rise_foldl (l := l) (rise_addS h)
theorem rise_setS (l : List Int) : Rise (setS l) := rise_foldl List.Pairwise.nil
theorem Rise.nodup {l : List Int} (h : Rise l) : l.Nodup := List.Pairwise.imp (fun h => by omega) h
theorem rise_unique : ∀ {a b : List Int}, Rise a → Rise b → (∀ x, x ∈ a ↔ x ∈ b) → a = b
  | [], [], _, _, _ => rfl
  | [], y :: b, _, _, h => by have := (h y).2 (by simp); simp at this
  | x :: a, [], _, _, h => by have := (h x).1 (by simp); simp at this
  | x :: a, y :: b, ha, hb, h => by
    have ha1 := List.pairwise_cons.1 ha
    have hb1 := List.pairwise_cons.1 hb
    have e : x = y := by
      rcases List.mem_cons.1 ((h x).1 (by simp)) with e | e
      · exact e
      · rcases List.mem_cons.1 ((h y).2 (by simp)) with e' | e'
        · exact e'.symm
        · have := hb1.1 x e; have := ha1.1 y e'; omega
    subst e
    rw [rise_unique ha1.2 hb1.2 (fun z => ?_)]
    have hz := h z
    simp only [List.mem_cons] at hz
    constructor
    · intro hm
      rcases hz.1 (.inr hm) with e | e
      · have := ha1.1 z hm; omega
      · exact e
    · intro hm
      rcases hz.2 (.inr hm) with e | e
      · have := hb1.1 z hm; omega
      · exact e
theorem setS_ext {a b : List Int} (h : ∀ x, x ∈ a ↔ x ∈ b) : setS a = setS b :=
  rise_unique (rise_setS _) (rise_setS _) (fun x => by rw [mem_setS, mem_setS]; exact h x)
theorem setS_snoc (l : List Int) (x : Int) : setS (l ++ [x]) = addS (setS l) x := by unfold setS; rw [List.foldl_append]; rfl
theorem setS_filter_snoc (p : Int → Bool) (l : List Int) (x : Int) : setS ((l ++ [x]).filter p) = if p x then addS (setS (l.filter p)) x else setS (l.filter p) := by
  rw [List.filter_append]
  cases h : p x <;> simp [h, setS_snoc]
theorem len_addS_le (l : List Int) (x : Int) : (addS l x).length ≤ l.length + 1 := by
  induction l with
  | nil => simp [addS]
  | cons y l ih => unfold addS; split <;> (try split) <;> simp <;> omega
theorem len_foldl_le : ∀ (l acc : List Int), (l.foldl addS acc).length ≤ acc.length + l.length
  | [], acc => by simp
  | x :: l, acc => by have := len_foldl_le l (addS acc x); have := len_addS_le acc x; simp only [List.foldl_cons, List.length_cons]; omega
theorem len_setS_le (l : List Int) : (setS l).length ≤ l.length := by have := len_foldl_le l []; simpa [setS] using this
/-- where a number goes in -/
theorem addS_at : ∀ {l : List Int} {x : Int} {i : Nat}, (∀ y ∈ l.take i, y < x) → (∀ y, l[i]? = some y → x ≤ y) → addS l x = if l[i]? = some x then l else l.take i ++ x :: l.drop i
  | [], x, i, _, _ => by simp [addS]
  | y :: l, x, 0, _, h2 => by
    have := h2 y rfl
    unfold addS
    rw [if_neg (by omega)]
    simp
  | y :: l, x, i + 1, h1, h2 => by
    have hy := h1 y (by simp)
    unfold addS
    rw [if_pos hy, addS_at (i := i) (fun z hz => h1 z (by simp [hz])) (fun z hz => h2 z (by simpa using hz))]
    simp only [List.getElem?_cons_succ, List.take_succ_cons, List.drop_succ_cons]
    split <;> rfl
/-- keys, each once, that were picked and sorted -/
theorem sorted_setS {ks l : List Int} (hn : ks.Nodup) (hm : ∀ x, x ∈ ks ↔ x ∈ l) : ks.mergeSort (fun x y => decide (x ≤ y)) = setS l := by
  refine rise_unique ?_ (rise_setS l) (fun x => by rw [List.mem_mergeSort, mem_setS]; exact hm x)
  have h1 : (ks.mergeSort (fun x y => decide (x ≤ y))).Pairwise (fun a b : Int => decide (a ≤ b) = true) :=
    List.pairwise_mergeSort (fun a b c h k => by simp only [decide_eq_true_eq] at *; omega) (fun a b => by simp only [Bool.or_eq_true, decide_eq_true_eq]; omega) ks
  have h2 : (ks.mergeSort (fun x y => decide (x ≤ y))).Nodup := ((List.mergeSort_perm ks _).nodup_iff).2 hn
  exact List.Pairwise.imp₂ (fun a b h k => by simp only [decide_eq_true_eq] at h; omega) h1 h2

/-! what a majority reaches -/
def sortS (l : List Int) : List Int := l.mergeSort (fun x y => decide (x ≤ y))
theorem sortS_perm (l : List Int) : (sortS l).Perm l := List.mergeSort_perm l _
theorem len_sortS (l : List Int) : (sortS l).length = l.length := (sortS_perm l).length_eq
theorem sortS_le (l : List Int) : (sortS l).Pairwise (· ≤ ·) :=
  List.Pairwise.imp (fun h => by simpa using h) (List.pairwise_mergeSort (le := fun x y : Int => decide (x ≤ y)) (fun a b c h k => by simp only [decide_eq_true_eq] at *; omega) (fun a b => by simp only [Bool.or_eq_true, decide_eq_true_eq]; omega) l)
def majS (n : Nat) : Nat := n / 2 + 1
def reachS (l : List Int) (x : Int) : Nat := l.countP (fun y => decide (x ≤ y))
def commitS (l : List Int) : Int := if l = [] then 0 else (sortS l).getD (l.length - majS l.length) 0
theorem reach_perm {a b : List Int} (h : a.Perm b) (x : Int) : reachS a x = reachS b x := h.countP_eq _
theorem reach_le_len (l : List Int) (x : Int) : reachS l x ≤ l.length := List.countP_le_length
theorem reach_ge {s : List Int} (hs : s.Pairwise (· ≤ ·)) {i : Nat} {x : Int} (hi : s[i]? = some x) : s.length - i ≤ reachS s x := by
  have hlt := (List.getElem?_eq_some_iff.1 hi).1
  have h1 : (s.drop i).countP (fun y => decide (x ≤ y)) = (s.drop i).length := by
    rw [List.countP_eq_length]
    intro y hy
    obtain ⟨j, hj⟩ := List.getElem?_of_mem hy
    rw [List.getElem?_drop] at hj
    rcases Nat.eq_zero_or_pos j with rfl | hpos
    · rw [Nat.add_zero, hi] at hj; cases hj; simp
    · have hlt2 := (List.getElem?_eq_some_iff.1 hj).1
      have := List.pairwise_iff_getElem.1 hs i (i + j) hlt hlt2 (by omega)
      rw [(List.getElem?_eq_some_iff.1 hi).2, (List.getElem?_eq_some_iff.1 hj).2] at this
      simpa using this
  have h2 : reachS s x = (s.take i).countP (fun y => decide (x ≤ y)) + (s.drop i).countP (fun y => decide (x ≤ y)) := by
    unfold reachS; rw [← List.countP_append, List.take_append_drop]
  rw [h2, h1, List.length_drop]; omega
theorem reach_above {s : List Int} (hs : s.Pairwise (· ≤ ·)) {i : Nat} {x z : Int} (hi : s[i]? = some x) (hz : x < z) : reachS s z + (i + 1) ≤ s.length := by
  have hlt := (List.getElem?_eq_some_iff.1 hi).1
  have h1 : (s.take (i + 1)).countP (fun y => decide (z ≤ y)) = 0 := by
    rw [List.countP_eq_zero]
    intro y hy
    obtain ⟨j, hj⟩ := List.getElem?_of_mem hy
    rw [List.getElem?_take] at hj
    split at hj
    · rename_i hji
      have hlt2 := (List.getElem?_eq_some_iff.1 hj).1
      have hyx : y ≤ x := by
        rcases Nat.lt_or_ge j i with hlt3 | hge
        · have := List.pairwise_iff_getElem.1 hs j i hlt2 hlt hlt3
          rw [(List.getElem?_eq_some_iff.1 hi).2, (List.getElem?_eq_some_iff.1 hj).2] at this
          exact this
        · obtain rfl : j = i := by omega
          rw [hi] at hj; cases hj; exact Int.le_refl _
      simp; omega
    · cases hj
  have h2 : reachS s z = (s.take (i + 1)).countP (fun y => decide (z ≤ y)) + (s.drop (i + 1)).countP (fun y => decide (z ≤ y)) := by
    unfold reachS; rw [← List.countP_append, List.take_append_drop]
  have h3 : (s.drop (i + 1)).countP (fun y => decide (z ≤ y)) ≤ s.length - (i + 1) := by
    have := List.countP_le_length (p := fun y => decide (z ≤ y)) (l := s.drop (i + 1)); rwa [List.length_drop] at this
  rw [h2, h1]; omega
theorem commit_at {l : List Int} (h : l ≠ []) : (sortS l)[l.length - majS l.length]? = some (commitS l) := by
  have hpos := List.length_pos_iff.2 h
  have hlt : l.length - majS l.length < (sortS l).length := by rw [len_sortS]; unfold majS; omega
  unfold commitS
  rw [if_neg h, List.getElem?_eq_getElem hlt, List.getD_eq_getElem?_getD, List.getElem?_eq_getElem hlt]; rfl
theorem maj_le {l : List Int} (h : l ≠ []) : majS l.length ≤ l.length := by have := List.length_pos_iff.2 h; unfold majS; omega
theorem commit_mem {l : List Int} (h : l ≠ []) : commitS l ∈ l := (sortS_perm l).mem_iff.1 (List.mem_of_getElem? (commit_at h))
theorem commit_reach {l : List Int} (h : l ≠ []) : majS l.length ≤ reachS l (commitS l) := by
  have h1 := reach_ge (sortS_le l) (commit_at h)
  rw [reach_perm (sortS_perm l), len_sortS] at h1
  have := maj_le h
  omega
theorem commit_above {l : List Int} (h : l ≠ []) {z : Int} (hz : commitS l < z) : reachS l z < majS l.length := by
  have h1 := reach_above (sortS_le l) (commit_at h) hz
  rw [reach_perm (sortS_perm l), len_sortS] at h1
  have := maj_le h
  unfold majS at *
  omega
theorem commit_is {l : List Int} (h : l ≠ []) {x : Int} : majS l.length ≤ reachS l x ↔ x ≤ commitS l := by
  constructor
  · intro hr
    rcases Int.lt_or_le (commitS l) x with hlt | hle
    · have := commit_above h hlt; omega
    · exact hle
  · intro hle
    have h1 := commit_reach h
    have h2 : reachS l (commitS l) ≤ reachS l x := List.countP_mono_left (fun y _ hy => by simp only [decide_eq_true_eq] at *; omega)
    omega
/-- how many are above: those that reach the next number -/
def aboveS (l : List Int) (x : Int) : Nat := l.countP (fun y => decide (x < y))
theorem above_reach (l : List Int) (x : Int) : aboveS l x = reachS l (x + 1) := by
  unfold aboveS reachS
  congr 1
/-- one reaches more -/
theorem commit_set {l : List Int} {i : Nat} {x more : Int} (hi : l[i]? = some x) (hm : x ≤ more) : commitS l ≤ commitS (l.set i more) := by
  have hlt := (List.getElem?_eq_some_iff.1 hi).1
  have hne : l ≠ [] := by intro e; subst e; simp at hlt
  have hne2 : l.set i more ≠ [] := by intro e; have := congrArg List.length e; simp at this; exact hne this
  rw [← commit_is hne2, List.length_set]
  have h1 := commit_reach hne
  have h2 : reachS l (commitS l) ≤ reachS (l.set i more) (commitS l) := by
    have e1 : l = l.take i ++ x :: l.drop (i + 1) := by
      rw [← (List.getElem?_eq_some_iff.1 hi).2, List.getElem_cons_drop, List.take_append_drop]
    have e2 : l.set i more = l.take i ++ more :: l.drop (i + 1) := List.set_eq_take_append_cons_drop.trans (if_pos hlt)
    generalize commitS l = c
    rw [e2]
    conv => lhs; rw [e1]
    unfold reachS
    simp only [List.countP_append, List.countP_cons, decide_eq_true_eq]
    split <;> split <;> omega
  omega

/-! the first ones -/
def pushF (n : Int) (out : List Int) (x : Int) : List Int := if (out.length : Int) < n ∧ x ∉ out then out ++ [x] else out
def firstS (l : List Int) (n : Int) : List Int := l.foldl (pushF n) []
theorem firstS_snoc (l : List Int) (x n : Int) : firstS (l ++ [x]) n = pushF n (firstS l n) x := by unfold firstS; rw [List.foldl_append]; rfl
theorem firstS_full {l r : List Int} {n : Int} (h : n ≤ ((firstS l n).length : Int)) : firstS (l ++ r) n = firstS l n := by
  induction r generalizing l with
  | nil => rw [List.append_nil]
  | cons x r ih =>
    have e : firstS (l ++ [x]) n = firstS l n := by rw [firstS_snoc]; unfold pushF; rw [if_neg (by omega)]
    have := ih (l := l ++ [x]) (by rw [e]; exact h)
    rw [List.append_assoc] at this
    rw [← e]; exact this
theorem firstS_take {l : List Int} {n : Int} {k : Nat} (h : n ≤ ((firstS (l.take k) n).length : Int)) : firstS l n = firstS (l.take k) n := by
  have := firstS_full (r := l.drop k) h
  rwa [List.take_append_drop] at this
theorem pushF_nodup {n : Int} {out : List Int} {x : Int} (h : out.Nodup) : (pushF n out x).Nodup := by
  unfold pushF
  split
  · rename_i h2
    rw [List.nodup_append]
    exact ⟨h, by simp, fun a ha b hb => by simp at hb; subst hb; intro e; subst e; exact h2.2 ha⟩
  · exact h
theorem foldF_nodup {n : Int} : ∀ {l out : List Int}, out.Nodup → (l.foldl (pushF n) out).Nodup
  | [], _, h => h
  | _ :: l, _, h => foldF_nodup (l := l) (pushF_nodup h)
theorem firstS_nodup (l : List Int) (n : Int) : (firstS l n).Nodup := foldF_nodup List.nodup_nil
theorem foldF_mem {n : Int} : ∀ {l out : List Int} {y : Int}, y ∈ l.foldl (pushF n) out → y ∈ out ∨ y ∈ l
  | [], _, _, h => .inl h
  | x :: l, out, y, h => by
    rcases foldF_mem (l := l) h with h | h
    · unfold pushF at h
      split at h
      · rcases List.mem_append.1 h with h | h
        · exact .inl h
        · simp at h; subst h; exact .inr (by simp)
      · exact .inl h
    · exact .inr (by simp [h])
theorem firstS_mem {l : List Int} {n y : Int} (h : y ∈ firstS l n) : y ∈ l := by
  rcases foldF_mem h with h | h
  · simp at h
  · exact h
/-- while there is room all that was met is there -/
theorem foldF_all {n : Int} : ∀ {l out : List Int} {y : Int}, ((l.foldl (pushF n) out).length : Int) < n → y ∈ out ∨ y ∈ l → y ∈ l.foldl (pushF n) out
  | [], _, _, _, h => by simpa using h
  | x :: l, out, y, hn, h => by
    have hmono : ∀ (l out : List Int), out.length ≤ (l.foldl (pushF n) out).length := fun l => by
      induction l with
      | nil => intro out; exact Nat.le_refl _
      | cons x l ih =>
        intro out
        refine Nat.le_trans ?_ (ih (pushF n out x))
        unfold pushF; split <;> simp
    refine foldF_all (l := l) hn ?_
    have h1 := hmono l (pushF n out x)
    simp only [List.foldl_cons] at hn
    have h3 : out.length ≤ (pushF n out x).length := by unfold pushF; split <;> simp
    have hin : y ∈ out → y ∈ pushF n out x := fun hm => by unfold pushF; split <;> simp [hm]
    rcases h with h | h
    · exact .inl (hin h)
    · rcases List.mem_cons.1 h with rfl | h
      · refine .inl ?_
        by_cases hm : y ∈ out
        · exact hin hm
        · unfold pushF; rw [if_pos ⟨by omega, hm⟩]; simp
      · exact .inr h
theorem firstS_all {l : List Int} {n y : Int} (hn : ((firstS l n).length : Int) < n) (h : y ∈ l) : y ∈ firstS l n := foldF_all hn (.inr h)
theorem foldF_le {n : Int} : ∀ {l out : List Int}, (out.length : Int) ≤ max n 0 → ((l.foldl (pushF n) out).length : Int) ≤ max n 0
  | [], _, h => h
  | x :: l, out, h => foldF_le (l := l) (by unfold pushF; split <;> (try simp) <;> omega)
theorem firstS_le (l : List Int) (n : Int) : ((firstS l n).length : Int) ≤ max n 0 := foldF_le (by simp; omega)
theorem perm_setS {l : List Int} (h : l.Nodup) : (setS l).Perm l := (List.perm_ext_iff_of_nodup (rise_setS l).nodup h).2 (fun _ => mem_setS)
theorem len_setS_nodup {l : List Int} (h : l.Nodup) : (setS l).length = l.length := (perm_setS h).length_eq
theorem sub_len : ∀ {A B : List Int}, A.Nodup → (∀ x ∈ A, x ∈ B) → A.length ≤ B.length
  | [], _, _, _ => Nat.zero_le _
  | a :: A, B, h, hs => by
    obtain ⟨h1, h2⟩ := List.nodup_cons.1 h
    have ha : a ∈ B := hs a (by simp)
    have := sub_len (A := A) (B := B.erase a) h2 (fun x hx => (List.mem_erase_of_ne (fun (e : x = a) => h1 (by rw [← e]; exact hx))).2 (hs x (by simp [hx])))
    rw [List.length_erase_of_mem ha] at this
    have hpos : 0 < B.length := List.length_pos_of_mem ha
    simp only [List.length_cons]
    omega
theorem len_firstS (l : List Int) (n : Int) : ((firstS l n).length : Int) = min (max n 0) ((setS l).length : Int) := by
  have h1 := firstS_le l n
  have h2 : (firstS l n).length ≤ (setS l).length := sub_len (firstS_nodup l n) (fun x hx => mem_setS.2 (firstS_mem hx))
  by_cases hn : ((firstS l n).length : Int) < n
  · have h3 : (setS l).length ≤ (firstS l n).length := sub_len (rise_setS l).nodup (fun x hx => firstS_all hn (mem_setS.1 hx))
    omega
  · omega
/-! two majorities meet -/
theorem meet {n : Nat} {x y : List Int} (hx : x.Nodup) (hy : y.Nodup) (bx : ∀ z ∈ x, 0 ≤ z ∧ z < (n : Int)) (by' : ∀ z ∈ y, 0 ≤ z ∧ z < (n : Int)) (h1 : majS n ≤ x.length) (h2 : majS n ≤ y.length) : ∃ z, z ∈ x ∧ z ∈ y := by
  apply Classical.byContradiction
  intro hno
  have hnd : (x ++ y).Nodup := by
    rw [List.nodup_append]
    exact ⟨hx, hy, fun a ha b hb e => hno ⟨a, ha, by rw [e]; exact hb⟩⟩
  have hall : ∀ z ∈ x ++ y, z ∈ (List.range n).map (fun (i : Nat) => (i : Int)) := fun z hz => by
    have hz' : 0 ≤ z ∧ z < (n : Int) := by
      rcases List.mem_append.1 hz with h | h
      · exact bx z h
      · exact by' z h
    rw [List.mem_map]
    exact ⟨z.toNat, by rw [List.mem_range]; omega, by omega⟩
  have := sub_len hnd hall
  simp only [List.length_append, List.length_map, List.length_range] at this
  unfold majS at *
  omega
/-! unions and what is in both -/
def interS (a b : List Int) : List Int := setS (a.filter (fun x => b.contains x))
def minusS (a b : List Int) : List Int := setS (a.filter (fun x => !b.contains x))
theorem mem_interS {a b : List Int} {x : Int} : x ∈ interS a b ↔ x ∈ a ∧ x ∈ b := by unfold interS; rw [mem_setS, List.mem_filter]; simp
theorem mem_minusS {a b : List Int} {x : Int} : x ∈ minusS a b ↔ x ∈ a ∧ x ∉ b := by unfold minusS; rw [mem_setS, List.mem_filter]; simp
theorem len_split (p : Int → Bool) : ∀ l : List Int, l.length = (l.filter p).length + (l.filter (fun x => !p x)).length
  | [] => rfl
  | x :: l => by have := len_split p l; cases h : p x <;> simp [h] <;> omega
theorem len_union (a b : List Int) : (setS (a ++ b)).length + (interS a b).length = (setS a).length + (setS b).length := by
  have h1 := len_split (fun x => a.contains x) (setS b)
  have h2 : (interS a b).Perm ((setS b).filter (fun x => a.contains x)) :=
    (List.perm_ext_iff_of_nodup (rise_setS _).nodup ((rise_setS b).nodup.filter _)).2 (fun x => by rw [show (x ∈ setS (a.filter (fun x => b.contains x)) ↔ x ∈ a ∧ x ∈ b) from mem_interS, List.mem_filter, mem_setS]; simp; exact And.comm)
  have h3 : (setS (a ++ b)).Perm (setS a ++ (setS b).filter (fun x => !a.contains x)) := by
    refine (List.perm_ext_iff_of_nodup (rise_setS _).nodup ?_).2 (fun x => ?_)
    · rw [List.nodup_append]
      refine ⟨(rise_setS a).nodup, (rise_setS b).nodup.filter _, fun x hx y hy e => ?_⟩
      subst e
      have := (List.mem_filter.1 hy).2
      rw [mem_setS] at hx
      simp [hx] at this
    · rw [mem_setS, List.mem_append, List.mem_append, mem_setS, List.mem_filter, mem_setS]
      by_cases h : x ∈ a <;> simp [h]
  have e2 := h2.length_eq
  have e3 := h3.length_eq
  rw [List.length_append] at e3
  omega
end Go.Proofs.Ytcgoggkaiiljmaa
