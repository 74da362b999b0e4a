/- Ticks of clocks as mathematics: where a node's ticks stand, and what it means that clocks ticked as they should. No program is spoken of. -/
import Derived.Test.YtckbbakajabhmaaRows
namespace Go.Proofs.Ytckbbakajabhmaa

/-- the ticks from one place to another -/
def seg (l : List Int) (a b : Nat) : List Int := (l.take b).drop a
/-- the places of j's ticks, counted from k on -/
def pos : Nat → List Int → Int → List Nat
  | _, [], _ => []
  | k, a :: t, j => if a = j then k :: pos (k + 1) t j else pos (k + 1) t j
/-- the n-th place, or never -/
def nthP (x : List Nat) (n never : Nat) : Nat := if n ≤ x.length then x.getD (n - 1) 0 else never
/-- clocks ticked as they should -/
def Steady (l : List Int) (ms sv wt le : Int) : Prop :=
  ∀ p e m, p ≤ e → l[p]? = some m → l[e]? = some m → 0 ≤ m → m < ms → ((seg l p (e + 1)).count m : Int) = max wt 1 → ∀ s : Nat, (s : Int) < sv → le ≤ ((seg l p (e + 1)).count (ms + s) : Int)

theorem seg_zero (l : List Int) (b : Nat) : seg l 0 b = l.take b := by simp [seg]
theorem seg_split (l : List Int) {a b c : Nat} (h1 : a ≤ b) (h2 : b ≤ c) (j : Int) : (seg l a c).count j = (seg l a b).count j + (seg l b c).count j := by
  unfold seg
  have : (l.take c).drop a = (l.take b).drop a ++ (l.take c).drop b := by
    have h3 : (l.take b).drop a = ((l.take c).drop a).take (b - a) := by rw [List.drop_take, List.drop_take, List.take_take]; congr 1; omega
    have h4 : (l.take c).drop b = ((l.take c).drop a).drop (b - a) := by rw [List.drop_drop]; congr 1; omega
    rw [h3, h4]
    exact (List.take_append_drop _ _).symm
  rw [this, List.count_append]
theorem seg_self (l : List Int) (a : Nat) : seg l a a = [] := by
  unfold seg
  exact List.drop_eq_nil_of_le (by simp; omega)
theorem seg_one {l : List Int} {a : Nat} {m : Int} (h : l[a]? = some m) : seg l a (a + 1) = [m] := by
  obtain ⟨hlt, hx⟩ := List.getElem?_eq_some_iff.1 h
  unfold seg
  rw [List.take_add_one, h, List.drop_append_of_le_length (by simp; omega)]
  simp
theorem seg_snoc {l : List Int} {a b : Nat} {m : Int} (h : l[b]? = some m) (hab : a ≤ b) (j : Int) : (seg l a (b + 1)).count j = (seg l a b).count j + (if m = j then 1 else 0) := by
  rw [seg_split l hab (Nat.le_succ b), seg_one h, List.count_singleton]
  simp
theorem seg_mono (l : List Int) {a b c : Nat} (h1 : a ≤ b) (h2 : b ≤ c) (j : Int) : (seg l a b).count j ≤ (seg l a c).count j := by
  rw [seg_split l h1 h2]; omega

theorem pos_ge : ∀ (l : List Int) (k : Nat) (j : Int), ∀ x ∈ pos k l j, k ≤ x
  | [], k, j, x, h => by simp [pos] at h
  | a :: t, k, j, x, h => by
    unfold pos at h
    split at h
    · rcases List.mem_cons.1 h with rfl | h
      · exact Nat.le_refl _
      · have := pos_ge t (k + 1) j x h; omega
    · have := pos_ge t (k + 1) j x h; omega
theorem nth_one (x : Nat) (xs : List Nat) (never : Nat) : nthP (x :: xs) 1 never = x := by simp [nthP]
theorem nth_next (x : Nat) (xs : List Nat) (n never : Nat) : nthP (x :: xs) (n + 2) never = nthP xs (n + 1) never := by simp [nthP]
/-- the n-th place lies ahead of one just where n of them do -/
theorem nth_lt : ∀ (l : List Int) (k n x : Nat) (j : Int), x ≤ l.length → (nthP (pos k l j) (n + 1) (k + l.length) < k + x ↔ n + 1 ≤ (l.take x).count j)
  | [], k, n, x, j, hx => by
    have : x = 0 := by simpa using hx
    subst this
    simp [pos, nthP]
  | a :: t, k, n, x, j, hx => by
    have ih := nth_lt t (k + 1)
    have hl : k + (a :: t).length = k + 1 + t.length := by simp; omega
    rw [hl]
    unfold pos
    by_cases h : a = j
    · rw [if_pos h]
      cases x with
      | zero =>
        simp only [List.take_zero, List.count_nil, Nat.not_succ_le_zero, iff_false, Nat.not_lt]
        cases n with
        | zero => simp [nth_one]
        | succ n =>
          rw [nth_next]
          have := ih n 0 j (Nat.zero_le _)
          simp only [List.take_zero, List.count_nil, Nat.add_zero] at this
          omega
      | succ x =>
        have hx' : x ≤ t.length := by simpa using hx
        subst h
        rw [List.take_succ_cons, List.count_cons_self]
        cases n with
        | zero => simp [nth_one]
        | succ n =>
          rw [nth_next]
          have := ih n x a hx'
          rw [show k + (x + 1) = k + 1 + x from by omega, this]
          omega
    · rw [if_neg h]
      cases x with
      | zero =>
        have := ih n 0 j (Nat.zero_le _)
        simp only [List.take_zero, List.count_nil, Nat.add_zero] at this ⊢
        omega
      | succ x =>
        have hx' : x ≤ t.length := by simpa using hx
        have := ih n x j hx'
        rw [List.take_succ_cons, List.count_cons_of_ne (by simpa using h), show k + (x + 1) = k + 1 + x from by omega, this]
theorem nth_le_never (l : List Int) (k n : Nat) (j : Int) : nthP (pos k l j) (n + 1) (k + l.length) ≤ k + l.length := by
  induction l generalizing k n with
  | nil => simp [pos, nthP]
  | cons a t ih =>
    have hl : k + (a :: t).length = k + 1 + t.length := by simp; omega
    rw [hl]
    unfold pos
    split
    · cases n with
      | zero => rw [nth_one]; omega
      | succ n => rw [nth_next]; exact ih _ _
    · exact ih _ _

/-- the place, from p on, at which j has ticked n times -/
def at_ (l : List Int) (p : Nat) (j : Int) (n : Nat) : Nat := nthP (pos p (l.drop p) j) n l.length
theorem at_lt {l : List Int} {p n e : Nat} {j : Int} (hp : p ≤ e) (he : e ≤ l.length) : at_ l p j (n + 1) < e ↔ n + 1 ≤ (seg l p e).count j := by
  have := nth_lt (l.drop p) p n (e - p) j (by simp; omega)
  rw [show p + (l.drop p).length = l.length from by simp; omega, show p + (e - p) = e from by omega] at this
  unfold at_
  rw [this]
  unfold seg
  rw [List.drop_take]
theorem at_le_len (l : List Int) {p : Nat} (hp : p ≤ l.length) (j : Int) (n : Nat) : at_ l p j (n + 1) ≤ l.length := by
  have := nth_le_never (l.drop p) p n j
  rwa [show p + (l.drop p).length = l.length from by simp; omega] at this
theorem at_ge {l : List Int} {p : Nat} (hp : p ≤ l.length) (j : Int) (n : Nat) : p ≤ at_ l p j (n + 1) := by
  have := at_lt (l := l) (n := n) (j := j) (Nat.le_refl p) hp
  rw [seg_self] at this
  simp only [List.count_nil] at this
  omega
/-- where the n-th tick stands -/
theorem at_eq {l : List Int} {p n e : Nat} {j : Int} (hp : p ≤ e) (he : e < l.length) : at_ l p j (n + 1) = e ↔ l[e]? = some j ∧ (seg l p (e + 1)).count j = n + 1 := by
  have h1 := at_lt (l := l) (p := p) (n := n) (e := e) (j := j) hp (by omega)
  have h2 := at_lt (l := l) (p := p) (n := n) (e := e + 1) (j := j) (by omega) (by omega)
  obtain ⟨m, hm⟩ : ∃ m, l[e]? = some m := ⟨_, List.getElem?_eq_getElem he⟩
  have h3 := seg_snoc hm hp j
  constructor
  · intro h
    have a1 : ¬ (n + 1 ≤ (seg l p e).count j) := fun c => by have := h1.2 c; omega
    have a2 := h2.1 (by omega)
    by_cases e : m = j
    · subst e; simp at h3; exact ⟨hm, by omega⟩
    · simp [e] at h3; omega
  · rintro ⟨e1, e2⟩
    rw [hm] at e1
    obtain rfl : m = j := by simpa using e1
    simp at h3
    have a1 : ¬ (at_ l p m (n + 1) < e) := fun c => by have := h1.1 c; omega
    have a2 := h2.2 (by omega)
    omega
theorem at_mono {l : List Int} {p q n : Nat} {j : Int} (hpq : p ≤ q) (hq : q ≤ l.length) : at_ l p j (n + 1) ≤ at_ l q j (n + 1) := by
  by_cases h : at_ l q j (n + 1) < l.length
  · have h1 := at_ge (j := j) (n := n) hq
    have h2 := (at_lt (l := l) (p := q) (n := n) (e := at_ l q j (n + 1) + 1) (j := j) (by omega) (by omega)).1 (by omega)
    have h3 := (at_lt (l := l) (p := p) (n := n) (e := at_ l q j (n + 1) + 1) (j := j) (by omega) (by omega)).2 (by rw [seg_split l hpq (by omega)]; omega)
    omega
  · have := at_le_len l (p := p) (by omega) j n
    omega
theorem pos_drop {l : List Int} {p : Nat} {m : Int} (h : l[p]? = some m) (j : Int) : pos p (l.drop p) j = if m = j then p :: pos (p + 1) (l.drop (p + 1)) j else pos (p + 1) (l.drop (p + 1)) j := by
  obtain ⟨hlt, hx⟩ := List.getElem?_eq_some_iff.1 h
  rw [List.drop_eq_getElem_cons hlt, hx]
  rfl
theorem at_other {l : List Int} {p n : Nat} {m j : Int} (h : l[p]? = some m) (hj : m ≠ j) : at_ l (p + 1) j n = at_ l p j n := by
  unfold at_
  rw [pos_drop h, if_neg hj]

/-- the last of the servers' places -/
def Sup (l : List Int) (ms sv : Int) (n p e : Nat) : Prop :=
  (∀ s : Nat, (s : Int) < sv → at_ l p (ms + s) (n + 1) ≤ e) ∧ ∃ s : Nat, (s : Int) < sv ∧ at_ l p (ms + s) (n + 1) = e
/-- no window that begins ahead of p asks for more than there is -/
def OkTo (l : List Int) (ms sv wt le : Int) (p : Nat) : Prop :=
  ∀ q, q < p → ∀ e m, q ≤ e → l[q]? = some m → l[e]? = some m → 0 ≤ m → m < ms → ((seg l q (e + 1)).count m : Int) = wt → ∀ s : Nat, (s : Int) < sv → le ≤ ((seg l q (e + 1)).count (ms + s) : Int)
theorem ok_start (l : List Int) (ms sv wt le : Int) : OkTo l ms sv wt le 0 := fun q hq => by omega
theorem ok_end {l : List Int} {ms sv wt le : Int} : OkTo l ms sv (max wt 1) le l.length ↔ Steady l ms sv wt le := by
  constructor
  · intro h p e m hpe hp he
    have : p < l.length := by
      obtain ⟨h1, _⟩ := List.getElem?_eq_some_iff.1 hp; exact h1
    exact h p this e m hpe hp he
  · intro h q _ e m hqe hp he
    exact h q e m hqe hp he
theorem ok_skip {l : List Int} {ms sv wt le : Int} {p : Nat} {m : Int} (h : OkTo l ms sv wt le p) (hm : l[p]? = some m) (ho : m < 0 ∨ ms ≤ m) : OkTo l ms sv wt le (p + 1) := by
  intro q hq e m' hqe hp he h0 hms hc s hs
  rcases Nat.lt_succ_iff_lt_or_eq.1 hq with h1 | rfl
  · exact h q h1 e m' hqe hp he h0 hms hc s hs
  · rw [hm] at hp; obtain rfl : m = m' := by simpa using hp
    omega
/-- a master's window -/
theorem ok_master {l : List Int} {ms sv le : Int} {p n k en : Nat} {m : Int} (h : OkTo l ms sv ((k : Int) + 1) ((n : Int) + 1) p) (hm : l[p]? = some m) (hS : Sup l ms sv n p en)
    (hle : le = (n : Int) + 1) (hno : ¬ (at_ l p m (k + 1) < l.length ∧ at_ l p m (k + 1) ≤ en)) : OkTo l ms sv ((k : Int) + 1) le (p + 1) := by
  subst hle
  obtain ⟨hlt, _⟩ := List.getElem?_eq_some_iff.1 hm
  intro q hq e m' hqe hp he h0' hms' hc s hs
  rcases Nat.lt_succ_iff_lt_or_eq.1 hq with h1 | rfl
  · exact h q h1 e m' hqe hp he h0' hms' hc s hs
  rw [hm] at hp; obtain rfl : m = m' := by simpa using hp
  obtain ⟨hle, _⟩ := List.getElem?_eq_some_iff.1 he
  have he' := (at_eq (n := k) hqe hle).2 ⟨he, by omega⟩
  have hs1 := hS.1 s hs
  have hs2 := (at_lt (l := l) (p := q) (n := n) (e := e + 1) (j := ms + s) (by omega) (by omega)).1 (by omega)
  omega
theorem not_ok {l : List Int} {ms sv : Int} {p n k en : Nat} {m : Int} (hm : l[p]? = some m) (h0 : 0 ≤ m) (hms : m < ms) (hS : Sup l ms sv n p en)
    (h1 : at_ l p m (k + 1) < l.length) (h2 : at_ l p m (k + 1) ≤ en) : ¬ OkTo l ms sv ((k : Int) + 1) ((n : Int) + 1) l.length := by
  intro h
  obtain ⟨hlt, _⟩ := List.getElem?_eq_some_iff.1 hm
  have hge := at_ge (l := l) (j := m) (n := k) (Nat.le_of_lt hlt)
  have he := (at_eq (n := k) hge h1).1 rfl
  obtain ⟨s, hs, hse⟩ := hS.2
  have hc := h p hlt _ m hge hm he.1 h0 hms (by rw [he.2]; omega) s hs
  have h3 := (at_lt (l := l) (p := p) (n := n) (e := at_ l p m (k + 1) + 1) (j := ms + s) (by omega) (by omega)).2 (by omega)
  have h4 : at_ l p (ms + s) (n + 1) = at_ l p m (k + 1) := by omega
  have h5 := (at_eq (n := n) hge h1).1 h4
  have h6 := he.1.symm.trans h5.1
  have : m = ms + s := by simpa using h6
  omega
/-- a server's tick -/
theorem sup_server {l : List Int} {ms sv : Int} {p n en : Nat} {m : Int} (hm : l[p]? = some m) (hs : ms ≤ m) (hs2 : m - ms < sv) (hS : Sup l ms sv n p en) : Sup l ms sv n (p + 1) (max en (at_ l (p + 1) m (n + 1))) := by
  obtain ⟨hlt, _⟩ := List.getElem?_eq_some_iff.1 hm
  have key : ∀ s : Nat, at_ l (p + 1) (ms + s) (n + 1) = if m = ms + s then at_ l (p + 1) m (n + 1) else at_ l p (ms + s) (n + 1) := fun s => by
    by_cases e : m = ms + s
    · rw [if_pos e, e]
    · rw [if_neg e]; exact at_other hm e
  have hmono : at_ l p m (n + 1) ≤ at_ l (p + 1) m (n + 1) := at_mono (Nat.le_succ p) hlt
  refine ⟨fun s hs' => ?_, ?_⟩
  · rw [key]
    split
    · omega
    · have := hS.1 s hs'; omega
  · by_cases h : en ≤ at_ l (p + 1) m (n + 1)
    · refine ⟨(m - ms).toNat, by omega, ?_⟩
      rw [key, if_pos (by omega)]; omega
    · obtain ⟨s, hs', he⟩ := hS.2
      refine ⟨s, hs', ?_⟩
      rw [key, if_neg]
      · omega
      · intro e
        rw [← e] at he
        omega
theorem sup_other {l : List Int} {ms sv : Int} {p n en : Nat} {m : Int} (hm : l[p]? = some m) (ho : m < ms ∨ sv ≤ m - ms) (hS : Sup l ms sv n p en) : Sup l ms sv n (p + 1) en := by
  have key : ∀ s : Nat, (s : Int) < sv → at_ l (p + 1) (ms + s) (n + 1) = at_ l p (ms + s) (n + 1) := fun s hs => at_other hm (by omega)
  exact ⟨fun s hs => by rw [key s hs]; exact hS.1 s hs, let ⟨s, hs, he⟩ := hS.2; ⟨s, hs, by rw [key s hs]; exact he⟩⟩

/-- what is ticked of none -/
theorem pos_nil {l : List Int} {k : Nat} {j : Int} (h : pos k l j = []) : l.count j = 0 := by
  induction l generalizing k with
  | nil => rfl
  | cons a t ih =>
    unfold pos at h
    split at h
    · cases h
    · rw [List.count_cons_of_ne (by simpa using ‹¬ a = j›)]
      exact ih h

/-! The lemma of leases, and what holds of less -/
theorem steady_end {l : List Int} {ms sv wt le : Int} (h : Steady l ms sv wt le) {a i : Nat} {m : Int} {s : Nat} (hs : (s : Int) < sv) (hm : 0 ≤ m) (hms : m < ms) (hai : a ≤ i) (hil : i ≤ l.length) (hw : 1 ≤ wt)
    (hc : wt ≤ ((seg l a i).count m : Int)) : le ≤ ((seg l a i).count (ms + s) : Int) := by
  obtain ⟨n, rfl⟩ : ∃ n : Nat, wt = (n : Int) + 1 := ⟨(wt - 1).toNat, by omega⟩
  -- the first tick
  have hp := (at_lt (l := l) (p := a) (n := 0) (e := i) (j := m) hai hil).2 (by omega)
  have hpa := at_ge (l := l) (p := a) (by omega) m 0
  have hpe := (at_eq (n := 0) hpa (by omega)).1 rfl
  generalize at_ l a m (0 + 1) = p at hp hpa hpe
  have hs0 : (seg l a p).count m = 0 := by
    have := seg_snoc hpe.1 hpa m
    simp at this; omega
  have hsp := seg_split l hpa (Nat.le_of_lt hp) m
  have he := (at_lt (l := l) (p := p) (n := n) (e := i) (j := m) (by omega) hil).2 (by omega)
  have hea := at_ge (l := l) (p := p) (by omega) m n
  have hee := (at_eq (n := n) hea (by omega)).1 rfl
  generalize at_ l p m (n + 1) = e at he hea hee
  have := h p e m hea hpe.1 hee.1 hm hms (by rw [hee.2]; omega) s hs
  have h1 := seg_split l hpa (show p ≤ e + 1 by omega) (ms + s)
  have h2 := seg_split l (show a ≤ e + 1 by omega) (show e + 1 ≤ i by omega) (ms + s)
  omega
theorem steady_take {l : List Int} {ms sv wt le : Int} (h : Steady l ms sv wt le) (n : Nat) : Steady (l.take n) ms sv wt le := by
  intro p e m hpe hp he hm hms hc s hs
  have hen : e < n := by
    obtain ⟨h1, _⟩ := List.getElem?_eq_some_iff.1 he
    simp at h1; omega
  have hseg : seg (l.take n) p (e + 1) = seg l p (e + 1) := by
    unfold seg; rw [List.take_take, Nat.min_eq_left (by omega)]
  rw [hseg] at hc ⊢
  exact h p e m hpe (by rw [← hp, List.getElem?_take_of_lt (by omega)]) (by rw [← he, List.getElem?_take_of_lt hen]) hm hms hc s hs
theorem steady_less {l : List Int} {ms sv wt le le' : Int} (h : Steady l ms sv wt le) (hl : le' ≤ le) : Steady l ms sv wt le' :=
  fun p e m hpe hp he hm hms hc s hs => Int.le_trans hl (h p e m hpe hp he hm hms hc s hs)
theorem steady_fewer {l : List Int} {ms sv sv' wt le : Int} (h : Steady l ms sv wt le) (hl : sv' ≤ sv) : Steady l ms sv' wt le :=
  fun p e m hpe hp he hm hms hc s hs => h p e m hpe hp he hm hms hc s (by omega)
theorem steady_wait {l : List Int} {ms sv wt wt' le : Int} (h : Steady l ms sv wt le) (hl : wt ≤ wt') : Steady l ms sv wt' le := by
  intro p e m hpe hp he hm hms hc s hs
  obtain ⟨hel, _⟩ := List.getElem?_eq_some_iff.1 he
  have h' : Steady l ms sv (max wt 1) le := by
    intro p e m hpe hp he hm hms hc s hs
    exact h p e m hpe hp he hm hms (by omega) s hs
  exact steady_end h' hs hm hms (show p ≤ e + 1 by omega) (by omega) (by omega) (by omega)
/-- a window that there is none of -/
theorem none_window {l : List Int} {p k e : Nat} {m : Int} {w : Int} (hlen : k + 1 = l.length) (hpe : p ≤ e) (he : l[e]? = some m) (hc : ((seg l p (k + 1)).count m : Int) < w) : ((seg l p (e + 1)).count m : Int) ≠ w := by
  obtain ⟨hel, _⟩ := List.getElem?_eq_some_iff.1 he
  have := seg_mono l (show p ≤ e + 1 by omega) (show e + 1 ≤ k + 1 by omega) m
  omega
theorem one_window {l : List Int} {p k e : Nat} {m : Int} (hpk : p ≤ k) (hpe : p ≤ e) (hk : l[k]? = some m) (he : l[e]? = some m) (hc : (seg l p (e + 1)).count m = (seg l p (k + 1)).count m) : e = k := by
  have h1 := seg_snoc hk hpk m
  have h2 := seg_snoc he hpe m
  simp at h1 h2
  rcases Nat.lt_trichotomy e k with h | h | h
  · have := seg_mono l (show p ≤ e + 1 by omega) (show e + 1 ≤ k by omega) m; omega
  · exact h
  · have := seg_mono l (show p ≤ k + 1 by omega) (show k + 1 ≤ e by omega) m; omega
end Go.Proofs.Ytckbbakajabhmaa
