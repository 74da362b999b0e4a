/- The document's table: a list of pairs behind a pointer; Find, Until, Valid, Over. -/
import Derived.Test.YtckbbakajabhmaaWait
namespace Go.Proofs.Ytckbbakajabhmaa
open Go.RowKit Go.Maps

abbrev PL := List (Int × Int)
def lookL : PL → G
  | [], _ => none
  | p :: r, k => if p.1 = k then some p.2 else lookL r k
def findF : Nat → PL → Int → Int
  | _, [], _ => -1
  | j, p :: r, k => if p.1 = k then (j : Int) else findF (j + 1) r k
theorem find_none : ∀ (L : PL) (j : Nat) (k : Int), lookL L k = none → findF j L k = -1
  | [], _, _, _ => rfl
  | p :: r, j, k, h => by
    unfold lookL at h; unfold findF
    split at h
    · cases h
    · rw [if_neg ‹_›]; exact find_none r _ k h
theorem find_some : ∀ (L : PL) (j : Nat) (k e : Int), lookL L k = some e → ∃ i : Nat, findF j L k = ((j + i : Nat) : Int) ∧ L[i]? = some (k, e) ∧ lookL (L.take i) k = none
  | [], _, _, _, h => by cases h
  | p :: r, j, k, e, h => by
    unfold lookL at h; unfold findF
    by_cases c : p.1 = k
    · rw [if_pos c] at h ⊢
      cases h
      exact ⟨0, rfl, by simp [← c], rfl⟩
    · rw [if_neg c] at h ⊢
      obtain ⟨i, h1, h2, h3⟩ := find_some r (j + 1) k e h
      refine ⟨i + 1, by rw [h1]; congr 1; omega, by simpa using h2, ?_⟩
      rw [List.take_succ_cons]; unfold lookL; rw [if_neg c]; exact h3
theorem look_append (L M : PL) (y : Int) : lookL (L ++ M) y = match lookL L y with | some e => some e | none => lookL M y := by
  induction L with
  | nil => rfl
  | cons p r ih => simp only [List.cons_append, lookL]; split <;> simp [ih]
theorem look_snoc {L : PL} {k : Int} (h : lookL L k = none) (u : Int) : lookL (L ++ [(k, u)]) = upd (lookL L) k (some u) := by
  funext y
  rw [look_append]
  by_cases c : y = k
  · subst c; rw [h, upd_same]; simp [lookL]
  · rw [upd_other _ _ c]
    have : ¬ k = y := fun e => c e.symm
    cases e : lookL L y <;> simp [lookL, this]
theorem split_at {L : PL} {i : Nat} {p : Int × Int} (h : L[i]? = some p) : L = L.take i ++ p :: L.drop (i + 1) := by
  obtain ⟨hi, e⟩ := List.getElem?_eq_some_iff.1 h
  rw [← e, List.getElem_cons_drop, List.take_append_drop]
theorem look_set {L : PL} {i : Nat} {k e : Int} (h : L[i]? = some (k, e)) (hn : lookL (L.take i) k = none) (x : Int) : lookL (L.set i (k, x)) = upd (lookL L) k (some x) := by
  have hi := (List.getElem?_eq_some_iff.1 h).1
  have e1 : L.set i (k, x) = L.take i ++ (k, x) :: L.drop (i + 1) := by rw [List.set_eq_take_append_cons_drop, if_pos hi]
  have e2 : ∀ y, lookL L y = lookL (L.take i ++ (k, e) :: L.drop (i + 1)) y := fun y => by rw [← split_at h]
  funext y
  rw [e1, look_append]
  by_cases c : y = k
  · subst c; rw [hn, upd_same]; simp [lookL]
  · rw [upd_other _ _ c, e2, look_append]
    have : ¬ k = y := fun e => c e.symm
    simp [lookL, this]
def Keys (L : PL) : Prop := (L.map (·.1)).Nodup
theorem look_mem {L : PL} {k : Int} : lookL L k = none ↔ k ∉ L.map (·.1) := by
  induction L with
  | nil => simp [lookL]
  | cons p r ih =>
    unfold lookL
    by_cases c : p.1 = k
    · simp [c]
    · rw [if_neg c, ih]; simp [show ¬ k = p.1 from fun e => c e.symm]
theorem look_erase {L : PL} (hd : Keys L) {i : Nat} {k e : Int} (h : L[i]? = some (k, e)) (hn : lookL (L.take i) k = none) : lookL (L.take i ++ L.drop (i + 1)) = upd (lookL L) k none := by
  have e2 : ∀ y, lookL L y = lookL (L.take i ++ (k, e) :: L.drop (i + 1)) y := fun y => by rw [← split_at h]
  funext y
  rw [look_append]
  by_cases c : y = k
  · subst c
    rw [hn, upd_same]
    unfold Keys at hd
    rw [split_at h, List.map_append, List.map_cons, List.nodup_append] at hd
    exact look_mem.2 (List.nodup_cons.1 hd.2.1).1
  · rw [upd_other _ _ c, e2, look_append]
    have : ¬ k = y := fun e => c e.symm
    simp [lookL, this]
theorem keys_snoc {L : PL} (h : Keys L) {k : Int} (hn : lookL L k = none) (u : Int) : Keys (L ++ [(k, u)]) := by
  unfold Keys at *
  rw [List.map_append, List.nodup_append]
  refine ⟨h, by simp, fun a ha b hb => ?_⟩
  have hb' : b = k := by simpa using hb
  subst hb'
  exact fun e => look_mem.1 hn (e ▸ ha)
theorem keys_set {L : PL} (h : Keys L) {i : Nat} {k e : Int} (hg : L[i]? = some (k, e)) (x : Int) : Keys (L.set i (k, x)) := by
  unfold Keys at *
  have : (L.set i (k, x)).map (·.1) = L.map (·.1) := by
    rw [List.map_set]
    apply List.ext_getElem?
    intro j
    rw [List.getElem?_set]
    split
    · rename_i c; subst c
      rw [List.getElem?_map, hg]
      have := (List.getElem?_eq_some_iff.1 hg).1
      simp [this]
    · rfl
  rw [this]; exact h
theorem keys_erase {L : PL} (h : Keys L) {i : Nat} {p : Int × Int} (hg : L[i]? = some p) : Keys (L.take i ++ L.drop (i + 1)) := by
  unfold Keys at *
  have hsub : (L.take i ++ L.drop (i + 1)).Sublist L := by
    have := (List.Sublist.refl (L.take i)).append (List.sublist_cons_self p (L.drop (i + 1)))
    rwa [← split_at hg] at this
  exact h.sublist (hsub.map _)

/-! in memory -/
def pairL (L : PL) : List Value := L.flatMap (fun p => [.int .i64 p.1, .int .i64 p.2])
theorem pairL_cons (p : Int × Int) (r : PL) : pairL (p :: r) = .int .i64 p.1 :: .int .i64 p.2 :: pairL r := by simp [pairL]
theorem pairL_append (a b : PL) : pairL (a ++ b) = pairL a ++ pairL b := by simp [pairL]
theorem pairL_len : ∀ L : PL, (pairL L).length = L.length * 2
  | [] => rfl
  | p :: r => by rw [pairL_cons]; simp only [List.length_cons, pairL_len r]; omega
theorem pairL_get : ∀ {L : PL} {j : Nat} {p : Int × Int}, L[j]? = some p → (pairL L)[j * 2]? = some (.int .i64 p.1) ∧ (pairL L)[j * 2 + 1]? = some (.int .i64 p.2)
  | [], j, p, h => by simp at h
  | q :: r, 0, p, h => by
    have : q = p := by simpa using h
    subst this; rw [pairL_cons]; exact ⟨rfl, rfl⟩
  | q :: r, j + 1, p, h => by
    rw [pairL_cons, show (j + 1) * 2 = j * 2 + 1 + 1 by omega]
    simp only [List.getElem?_cons_succ]
    exact pairL_get (by simpa using h)
theorem pairL_set : ∀ {L : PL} {j : Nat} {p : Int × Int} (x : Int), L[j]? = some p → pairL (L.set j (p.1, x)) = (pairL L).set (j * 2 + 1) (.int .i64 x)
  | [], j, p, x, h => by simp at h
  | q :: r, 0, p, x, h => by
    have : q = p := by simpa using h
    subst this; rfl
  | q :: r, j + 1, p, x, h => by
    rw [List.set_cons_succ, pairL_cons, pairL_cons, pairL_set x (by simpa using h), show (j + 1) * 2 + 1 = j * 2 + 1 + 1 + 1 by omega]
    simp only [List.set_cons_succ]
theorem pairL_one (L : PL) : ∀ u ∈ pairL L, u.oneCell' = true := by
  intro u hu
  obtain ⟨p, _, h⟩ := List.mem_flatMap.1 hu
  simp only [List.mem_cons, List.not_mem_nil, or_false] at h
  rcases h with rfl | rfl <;> rfl
theorem pairL_take : ∀ (L : PL) (i : Nat), pairL (L.take i) = (pairL L).take (i * 2)
  | [], i => by simp [pairL]
  | p :: r, 0 => by simp [pairL]
  | p :: r, i + 1 => by rw [List.take_succ_cons, pairL_cons, pairL_cons, pairL_take r i, show (i + 1) * 2 = i * 2 + 1 + 1 by omega]; rfl
theorem pairL_drop : ∀ (L : PL) (i : Nat), pairL (L.drop i) = (pairL L).drop (i * 2)
  | [], i => by simp [pairL]
  | p :: r, 0 => by simp [pairL]
  | p :: r, i + 1 => by rw [List.drop_succ_cons, pairL_cons, pairL_drop r i, show (i + 1) * 2 = i * 2 + 1 + 1 by omega]; rfl
/-- the block rb is a table of these pairs, whose row is v -/
structure RO (S : Nat → Prop) (w : World) (rb : Nat) (L : PL) (v : Value) : Prop where
  mine : S rb
  block : w.heap[rb]? = some (.cells #[v] 39 (0, 0))
  row : w.ownsRow 0 64 2 v L.length (pairL L)
  own : ∀ g, v.ownBlock = some g → S g ∧ g ≠ rb
def RTab (S : Nat → Prop) (w : World) (rb n : Nat) (g : G) : Prop := ∃ L v, RO S w rb L v ∧ Keys L ∧ lookL L = g ∧ L.length ≤ n
def RQ (rb n : Nat) (g : G) : (Nat → Prop) → World → Prop := fun S w => RTab S w rb n g
theorem rThing (rb n : Nat) (g : G) : Thing (RQ rb n g) := by
  refine ⟨fun {S S' w} h hS => ?_, fun {S w} h => ?_, fun {S S' w w'} h hk hS => ?_⟩
  · obtain ⟨L, v, h, r⟩ := h
    exact ⟨L, v, ⟨hS _ (heap_lt h.block) h.mine, h.block, h.row, fun g hg => ⟨hS _ (h.row.lt g hg).2 (h.own g hg).1, (h.own g hg).2⟩⟩, r⟩
  · obtain ⟨L, v, h, r⟩ := h
    exact ⟨L, v, ⟨⟨h.mine, heap_lt h.block⟩, h.block, h.row, fun g hg => ⟨⟨(h.own g hg).1, (h.row.lt g hg).2⟩, (h.own g hg).2⟩⟩, r⟩
  · obtain ⟨L, v, h, r⟩ := h
    exact ⟨L, v, ⟨h.mine, (hk.block _ (heap_lt h.block) (hS _ (heap_lt h.block) h.mine)).trans h.block, own_keep h.row (fun g hg _ hl => hk.block g hl (hS g hl (h.own g hg).1)), h.own⟩, r⟩
theorem rtab_new {S : Nat → Prop} (w : World) (hS : S w.heap.size) : RTab S (w.alloc (.cells #[.slice none 0 0] 39)) w.heap.size 0 noG :=
  ⟨[], _, ⟨hS, heap_alloc_new w _, World.ownsRow_nil _ _ _ _, fun g hg => by simp [Value.ownBlock] at hg⟩, by simp [Keys], rfl, Nat.zero_le _⟩
/-- a pair's cells -/
theorem RO.get {S : Nat → Prop} {w : World} {rb : Nat} {L : PL} {a : Option Addr} {m c j : Nat} {p : Int × Int} (h : RO S w rb L (.slice a m c)) (hp : L[j]? = some p) :
    ∃ g, a = some ⟨g, 0, none⟩ ∧ m = L.length ∧ m ≤ c ∧ g ≠ rb ∧ S g ∧ g < w.heap.size ∧ w.cell? ⟨g, j * 2, none⟩ = some (.int .i64 p.1) ∧ w.cell? ⟨g, j * 2 + 1, none⟩ = some (.int .i64 p.2) ∧ ∀ i, w.frozen? ⟨g, i, none⟩ = false := by
  have hj := (List.getElem?_eq_some_iff.1 hp).1
  obtain ⟨p1, p2⟩ := pairL_get hp
  have hr := h.row
  rcases hr.2 with ⟨e, e0⟩ | ⟨g, cap, cur, e, _, hg, hc, _, _, _⟩
  · omega
  · cases e
    refine ⟨g, rfl, rfl, hc, (h.own g rfl).2, (h.own g rfl).1, heap_lt hg, ?_, ?_, fun i => Lib.frozen_of_heap hg i⟩
    · rw [hr.cellAt _ (by omega)]; exact p1
    · rw [hr.cellAt _ (by omega)]; exact p2
theorem RO.slice {S : Nat → Prop} {w : World} {rb : Nat} {L : PL} {v : Value} (h : RO S w rb L v) : ∃ a c, v = .slice a L.length c := by
  rcases h.row.2 with ⟨rfl, e0⟩ | ⟨g, cap, cur, rfl, _⟩
  · exact ⟨_, _, by rw [e0]⟩
  · exact ⟨_, _, rfl⟩
set_option maxRecDepth 100000 in
set_option maxHeartbeats 2000000 in
theorem rFind_any {S : Nat → Prop} {w : World} {rb : Nat} {L : PL} {v : Value} (h : RO S w rb L v) (hc : L.length ≤ 1099511627776) (k : Int) :
    Calls Try.prog 37 #[ptrV rb, .int .i64 k] w fun e w' => e = .returned (.int .i64 (findF 0 L k)) ∧ w = w' := by
  obtain ⟨a, c, rfl⟩ := h.slice
  have c0 : w.cell? ⟨rb, 0, none⟩ = some (.slice a L.length c) := by rw [Lib.cell_of_heap h.block]; rfl
  have hR := Lib.hid h
  clear h
  go_enter Try.func37, Try.ntmps37
  go_wp2
  go_loopw [5] (fun i wr => ∃ j : Nat, j ≤ L.length ∧ i = .int .i64 j ∧ Hid (findF 0 L k = findF j (L.drop j) k) ∧ wr = w) (fun i _ => L.length - (intOf i).toNat)
  case atStart => exact ⟨0, by omega, rfl, rfl, rfl⟩
  case round =>
    obtain ⟨j, hj, rfl, hn, rfl⟩ := hrel
    by_cases hlt : j < L.length
    · have hlti : (j : Int) < (L.length : Int) := by omega
      obtain ⟨p, hp⟩ : ∃ p, L[j]? = some p := ⟨L[j], List.getElem?_eq_getElem hlt⟩
      obtain ⟨g, rfl, _, hcap, _, _, _, x0, x1, _⟩ := hR.out.get hp
      have hd : L.drop j = p :: L.drop (j + 1) := by
        obtain ⟨h1, h2⟩ := List.getElem?_eq_some_iff.1 hp
        rw [List.drop_eq_getElem_cons h1, h2]
      by_cases he : p.1 = k
      · have HP : Hid (findF 0 L k = (j : Int)) := by show _ = _; rw [hn.out, hd, findF, if_pos he]
        clear hp hd hn
        go_wp2
        go_ret
        exact ⟨ret_int HP.out.symm, rfl⟩
      · have HP : Hid (findF 0 L k = findF (j + 1) (L.drop (j + 1)) k) := by show _ = _; rw [hn.out, hd, findF, if_neg he]
        clear hp hd hn
        go_wp2
        go_roundw
        case rel => exact ⟨j + 1, by omega, by go_num, HP, by first | rfl | trivial⟩
        case measure => simp [intOf]; omega
    · have hlti : ¬ (j : Int) < (L.length : Int) := by omega
      have HP : Hid (findF 0 L k = -1) := by show _ = _; rw [hn.out, List.drop_eq_nil_of_le (by omega)]; rfl
      clear hn
      go_wp2
      go_ret
      exact ⟨ret_int HP.out.symm, rfl⟩
end Go.Proofs.Ytckbbakajabhmaa
