/- The document's disk: a list of files in the order of their names. -/
import Derived.Test.YtnffjoflkeagfaaPair
namespace Go.Proofs.Ytnffjoflkeagfaa
open Go.RowKit Go.Maps

/-- a file of the list: four cells -/
def refC (p : List UInt8 × F) : List Value := [.string (mk p.1), .string (mk p.2.b), .int .i64 (p.2.s : Int), .bool p.2.u]
def refL (fs : Fs) : List Value := fs.flatMap refC
theorem refL_len (fs : Fs) : (refL fs).length = fs.length * 4 := by
  induction fs with
  | nil => rfl
  | cons p r ih => simp only [refL, List.flatMap_cons, List.length_append] at ih ⊢; rw [ih]; simp [refC]; omega
/-- a row of files in a block of S -/
def RowIn (S : Nat → Prop) (w : World) (v : Value) (fs : Fs) : Prop :=
  (v = .slice none 0 0 ∧ fs = []) ∨ ∃ g cap cur, v = .slice (some ⟨g, 0, none⟩) fs.length cap ∧ S g ∧ g < w.heap.size ∧ w.heap[g]? = some (.cells cur 73 (0, 0)) ∧ fs.length ≤ cap ∧ cap ≤ maxLen ∧ cur.size = cap * 4 ∧
    cur.toList.take (fs.length * 4) = refL fs
abbrev refO (fv : Value) (s : St) (wv : Bool) (left : Int) : Obj :=
  .cells #[.int .i64 (s.room : Int), fv, .bool s.down, .bool wv, .int .i64 left] 39 (0, 0)
structure RefO (S : Nat → Prop) (w : World) (rb : Nat) (s : St) (fv : Value) (wv : Bool) (left : Int) : Prop where
  mine : S rb
  block : w.heap[rb]? = some (refO fv s wv left)
  brk : s.down = false → wv = s.waits ∧ (s.waits = true → left = (s.more : Int))
  row : RowIn S w fv s.fs
  fit : Fit s
def RefAt (S : Nat → Prop) (w : World) (rb : Nat) (s : St) : Prop := ∃ fv wv left, RefO S w rb s fv wv left
def RefQ (rb : Nat) (s : St) : (Nat → Prop) → World → Prop := fun S w => RefAt S w rb s
section
variable {S S' : Nat → Prop} {w w' : World} {rb : Nat} {s : St} {fv : Value} {wv : Bool} {left : Int}
theorem RefO.lt (h : RefO S w rb s fv wv left) : rb < w.heap.size := (Array.getElem?_eq_some_iff.1 h.block).1
theorem RefO.c0 (h : RefO S w rb s fv wv left) : w.cell? ⟨rb, 0, none⟩ = some (.int .i64 (s.room : Int)) := by rw [Lib.cell_of_heap h.block]; rfl
theorem RefO.c1 (h : RefO S w rb s fv wv left) : w.cell? ⟨rb, 1, none⟩ = some fv := by rw [Lib.cell_of_heap h.block]; rfl
theorem RefO.c2 (h : RefO S w rb s fv wv left) : w.cell? ⟨rb, 2, none⟩ = some (.bool s.down) := by rw [Lib.cell_of_heap h.block]; rfl
theorem RefO.c3 (h : RefO S w rb s fv wv left) : w.cell? ⟨rb, 3, none⟩ = some (.bool wv) := by rw [Lib.cell_of_heap h.block]; rfl
theorem RefO.c4 (h : RefO S w rb s fv wv left) : w.cell? ⟨rb, 4, none⟩ = some (.int .i64 left) := by rw [Lib.cell_of_heap h.block]; rfl
theorem RefO.f (h : RefO S w rb s fv wv left) (j : Nat) : w.frozen? ⟨rb, j, none⟩ = false := Lib.frozen_of_heap h.block j
theorem RowIn.keep (h : RowIn S w fv s.fs) (hs : w.heap.size ≤ w'.heap.size) (hb : ∀ g, S g → g < w.heap.size → w'.heap[g]? = w.heap[g]?) (hS : ∀ g, g < w.heap.size → S g → S' g) : RowIn S' w' fv s.fs := by
  rcases h with h | ⟨g, cap, cur, rfl, h1, h2, h3, r⟩
  · exact .inl h
  · exact .inr ⟨g, cap, cur, rfl, hS g h2 h1, Nat.lt_of_lt_of_le h2 hs, (hb g h1 h2).trans h3, r⟩
theorem RefAt.other (h : RefAt S w rb s) (hk : Kept S' w w') (hS : ∀ k, k < w.heap.size → S k → ¬ S' k) : RefAt S w' rb s := by
  obtain ⟨fv, wv, left, h⟩ := h
  exact ⟨fv, wv, left, h.mine, (hk.block rb h.lt (hS rb h.lt h.mine)).trans h.block, h.brk, h.row.keep hk.size (fun g hg hl => hk.block g hl (hS g hl hg)) (fun _ _ hg => hg), h.fit⟩
theorem RefAt.mono (h : RefAt S w rb s) (hS : ∀ k, k < w.heap.size → S k → S' k) : RefAt S' w rb s := by
  obtain ⟨fv, wv, left, h⟩ := h
  exact ⟨fv, wv, left, hS rb h.lt h.mine, h.block, h.brk, h.row.keep (Nat.le_refl _) (fun _ _ _ => rfl) hS, h.fit⟩
theorem RefAt.tight (h : RefAt S w rb s) : RefAt (fun k => S k ∧ k < w.heap.size) w rb s := h.mono (fun _ hl hk => ⟨hk, hl⟩)
theorem refThing (rb : Nat) (s : St) : Thing (RefQ rb s) := ⟨fun h hS => RefAt.mono h hS, fun h => RefAt.tight h, fun h hk hS => RefAt.other h hk hS⟩
theorem RefAt.below (h : RefAt S w rb s) (hb : Below w.heap.size w w') : RefAt S w' rb s := (refThing rb s).below h hb
/-- a file's four cells -/
theorem ref_row {a : Option Addr} {n c j : Nat} {fs : Fs} {p : List UInt8 × F} (h : RowIn S w (.slice a n c) fs) (hp : fs[j]? = some p) :
    ∃ g, a = some ⟨g, 0, none⟩ ∧ n = fs.length ∧ n ≤ c ∧ S g ∧ g < w.heap.size ∧ w.cell? ⟨g, j * 4, none⟩ = some (.string (mk p.1)) ∧ w.cell? ⟨g, j * 4 + 1, none⟩ = some (.string (mk p.2.b)) ∧
      w.cell? ⟨g, j * 4 + 2, none⟩ = some (.int .i64 (p.2.s : Int)) ∧ w.cell? ⟨g, j * 4 + 3, none⟩ = some (.bool p.2.u) ∧ ∀ i, w.frozen? ⟨g, i, none⟩ = false := by
  have hlt := (List.getElem?_eq_some_iff.1 hp).1
  rcases h with ⟨_, rfl⟩ | ⟨g, cap, cur, e, h1, h2, h3, h4, h5, h6, h7⟩
  · simp at hp
  · cases e
    have hcell : ∀ (i : Nat) (u : Value), i < 4 → (refC p)[i]? = some u → cur[j * 4 + i]? = some u := by
      intro i u hi hu
      have hL : ∀ (l : Fs) (m : Nat), l[m]? = some p → (refL l)[m * 4 + i]? = some u := by
        intro l
        induction l with
        | nil => intro m hm; simp at hm
        | cons q r ih =>
          intro m hm
          have e : refL (q :: r) = refC q ++ refL r := by simp [refL]
          rw [e]
          cases m with
          | zero =>
            simp only [List.getElem?_cons_zero, Option.some.injEq] at hm
            subst hm
            rw [Nat.zero_mul, Nat.zero_add, List.getElem?_append_left (by simp [refC]; omega)]
            exact hu
          | succ m =>
            rw [List.getElem?_append_right (by simp [refC]; omega), show (m + 1) * 4 + i - (refC q).length = m * 4 + i by simp [refC]; omega]
            exact ih m (by simpa using hm)
      have h8 := hL fs j hp
      rw [← h7, List.getElem?_take] at h8
      split at h8
      · simpa using h8
      · cases h8
    have hc : ∀ i, w.cell? ⟨g, i, none⟩ = cur[i]? := fun i => by rw [Lib.cell_of_heap h3]
    exact ⟨g, rfl, rfl, h4, h1, h2, (hc _).trans (hcell 0 _ (by omega) rfl), (hc _).trans (hcell 1 _ (by omega) rfl), (hc _).trans (hcell 2 _ (by omega) rfl), (hc _).trans (hcell 3 _ (by omega) rfl), fun i => Lib.frozen_of_heap h3 i⟩
theorem RowIn.slice {fs : Fs} (h : RowIn S w fv fs) : ∃ a c, fv = .slice a fs.length c := by
  rcases h with ⟨rfl, rfl⟩ | ⟨g, cap, cur, rfl, _⟩
  · exact ⟨_, _, rfl⟩
  · exact ⟨_, _, rfl⟩
end
set_option maxHeartbeats 1000000 in
theorem refNew_any {S : Nat → Prop} (w : World) (hS : ∀ k, w.heap.size ≤ k → S k) (room : Int) (hr : room ≤ 9223372036854775807) :
    Calls Try.prog 11 #[.int .i64 room] w fun e w' => e = .returned (ptrV w.heap.size) ∧ RefAt S w' w.heap.size (newS room) ∧ Below w.heap.size w w' := by
  have hd : RefAt S (w.alloc (refO (.slice none 0 0) (newS room) false 0)) w.heap.size (newS room) :=
    ⟨_, _, _, hS _ (Nat.le_refl _), heap_alloc_new w _, fun _ => ⟨rfl, fun h => by cases h⟩, .inl ⟨rfl, rfl⟩, ⟨by simp [newS, Sorted], by simp [newS, usedF], by simp only [newS]; omega, by simp [newS], by simp [newS], by simp [newS]⟩⟩
  have hm : max room 0 = ((newS room).room : Int) := by simp only [newS]; omega
  have HD := Lib.hid hd
  have HM := Lib.hid hm
  clear hd hm
  go_enter Try.func11, Try.ntmps11
  go_wp2
  go_ret
  rw [HM.out]
  exact ⟨rfl, HD.out, (Below.refl _ _).alloc (Nat.le_refl _) _⟩
set_option maxRecDepth 100000 in
set_option maxHeartbeats 2000000 in
theorem refUsed_any {S : Nat → Prop} {w : World} {rb : Nat} {s : St} (h : RefAt S w rb s) (hc : s.fs.length ≤ 1099511627776) :
    Calls Try.prog 17 #[ptrV rb] w fun e w' => e = .returned (.int .i64 (usedF s.fs : Int)) ∧ w = w' := by
  obtain ⟨fv, wv, left, h⟩ := h
  obtain ⟨a, c, rfl⟩ := h.row.slice
  have c1 := h.c1
  have hR := Lib.hid h.row
  have hu := h.fit.room
  have hri := h.fit.roomI
  clear h
  go_enter Try.func17, Try.ntmps17
  go_wp2
  go_loopw [3, 4] (fun n i wr => ∃ k : Nat, k ≤ s.fs.length ∧ i = .int .i64 k ∧ n = .int .i64 (usedF (s.fs.take k) : Nat) ∧ wr = w) (fun n i _ => s.fs.length - (intOf i).toNat)
  case atStart => exact ⟨0, by omega, rfl, rfl, rfl⟩
  case round =>
    obtain ⟨k, hk, rfl, rfl, rfl⟩ := hrel
    by_cases hlt : k < s.fs.length
    · have hlti : (k : Int) < (s.fs.length : Int) := by omega
      obtain ⟨p, hp⟩ : ∃ p, s.fs[k]? = some p := ⟨s.fs[k], List.getElem?_eq_getElem hlt⟩
      obtain ⟨g, rfl, _, hcap, _, _, x0, x1, _⟩ := ref_row hR.out hp
      have hus : Hid (usedF (s.fs.take (k + 1)) = usedF (s.fs.take k) + p.2.b.length) := by show _ = _; rw [take_snocA _ _ _ hp, used_append]; simp [usedF]
      have hub : usedF (s.fs.take k) + p.2.b.length ≤ 9223372036854775807 := by
        have e : usedF (s.fs.take (k + 1) ++ s.fs.drop (k + 1)) = _ := used_append _ _
        rw [List.take_append_drop] at e; have := hus.out; omega
      have hnb : (mk p.2.b).size = p.2.b.length := mk_size _
      generalize usedF (s.fs.take k) = U at *
      clear hp
      go_wp2
      go_roundw
      case rel => exact ⟨k + 1, by omega, by go_num, by rw [hus.out]; first | (congr 1; omega) | simp, by first | rfl | trivial⟩
      case measure => simp [intOf]; omega
    · have hlti : ¬ (k : Int) < (s.fs.length : Int) := by omega
      have hke : s.fs.take k = s.fs := List.take_of_length_le (by omega)
      rw [hke]
      clear hke
      go_wp2
      go_ret
      exact ⟨rfl, by first | rfl | trivial⟩
end Go.Proofs.Ytnffjoflkeagfaa
