/- The document's disk: a list of files in the order of their names. The document's disk: its files told, one found, the power. The document's disk: Read, Break, Wipe, the power within a change. The document's disk: its names, its files. -/
import Derived.Test.YtnffjoflkeagfaaGreatD6
namespace Go.Proofs.YtnffjoflkeagfaaGreat
open Go.RowKit Go.Maps

/-- a file of the list: four cells -/
def refC (p : List UInt8 × F) : List Value := [.string (mk p.1), .string (mk p.2.b), .int .i64 (p.2.s : Int), .bool p.2.u]
def refL (fs : Fs) : List Value := fs.flatMap refC
theorem refL_len (fs : Fs) : (refL fs).length = fs.length * 4 := by
  induction fs with
  | nil => rfl
  | cons p r ih => simp only [refL, List.flatMap_cons, List.length_append] at ih ⊢; rw [ih]; simp [refC]; omega
/-- a row of files in a block of S -/
def RowIn (S : Nat → Prop) (w : World) (v : Value) (fs : Fs) : Prop :=
  (v = .slice none 0 0 ∧ fs = []) ∨ ∃ g cap cur, v = .slice (some ⟨g, 0, none⟩) fs.length cap ∧ S g ∧ g < w.heap.size ∧ w.heap[g]? = some (.cells cur 70 (0, 0)) ∧ fs.length ≤ cap ∧ cap ≤ maxLen ∧ cur.size = cap * 4 ∧
    cur.toList.take (fs.length * 4) = refL fs
abbrev refO (fv : Value) (s : St) (wv : Bool) (left : Int) : Obj :=
  .cells #[.int .i64 (s.room : Int), fv, .bool s.down, .bool wv, .int .i64 left] 56 (0, 0)
structure RefO (S : Nat → Prop) (w : World) (rb : Nat) (s : St) (fv : Value) (wv : Bool) (left : Int) : Prop where
  mine : S rb
  block : w.heap[rb]? = some (refO fv s wv left)
  brk : s.down = false → wv = s.waits ∧ (s.waits = true → left = (s.more : Int))
  row : RowIn S w fv s.fs
  fit : Fit s
def RefAt (S : Nat → Prop) (w : World) (rb : Nat) (s : St) : Prop := ∃ fv wv left, RefO S w rb s fv wv left
def RefQ (rb : Nat) (s : St) : (Nat → Prop) → World → Prop := fun S w => RefAt S w rb s
section
variable {S S' : Nat → Prop} {w w' : World} {rb : Nat} {s : St} {fv : Value} {wv : Bool} {left : Int}
theorem RefO.lt (h : RefO S w rb s fv wv left) : rb < w.heap.size := (Array.getElem?_eq_some_iff.1 h.block).1
theorem RefO.c0 (h : RefO S w rb s fv wv left) : w.cell? ⟨rb, 0, none⟩ = some (.int .i64 (s.room : Int)) := by rw [Lib.cell_of_heap h.block]; rfl
theorem RefO.c1 (h : RefO S w rb s fv wv left) : w.cell? ⟨rb, 1, none⟩ = some fv := by rw [Lib.cell_of_heap h.block]; rfl
theorem RefO.c2 (h : RefO S w rb s fv wv left) : w.cell? ⟨rb, 2, none⟩ = some (.bool s.down) := by rw [Lib.cell_of_heap h.block]; rfl
theorem RefO.c3 (h : RefO S w rb s fv wv left) : w.cell? ⟨rb, 3, none⟩ = some (.bool wv) := by rw [Lib.cell_of_heap h.block]; rfl
theorem RefO.c4 (h : RefO S w rb s fv wv left) : w.cell? ⟨rb, 4, none⟩ = some (.int .i64 left) := by rw [Lib.cell_of_heap h.block]; rfl
theorem RefO.f (h : RefO S w rb s fv wv left) (j : Nat) : w.frozen? ⟨rb, j, none⟩ = false := Lib.frozen_of_heap h.block j
theorem RowIn.keep (h : RowIn S w fv s.fs) (hs : w.heap.size ≤ w'.heap.size) (hb : ∀ g, S g → g < w.heap.size → w'.heap[g]? = w.heap[g]?) (hS : ∀ g, g < w.heap.size → S g → S' g) : RowIn S' w' fv s.fs := by
  rcases h with h | ⟨g, cap, cur, rfl, h1, h2, h3, r⟩
  · exact .inl h
  · exact .inr ⟨g, cap, cur, rfl, hS g h2 h1, Nat.lt_of_lt_of_le h2 hs, (hb g h1 h2).trans h3, r⟩
theorem RefAt.other (h : RefAt S w rb s) (hk : Kept S' w w') (hS : ∀ k, k < w.heap.size → S k → ¬ S' k) : RefAt S w' rb s := by
  obtain ⟨fv, wv, left, h⟩ := h
  exact ⟨fv, wv, left, h.mine, (hk.block rb h.lt (hS rb h.lt h.mine)).trans h.block, h.brk, h.row.keep hk.size (fun g hg hl => hk.block g hl (hS g hl hg)) (fun _ _ hg => hg), h.fit⟩
theorem RefAt.mono (h : RefAt S w rb s) (hS : ∀ k, k < w.heap.size → S k → S' k) : RefAt S' w rb s := by
  obtain ⟨fv, wv, left, h⟩ := h
  exact ⟨fv, wv, left, hS rb h.lt h.mine, h.block, h.brk, h.row.keep (Nat.le_refl _) (fun _ _ _ => rfl) hS, h.fit⟩
theorem RefAt.tight (h : RefAt S w rb s) : RefAt (fun k => S k ∧ k < w.heap.size) w rb s := h.mono (fun _ hl hk => ⟨hk, hl⟩)
theorem refThing (rb : Nat) (s : St) : Thing (RefQ rb s) := ⟨fun h hS => RefAt.mono h hS, fun h => RefAt.tight h, fun h hk hS => RefAt.other h hk hS⟩
theorem RefAt.below (h : RefAt S w rb s) (hb : Below w.heap.size w w') : RefAt S w' rb s := (refThing rb s).below h hb
/-- a file's four cells -/
theorem ref_row {a : Option Addr} {n c j : Nat} {fs : Fs} {p : List UInt8 × F} (h : RowIn S w (.slice a n c) fs) (hp : fs[j]? = some p) :
    ∃ g, a = some ⟨g, 0, none⟩ ∧ n = fs.length ∧ n ≤ c ∧ S g ∧ g < w.heap.size ∧ w.cell? ⟨g, j * 4, none⟩ = some (.string (mk p.1)) ∧ w.cell? ⟨g, j * 4 + 1, none⟩ = some (.string (mk p.2.b)) ∧
      w.cell? ⟨g, j * 4 + 2, none⟩ = some (.int .i64 (p.2.s : Int)) ∧ w.cell? ⟨g, j * 4 + 3, none⟩ = some (.bool p.2.u) ∧ ∀ i, w.frozen? ⟨g, i, none⟩ = false := by
  have hlt := (List.getElem?_eq_some_iff.1 hp).1
  rcases h with ⟨_, rfl⟩ | ⟨g, cap, cur, e, h1, h2, h3, h4, h5, h6, h7⟩
  · simp at hp
  · cases e
    have hcell : ∀ (i : Nat) (u : Value), i < 4 → (refC p)[i]? = some u → cur[j * 4 + i]? = some u := by
      intro i u hi hu
      have hL : ∀ (l : Fs) (m : Nat), l[m]? = some p → (refL l)[m * 4 + i]? = some u := by
        intro l
        induction l with
        | nil => intro m hm; simp at hm
        | cons q r ih =>
          intro m hm
          have e : refL (q :: r) = refC q ++ refL r := by simp [refL]
          rw [e]
          cases m with
          | zero =>
            simp only [List.getElem?_cons_zero, Option.some.injEq] at hm
            subst hm
            rw [Nat.zero_mul, Nat.zero_add, List.getElem?_append_left (by simp [refC]; omega)]
            exact hu
          | succ m =>
            rw [List.getElem?_append_right (by simp [refC]; omega), show (m + 1) * 4 + i - (refC q).length = m * 4 + i by simp [refC]; omega]
            exact ih m (by simpa using hm)
      have h8 := hL fs j hp
      rw [← h7, List.getElem?_take] at h8
      split at h8
      · simpa using h8
      · cases h8
    have hc : ∀ i, w.cell? ⟨g, i, none⟩ = cur[i]? := fun i => by rw [Lib.cell_of_heap h3]
    exact ⟨g, rfl, rfl, h4, h1, h2, (hc _).trans (hcell 0 _ (by omega) rfl), (hc _).trans (hcell 1 _ (by omega) rfl), (hc _).trans (hcell 2 _ (by omega) rfl), (hc _).trans (hcell 3 _ (by omega) rfl), fun i => Lib.frozen_of_heap h3 i⟩
theorem RowIn.slice {fs : Fs} (h : RowIn S w fv fs) : ∃ a c, fv = .slice a fs.length c := by
  rcases h with ⟨rfl, rfl⟩ | ⟨g, cap, cur, rfl, _⟩
  · exact ⟨_, _, rfl⟩
  · exact ⟨_, _, rfl⟩
end
set_option maxHeartbeats 1000000 in
theorem refNew_any {S : Nat → Prop} (w : World) (hS : ∀ k, w.heap.size ≤ k → S k) (room : Int) (hr : room ≤ 9223372036854775807) :
    Calls Tryz.prog 7 #[.int .i64 room] w fun e w' => e = .returned (ptrV w.heap.size) ∧ RefAt S w' w.heap.size (newS room) ∧ Below w.heap.size w w' := by
  have hd : RefAt S (w.alloc (refO (.slice none 0 0) (newS room) false 0)) w.heap.size (newS room) :=
    ⟨_, _, _, hS _ (Nat.le_refl _), heap_alloc_new w _, fun _ => ⟨rfl, fun h => by cases h⟩, .inl ⟨rfl, rfl⟩, ⟨by simp [newS, Sorted], by simp [newS, usedF], by simp only [newS]; omega, by simp [newS], by simp [newS], by simp [newS]⟩⟩
  have hm : max room 0 = ((newS room).room : Int) := by simp only [newS]; omega
  have HD := Lib.hid hd
  have HM := Lib.hid hm
  clear hd hm
  go_enter Tryz.func7, Tryz.ntmps7
  go_wp2
  go_ret
  rw [HM.out]
  exact ⟨rfl, HD.out, (Below.refl _ _).alloc (Nat.le_refl _) _⟩
set_option maxRecDepth 100000 in
set_option maxHeartbeats 2000000 in
theorem refUsed_any {S : Nat → Prop} {w : World} {rb : Nat} {s : St} (h : RefAt S w rb s) (hc : s.fs.length ≤ 1099511627776) :
    Calls Tryz.prog 51 #[ptrV rb] w fun e w' => e = .returned (.int .i64 (usedF s.fs : Int)) ∧ w = w' := by
  obtain ⟨fv, wv, left, h⟩ := h
  obtain ⟨a, c, rfl⟩ := h.row.slice
  have c1 := h.c1
  have hR := Lib.hid h.row
  have hu := h.fit.room
  have hri := h.fit.roomI
  clear h
  go_enter Tryz.func51, Tryz.ntmps51
  go_wp2
  go_loopw [3, 4] (fun n i wr => ∃ k : Nat, k ≤ s.fs.length ∧ i = .int .i64 k ∧ n = .int .i64 (usedF (s.fs.take k) : Nat) ∧ wr = w) (fun n i _ => s.fs.length - (intOf i).toNat)
  case atStart => exact ⟨0, by omega, rfl, rfl, rfl⟩
  case round =>
    obtain ⟨k, hk, rfl, rfl, rfl⟩ := hrel
    by_cases hlt : k < s.fs.length
    · have hlti : (k : Int) < (s.fs.length : Int) := by omega
      obtain ⟨p, hp⟩ : ∃ p, s.fs[k]? = some p := ⟨s.fs[k], List.getElem?_eq_getElem hlt⟩
      obtain ⟨g, rfl, _, hcap, _, _, x0, x1, _⟩ := ref_row hR.out hp
      have hus : Hid (usedF (s.fs.take (k + 1)) = usedF (s.fs.take k) + p.2.b.length) := by show _ = _; rw [take_snocA _ _ _ hp, used_append]; simp [usedF]
      have hub : usedF (s.fs.take k) + p.2.b.length ≤ 9223372036854775807 := by
        have e : usedF (s.fs.take (k + 1) ++ s.fs.drop (k + 1)) = _ := used_append _ _
        rw [List.take_append_drop] at e; have := hus.out; omega
      have hnb : (mk p.2.b).size = p.2.b.length := mk_size _
      generalize usedF (s.fs.take k) = U at *
      clear hp
      go_wp2
      go_roundw
      case rel => exact ⟨k + 1, by omega, by go_num, by rw [hus.out]; first | (congr 1; omega) | simp, by first | rfl | trivial⟩
      case measure => simp [intOf]; omega
    · have hlti : ¬ (k : Int) < (s.fs.length : Int) := by omega
      have hke : s.fs.take k = s.fs := List.take_of_length_le (by omega)
      rw [hke]
      clear hke
      go_wp2
      go_ret
      exact ⟨rfl, by first | rfl | trivial⟩
end Go.Proofs.YtnffjoflkeagfaaGreat
namespace Go.Proofs.YtnffjoflkeagfaaGreat
open Go.RowKit Go.Maps

/-- the place of a name; none: -1 -/
def placeI : Fs → List UInt8 → Nat → Int
  | [], _, _ => -1
  | p :: r, k, i => if p.1 = k then (i : Int) else placeI r k (i + 1)
theorem place_some : ∀ {fs : Fs} {k : List UInt8} {i j : Nat}, fs[j]?.map (·.1) = some k → (∀ q, q < j → fs[q]?.map (·.1) ≠ some k) → placeI fs k i = ((i + j : Nat) : Int)
  | [], _, _, _, h, _ => by simp at h
  | p :: r, k, i, 0, h, _ => by
    have : p.1 = k := by simpa using h
    simp [placeI, this]
  | p :: r, k, i, j + 1, h, hn => by
    have h0 : p.1 ≠ k := fun e => hn 0 (by omega) (by simp [e])
    rw [placeI, if_neg h0, place_some (i := i + 1) (j := j) (by simpa using h) (fun q hq => by have := hn (q + 1) (by omega); simpa using this)]
    congr 1; omega
theorem place_none : ∀ {fs : Fs} {k : List UInt8} {i : Nat}, (∀ q, q < fs.length → fs[q]?.map (·.1) ≠ some k) → placeI fs k i = -1
  | [], _, _, _ => rfl
  | p :: r, k, i, hn => by
    have h0 : p.1 ≠ k := fun e => hn 0 (by simp) (by simp [e])
    rw [placeI, if_neg h0]
    exact place_none (fun q hq => by have := hn (q + 1) (by simp; omega); simpa using this)
theorem place_look {fs : Fs} {k : List UInt8} {i : Nat} (h : placeI fs k i = -1) : look fs k = none := by
  induction fs generalizing i with
  | nil => rfl
  | cons p r ih =>
    unfold placeI at h
    split at h
    · omega
    · rename_i hn
      rw [look, if_neg hn]; exact ih h
theorem place_get {fs : Fs} {k : List UInt8} {i : Nat} (h : placeI fs k i ≠ -1) : ∃ j f, placeI fs k i = ((i + j : Nat) : Int) ∧ fs[j]? = some (k, f) ∧ look fs k = some f := by
  induction fs generalizing i with
  | nil => exact absurd rfl h
  | cons p r ih =>
    unfold placeI at h ⊢
    by_cases hp : p.1 = k
    · exact ⟨0, p.2, by rw [if_pos hp]; simp, by simp [← hp], by simp [look, hp]⟩
    · rw [if_neg hp] at h ⊢
      obtain ⟨j, f, h1, h2, h3⟩ := ih h
      exact ⟨j + 1, f, by rw [h1]; congr 1; omega, by simpa using h2, by rw [look, if_neg hp]; exact h3⟩
set_option maxRecDepth 100000 in
set_option maxHeartbeats 2000000 in
theorem refFind_any {S : Nat → Prop} {w : World} {rb : Nat} {s : St} (h : RefAt S w rb s) (hc : s.fs.length ≤ 1099511627776) (name : ByteArray) :
    Calls Tryz.prog 76 #[ptrV rb, .string name] w fun e w' => e = .returned (.int .i64 (placeI s.fs (bs name) 0)) ∧ w = w' := by
  obtain ⟨fv, wv, left, h⟩ := h
  obtain ⟨a, c, rfl⟩ := h.row.slice
  have c1 := h.c1
  have hR := Lib.hid h.row
  clear h
  go_enter Tryz.func76, Tryz.ntmps76
  go_wp2
  go_loopw [5] (fun i wr => ∃ k : Nat, k ≤ s.fs.length ∧ i = .int .i64 k ∧ (∀ q, q < k → s.fs[q]?.map (·.1) ≠ some (bs name)) ∧ wr = w) (fun i _ => s.fs.length - (intOf i).toNat)
  case atStart => exact ⟨0, by omega, rfl, fun q hq => by omega, rfl⟩
  case round =>
    obtain ⟨k, hk, rfl, hn, rfl⟩ := hrel
    have HN := Lib.hid hn
    clear hn
    by_cases hlt : k < s.fs.length
    · have hlti : (k : Int) < (s.fs.length : Int) := by omega
      obtain ⟨p, hp⟩ : ∃ p, s.fs[k]? = some p := ⟨s.fs[k], List.getElem?_eq_getElem hlt⟩
      obtain ⟨g, rfl, _, hcap, _, _, x0, x1, _⟩ := ref_row hR.out hp
      by_cases he : p.1 = bs name
      · have hq : p.1 = name.toList := by rw [he, Lib.toList_data]
        have HP : Hid (placeI s.fs (bs name) 0 = (k : Int)) := by show _ = _; rw [place_some (i := 0) (j := k) (by rw [hp]; simp [he]) HN.out]; simp
        clear hp he
        go_wp2
        go_ret
        exact ⟨ret_int HP.out.symm, rfl⟩
      · have hq : ¬ p.1 = name.toList := fun e => he (by rw [e, Lib.toList_data])
        have hq2 : (p.1 == name.toList) = false := by rw [beq_eq_false_iff_ne]; exact hq
        have HPX := Lib.hid hp
        have HE := Lib.hid he
        clear hp he
        go_wp2
        go_roundw
        case rel =>
          refine ⟨k + 1, by omega, by go_num, fun q hq' => ?_, by first | rfl | trivial⟩
          by_cases e : q = k
          · subst e; rw [HPX.out]; simpa using HE.out
          · exact HN.out q (by omega)
        case measure => simp [intOf]; omega
    · have hlti : ¬ (k : Int) < (s.fs.length : Int) := by omega
      have HP : Hid (placeI s.fs (bs name) 0 = -1) := place_none (fun q hq => HN.out q (by omega))
      go_wp2
      go_ret
      exact ⟨ret_int HP.out.symm, rfl⟩
/-- the errno of a file that must be there -/
def mustE (s : St) (k : List UInt8) : Int := if s.down = true then 41 else needE s k
theorem ret2i {a a' b b' : Int} (h1 : a = a') (h2 : b = b') : Ending.returned (.tuple #[.int .i64 a, .int .i64 b]) = .returned (.tuple #[.int .i64 a', .int .i64 b']) := by rw [h1, h2]
set_option maxRecDepth 100000 in
set_option maxHeartbeats 2000000 in
theorem refMust_any {S : Nat → Prop} {w : World} {rb : Nat} {s : St} (h : RefAt S w rb s) (hc : s.fs.length ≤ 1099511627776) (name : ByteArray) :
    Calls Tryz.prog 71 #[ptrV rb, .string name] w fun e w' => e = .returned (.tuple #[.int .i64 (placeI s.fs (bs name) 0), .int .i64 (mustE s (bs name))]) ∧ w = w' := by
  have hf := refFind_any h hc name
  obtain ⟨fv, wv, left, h⟩ := h
  have c2 := h.c2
  have hnd : placeI s.fs (bs name) 0 < 0 ↔ (look s.fs (bs name)).isSome = false := by
    by_cases hp : placeI s.fs (bs name) 0 = -1
    · rw [hp, place_look hp]; simp
    · obtain ⟨j, f, e1, _, e3⟩ := place_get hp
      rw [e1, e3]; simp
  have hm : Hid (mustE s (bs name) = if s.down = true then 41 else if placeI s.fs (bs name) 0 < 0 then 42 else 0) := by
    show _ = _
    unfold mustE needE
    by_cases hd : s.down = true
    · rw [if_pos hd, if_pos hd]
    · rw [if_neg hd, if_neg hd]
      by_cases hp : placeI s.fs (bs name) 0 < 0
      · rw [if_pos hp, if_neg (by rw [hnd.1 hp]; simp)]
      · rw [if_neg hp, if_pos (by cases e : (look s.fs (bs name)).isSome with | true => rfl | false => exact absurd (hnd.2 e) hp)]
  clear h hnd
  generalize placeI s.fs (bs name) 0 = I at *
  generalize mustE s (bs name) = E at *
  generalize s.down = dn at *
  by_cases hI : I < 0
  · have HE : Hid (E = if dn = true then 41 else 42) := by show _ = _; rw [hm.out, if_pos hI]
    clear hm
    cases dn with
    | true =>
      go_enter Tryz.func71, Tryz.ntmps71
      go_wp2_with fail
      refine hf.mono ?_
      rintro e w1 ⟨rfl, rfl⟩
      go_wp2
      go_ret2
      exact ⟨ret2i rfl HE.out.symm, rfl⟩
    | false =>
      go_enter Tryz.func71, Tryz.ntmps71
      go_wp2_with fail
      refine hf.mono ?_
      rintro e w1 ⟨rfl, rfl⟩
      go_wp2
      go_ret2
      exact ⟨ret2i rfl (by rw [HE.out]; rfl), rfl⟩
  · have HE : Hid (E = if dn = true then 41 else 0) := by show _ = _; rw [hm.out, if_neg hI]
    clear hm
    cases dn with
    | true =>
      go_enter Tryz.func71, Tryz.ntmps71
      go_wp2_with fail
      refine hf.mono ?_
      rintro e w1 ⟨rfl, rfl⟩
      go_wp2
      go_ret2
      exact ⟨ret2i rfl HE.out.symm, rfl⟩
    | false =>
      go_enter Tryz.func71, Tryz.ntmps71
      go_wp2_with fail
      refine hf.mono ?_
      rintro e w1 ⟨rfl, rfl⟩
      go_wp2
      go_ret2
      exact ⟨ret2i rfl (by rw [HE.out]; rfl), rfl⟩
end Go.Proofs.YtnffjoflkeagfaaGreat
namespace Go.Proofs.YtnffjoflkeagfaaGreat
open Go.RowKit Go.Maps

section
variable {S S' : Nat → Prop} {w w' : World} {rb : Nat} {s : St} {fv : Value} {wv : Bool} {left : Int}
theorem RefO.apart (h : RefO S w rb s fv wv left) {g : Nat} {cur : Array Value} (hg : w.heap[g]? = some (.cells cur 70 (0, 0))) : g ≠ rb := by
  intro e
  subst e
  have := h.block.symm.trans hg
  injection this with e1
  injection e1 with _ e2 _
  exact absurd e2 (by decide)
/-- the disk's own block anew -/
theorem RefO.reblock {s' : St} {wv' : Bool} {left' : Int} (h : RefO S w rb s fv wv left) (hs : w'.heap.size = w.heap.size) (hb : ∀ k, k ≠ rb → w'.heap[k]? = w.heap[k]?) (hblk : w'.heap[rb]? = some (refO fv s' wv' left')) (hfs : s'.fs = s.fs)
    (hbrk : s'.down = false → wv' = s'.waits ∧ (s'.waits = true → left' = (s'.more : Int))) (hfit : Fit s') : RefO S w' rb s' fv wv' left' := by
  refine ⟨h.mine, hblk, hbrk, ?_, hfit⟩
  rw [hfs]
  rcases h.row with r | ⟨g, cap, cur, e, h1, h2, h3, r⟩
  · exact .inl r
  · exact .inr ⟨g, cap, cur, e, h1, by omega, (hb g (h.apart h3)).trans h3, r⟩
end
set_option maxRecDepth 100000 in
set_option maxHeartbeats 2000000 in
theorem refRead_any {S : Nat → Prop} {w : World} {rb : Nat} {s : St} (h : RefAt S w rb s) (hc : s.fs.length ≤ 1099511627776) (name : ByteArray) :
    Calls Tryz.prog 39 #[ptrV rb, .string name] w fun e w' => e = .returned (.tuple #[.string (mk (readS s (bs name)).1), .int .i64 (readS s (bs name)).2]) ∧ w = w' := by
  have hm := refMust_any h hc name
  obtain ⟨fv, wv, left, h⟩ := h
  obtain ⟨a, c, rfl⟩ := h.row.slice
  have c1 := h.c1
  have hR := Lib.hid h.row
  by_cases hd : s.down = true
  · have HR : Hid (readS s (bs name) = ([], 41)) := by show _ = _; unfold readS; rw [if_pos hd]
    have HE : mustE s (bs name) = 41 := by unfold mustE; rw [if_pos hd]
    rw [HE] at hm
    clear h hd HE
    generalize readS s (bs name) = R at *
    go_enter Tryz.func39, Tryz.ntmps39
    go_wp2_with fail
    refine hm.mono ?_
    rintro e w1 ⟨rfl, rfl⟩
    go_wp2
    go_ret2
    exact ⟨ret2s (by rw [HR.out]) (by rw [HR.out]), rfl⟩
  · by_cases hp : placeI s.fs (bs name) 0 = -1
    · have HR : Hid (readS s (bs name) = ([], 42)) := by show _ = _; unfold readS; rw [if_neg hd, if_neg (by rw [place_look hp]; simp)]
      have HE : mustE s (bs name) = 42 := by unfold mustE needE; rw [if_neg hd, if_neg (by rw [place_look hp]; simp)]
      rw [HE] at hm
      clear h hd HE
      generalize readS s (bs name) = R at *
      go_enter Tryz.func39, Tryz.ntmps39
      go_wp2_with fail
      refine hm.mono ?_
      rintro e w1 ⟨rfl, rfl⟩
      go_wp2
      go_ret2
      exact ⟨ret2s (by rw [HR.out]) (by rw [HR.out]), rfl⟩
    · obtain ⟨j, f, e1, e2, e3⟩ := place_get hp
      have HR : Hid (readS s (bs name) = (f.b, 0)) := by show _ = _; unfold readS; rw [if_neg hd, if_pos (by rw [e3]; rfl), getF_look e3]
      have HE : mustE s (bs name) = 0 := by unfold mustE needE; rw [if_neg hd, if_pos (by rw [e3]; rfl)]
      rw [Nat.zero_add] at e1
      rw [HE, e1] at hm
      obtain ⟨g, rfl, _, hcap, _, _, x0, x1, _⟩ := ref_row hR.out e2
      have hlt := (List.getElem?_eq_some_iff.1 e2).1
      have hlti : (j : Int) < (s.fs.length : Int) := by omega
      clear h hd HE hp e1 e2 e3
      generalize readS s (bs name) = R at *
      go_enter Tryz.func39, Tryz.ntmps39
      go_wp2_with fail
      refine hm.mono ?_
      rintro e w1 ⟨rfl, rfl⟩
      go_wp2
      go_ret2
      exact ⟨ret2s (by rw [HR.out]) (by rw [HR.out]), rfl⟩
set_option maxHeartbeats 1000000 in
theorem refBreak_any {S : Nat → Prop} {w : World} {rb : Nat} {s : St} (h : RefAt S w rb s) (n : Int) (hn : n ≤ 9223372036854775807) :
    Calls Tryz.prog 25 #[ptrV rb, .int .i64 n] w fun e w' => e = .returned (.tuple #[]) ∧ RefAt S w' rb (breakS s n) ∧ Kept S w w' := by
  obtain ⟨fv, wv, left, h⟩ := h
  have c2 := h.c2
  have c3 := h.c3
  have c4 := h.c4
  have f3 := h.f 3
  have f4 := h.f 4
  have H := Lib.hid h
  clear h
  cases hd : s.down with
  | true =>
    have HB : Hid (breakS s n = s) := by show _ = _; unfold breakS; rw [if_pos hd]
    rw [hd] at c2
    clear hd
    generalize breakS s n = T at *
    go_enter Tryz.func25, Tryz.ntmps25
    go_wp2
    go_end0
    rw [HB.out]
    exact ⟨rfl, ⟨_, _, _, H.out⟩, Kept.refl _ _⟩
  | false =>
    have HB : Hid (breakS s n = { s with waits := true, more := n.toNat }) := by show _ = _; unfold breakS; rw [if_neg (by rw [hd]; simp)]
    rw [hd] at c2
    have HD := Lib.hid hd
    clear hd
    generalize breakS s n = T at *
    go_enter Tryz.func25, Tryz.ntmps25
    go_wp2
    go_end0
    rw [HB.out]
    refine ⟨rfl, ⟨fv, true, max n 0, H.out.reblock (by simp [World.setCell]) (fun k hk => ?_) ?_ rfl (fun _ => ⟨rfl, fun _ => by simp only; omega⟩) (fit_same H.out.fit _ _ _ (by omega))⟩, ((Kept.refl S w).set (.inl H.out.mine) _).set (.inl H.out.mine) _⟩
    · rw [Below.heap_setCell _ _ _ _ hk, Below.heap_setCell _ _ _ _ hk]
    · have hb := H.out.block
      simp [World.setCell, Array.getElem?_modify, hb, refO]
set_option maxHeartbeats 1000000 in
theorem refBreaks_any {S : Nat → Prop} {w : World} {rb : Nat} {s : St} {fv : Value} {wv : Bool} {left : Int} (h : RefO S w rb s fv wv left) (hd : s.down = false) :
    Calls Tryz.prog 52 #[ptrV rb] w fun e w' => e = .returned (.bool (brkB s)) ∧ (∃ wv' left', RefO S w' rb (brkS s) fv wv' left') ∧ w.grownBy w' (some rb) := by
  have c2 := h.c2
  rw [hd] at c2
  have c3 := h.c3
  have c4 := h.c4
  have f2 := h.f 2
  have f3 := h.f 3
  have f4 := h.f 4
  obtain ⟨e1, e2⟩ := h.brk hd
  have H := Lib.hid h
  clear h
  by_cases hw : s.waits = true
  · rw [hw] at e1
    subst e1
    have e3 := e2 hw
    subst e3
    clear e2
    by_cases hm : s.more = 0
    · have HB : Hid (brkB s = true) := by show _ = _; unfold brkB; rw [hw, hm]; rfl
      have HS : Hid (brkS s = { s with down := true, waits := false }) := by show _ = _; unfold brkS; rw [if_pos hw, if_pos hm]
      have hm0 : decide ((0 : Int) < (s.more : Int)) = false := by simp [hm]
      clear hd
      generalize brkB s = B at *
      generalize brkS s = T at *
      go_enter Tryz.func52, Tryz.ntmps52
      go_wp2
      go_ret
      refine ⟨ret_bool HB.out.symm, ?_, but_set (but_set (but_refl _ _) _ _) _ _⟩
      rw [HS.out]
      refine ⟨false, (s.more : Int), H.out.reblock (by simp [World.setCell]) (fun k hk => ?_) ?_ rfl (fun h => by cases h) (fit_same H.out.fit _ _ _ H.out.fit.moreI)⟩
      · rw [Below.heap_setCell _ _ _ _ hk, Below.heap_setCell _ _ _ _ hk]
      · have hb := H.out.block
        simp [World.setCell, Array.getElem?_modify, hb, refO]
    · have HB : Hid (brkB s = false) := by show _ = _; unfold brkB; rw [hw]; simpa using hm
      have HS : Hid (brkS s = { s with more := s.more - 1 }) := by show _ = _; unfold brkS; rw [if_pos hw, if_neg hm]
      have hm0 : (0 : Int) < (s.more : Int) := by omega
      have hmi := H.out.fit.moreI
      have hm1 : Hid (((s.more - 1 : Nat) : Int) = (s.more : Int) - 1) := by show _ = _; omega
      clear hd
      generalize brkB s = B at *
      generalize brkS s = T at *
      go_enter Tryz.func52, Tryz.ntmps52
      go_wp2
      go_ret
      refine ⟨ret_bool HB.out.symm, ?_, but_set (but_refl _ _) _ _⟩
      rw [HS.out]
      refine ⟨true, _, H.out.reblock (by simp [World.setCell]) (fun k hk => ?_) ?_ rfl (fun _ => ⟨hw.symm, fun _ => hm1.out.symm⟩) (fit_same H.out.fit _ _ _ (by omega))⟩
      · rw [Below.heap_setCell _ _ _ _ hk]
      · have hb := H.out.block
        simp [World.setCell, Array.getElem?_modify, hb, refO]
  · have hw' : s.waits = false := by simpa using hw
    rw [hw'] at e1
    subst e1
    clear e2
    have HB : Hid (brkB s = false) := by show _ = _; unfold brkB; rw [hw']; rfl
    have HS : Hid (brkS s = s) := by show _ = _; unfold brkS; rw [if_neg hw]
    clear hd hw hw'
    generalize brkB s = B at *
    generalize brkS s = T at *
    go_enter Tryz.func52, Tryz.ntmps52
    go_wp2
    go_ret
    refine ⟨ret_bool HB.out.symm, ?_, but_refl _ _⟩
    rw [HS.out]
    exact ⟨false, _, H.out⟩
end Go.Proofs.YtnffjoflkeagfaaGreat
namespace Go.Proofs.YtnffjoflkeagfaaGreat
open Go.RowKit Go.Maps

theorem ones1 (a : ByteArray) : ∀ u ∈ [Value.string a], u.oneCell' = true := by
  intro u hu; simp at hu; subst hu; rfl
def nameL (fs : Fs) : List Value := fs.map (fun p => Value.string (mk p.1))
set_option maxRecDepth 100000 in
set_option maxHeartbeats 4000000 in
theorem refKept_any {S : Nat → Prop} {w : World} {rb : Nat} {s : St} (h : RefAt S w rb s) (hc : s.fs.length ≤ 1099511627776) :
    Calls Tryz.prog 12 #[ptrV rb] w fun e w' => ∃ v, e = .returned v ∧ w'.ownsRow w.heap.size 65 3 v s.fs.length (keptL s.fs) ∧ Below w.heap.size w w' := by
  obtain ⟨fv, wv, left, h⟩ := h
  obtain ⟨a, c, rfl⟩ := h.row.slice
  have c1 := h.c1
  have hR := Lib.hid h.row
  have hlt0 := h.lt
  clear h
  obtain ⟨i0, hi, hz0, hz1, hz2⟩ := info_parts (show (Tryz.prog.info? 65).map (fun i => (i.zero, i.size, i.bytes)) = some (some (.agg #[.string ⟨#[]⟩, .string ⟨#[]⟩, .int .i64 0]), 3, 40) by kernel_rfl)
  go_enter Tryz.func12, Tryz.ntmps12
  go_wp2
  go_loopw [3, 4] (fun l i wr => ∃ k : Nat, k ≤ s.fs.length ∧ i = .int .i64 k ∧ wr.ownsRow w.heap.size 65 3 l k (keptL (s.fs.take k)) ∧ Below w.heap.size w wr) (fun l i _ => s.fs.length - (intOf i).toNat)
  case atStart => exact ⟨0, by omega, rfl, World.ownsRow_nil _ _ _ _, Below.refl _ _⟩
  case round =>
    obtain ⟨k, hk, rfl, hx, hbw⟩ := hrel
    obtain ⟨la, lc, rfl⟩ := row_slice hx
    have HX := Lib.hid hx
    have HW := Lib.hid hbw
    have c1' : wr.cell? ⟨rb, 1, none⟩ = _ := (hbw.cell (p := ⟨rb, 1, none⟩) hlt0).trans c1
    clear hx hbw
    by_cases hlt : k < s.fs.length
    · have hlti : (k : Int) < (s.fs.length : Int) := by omega
      obtain ⟨p, hp⟩ : ∃ p, s.fs[k]? = some p := ⟨s.fs[k], List.getElem?_eq_getElem hlt⟩
      obtain ⟨g, rfl, _, hcap, _, hgl, x0, x1, x2, x3, _⟩ := ref_row hR.out hp
      have y0 : wr.cell? ⟨g, k * 4, none⟩ = _ := (HW.out.cell (p := ⟨g, k * 4, none⟩) hgl).trans x0
      have y1 : wr.cell? ⟨g, k * 4 + 1, none⟩ = _ := (HW.out.cell (p := ⟨g, k * 4 + 1, none⟩) hgl).trans x1
      have y2 : wr.cell? ⟨g, k * 4 + 2, none⟩ = _ := (HW.out.cell (p := ⟨g, k * 4 + 2, none⟩) hgl).trans x2
      have y3 : wr.cell? ⟨g, k * 4 + 3, none⟩ = _ := (HW.out.cell (p := ⟨g, k * 4 + 3, none⟩) hgl).trans x3
      have HP := Lib.hid hp
      have hsz1 := HW.out.size
      clear hp x0 x1 x2 x3
      go_wp2_with (at_builtin; go_loud (refine wpList_append_own _ rfl _ _ 40 rfl w.heap.size 65 i0 (.agg #[.string ⟨#[]⟩, .string ⟨#[]⟩, .int .i64 0]) 3 40 Tryz.underlying40 hi hz0 hz1 hz2 rfl (by decide) _ _ _ rfl ((HX.out.alloc _).alloc _) ⟨_, 0, none⟩ 1 1 [.string (mk p.1), .string (mk p.2.b), .int .i64 (p.2.s : Int)] rfl rfl (newsAt _ _ [.string (mk p.1), .string (mk p.2.b), .int .i64 (p.2.s : Int)] _ (by simp)) (ones3 _ _ _) (by unfold maxLen; omega) (by omega) (by simp; omega) ?_))
      intro v' w9 hown' hgrow hne
      have HO9 := Lib.hid hown'
      have HB9 : Hid (Below w.heap.size w w9) := ((HW.out.alloc HW.out.size _).alloc (by simp; omega) _).grown hgrow (by simp; omega) (fun j hj => (HX.out.lt j hj).1)
      clear hown' hgrow hne
      go_wp2
      go_roundw
      case rel =>
        refine ⟨k + 1, by omega, by go_num, ?_, HB9.out⟩
        have e : keptL (s.fs.take (k + 1)) = keptL (s.fs.take k) ++ [.string (mk p.1), .string (mk p.2.b), .int .i64 (p.2.s : Int)] := by
          rw [take_snocA _ _ _ HP.out]; simp [keptL, keptC]
        rw [e]; exact HO9.out
      case measure => simp [intOf]; omega
    · have hke : k = s.fs.length := by omega
      have HX2 : Hid (wr.ownsRow w.heap.size 65 3 (.slice la k lc) s.fs.length (keptL s.fs)) := by
        have := HX.out
        rw [hke, List.take_of_length_le (Nat.le_refl _)] at this
        rw [hke]; exact this
      clear hke
      go_wp2
      go_ret
      exact ⟨_, rfl, HX2.out, HW.out⟩
end Go.Proofs.YtnffjoflkeagfaaGreat
