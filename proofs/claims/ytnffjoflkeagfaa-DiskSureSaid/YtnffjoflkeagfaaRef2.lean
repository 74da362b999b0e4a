/- The document's disk: its files told, one found, the power. -/
import Derived.Test.YtnffjoflkeagfaaRef1
namespace Go.Proofs.Ytnffjoflkeagfaa
open Go.RowKit Go.Maps

/-- the place of a name; none: -1 -/
def placeI : Fs → List UInt8 → Nat → Int
  | [], _, _ => -1
  | p :: r, k, i => if p.1 = k then (i : Int) else placeI r k (i + 1)
theorem place_some : ∀ {fs : Fs} {k : List UInt8} {i j : Nat}, fs[j]?.map (·.1) = some k → (∀ q, q < j → fs[q]?.map (·.1) ≠ some k) → placeI fs k i = ((i + j : Nat) : Int)
  | [], _, _, _, h, _ => by simp at h
  | p :: r, k, i, 0, h, _ => by
    have : p.1 = k := by simpa using h
    simp [placeI, this]
  | p :: r, k, i, j + 1, h, hn => by
    have h0 : p.1 ≠ k := fun e => hn 0 (by omega) (by simp [e])
    rw [placeI, if_neg h0, place_some (i := i + 1) (j := j) (by simpa using h) (fun q hq => by have := hn (q + 1) (by omega); simpa using this)]
    congr 1; omega
theorem place_none : ∀ {fs : Fs} {k : List UInt8} {i : Nat}, (∀ q, q < fs.length → fs[q]?.map (·.1) ≠ some k) → placeI fs k i = -1
  | [], _, _, _ => rfl
  | p :: r, k, i, hn => by
    have h0 : p.1 ≠ k := fun e => hn 0 (by simp) (by simp [e])
    rw [placeI, if_neg h0]
    exact place_none (fun q hq => by have := hn (q + 1) (by simp; omega); simpa using this)
theorem place_look {fs : Fs} {k : List UInt8} {i : Nat} (h : placeI fs k i = -1) : look fs k = none := by
  induction fs generalizing i with
  | nil => rfl
  | cons p r ih =>
    unfold placeI at h
    split at h
    · omega
    · rename_i hn
      rw [look, if_neg hn]; exact ih h
theorem place_get {fs : Fs} {k : List UInt8} {i : Nat} (h : placeI fs k i ≠ -1) : ∃ j f, placeI fs k i = ((i + j : Nat) : Int) ∧ fs[j]? = some (k, f) ∧ look fs k = some f := by
  induction fs generalizing i with
  | nil => exact absurd rfl h
  | cons p r ih =>
    unfold placeI at h ⊢
    by_cases hp : p.1 = k
    · exact ⟨0, p.2, by rw [if_pos hp]; simp, by simp [← hp], by simp [look, hp]⟩
    · rw [if_neg hp] at h ⊢
      obtain ⟨j, f, h1, h2, h3⟩ := ih h
      exact ⟨j + 1, f, by rw [h1]; congr 1; omega, by simpa using h2, by rw [look, if_neg hp]; exact h3⟩
set_option maxRecDepth 100000 in
set_option maxHeartbeats 2000000 in
theorem refFind_any {S : Nat → Prop} {w : World} {rb : Nat} {s : St} (h : RefAt S w rb s) (hc : s.fs.length ≤ 1099511627776) (name : ByteArray) :
    Calls Try.prog 70 #[ptrV rb, .string name] w fun e w' => e = .returned (.int .i64 (placeI s.fs (bs name) 0)) ∧ w = w' := by
  obtain ⟨fv, wv, left, h⟩ := h
  obtain ⟨a, c, rfl⟩ := h.row.slice
  have c1 := h.c1
  have hR := Lib.hid h.row
  clear h
  go_enter Try.func70, Try.ntmps70
  go_wp2
  go_loopw [5] (fun i wr => ∃ k : Nat, k ≤ s.fs.length ∧ i = .int .i64 k ∧ (∀ q, q < k → s.fs[q]?.map (·.1) ≠ some (bs name)) ∧ wr = w) (fun i _ => s.fs.length - (intOf i).toNat)
  case atStart => exact ⟨0, by omega, rfl, fun q hq => by omega, rfl⟩
  case round =>
    obtain ⟨k, hk, rfl, hn, rfl⟩ := hrel
    have HN := Lib.hid hn
    clear hn
    by_cases hlt : k < s.fs.length
    · have hlti : (k : Int) < (s.fs.length : Int) := by omega
      obtain ⟨p, hp⟩ : ∃ p, s.fs[k]? = some p := ⟨s.fs[k], List.getElem?_eq_getElem hlt⟩
      obtain ⟨g, rfl, _, hcap, _, _, x0, x1, _⟩ := ref_row hR.out hp
      by_cases he : p.1 = bs name
      · have hq : p.1 = name.toList := by rw [he, Lib.toList_data]
        have HP : Hid (placeI s.fs (bs name) 0 = (k : Int)) := by show _ = _; rw [place_some (i := 0) (j := k) (by rw [hp]; simp [he]) HN.out]; simp
        clear hp he
        go_wp2
        go_ret
        exact ⟨ret_int HP.out.symm, rfl⟩
      · have hq : ¬ p.1 = name.toList := fun e => he (by rw [e, Lib.toList_data])
        have hq2 : (p.1 == name.toList) = false := by rw [beq_eq_false_iff_ne]; exact hq
        have HPX := Lib.hid hp
        have HE := Lib.hid he
        clear hp he
        go_wp2
        go_roundw
        case rel =>
          refine ⟨k + 1, by omega, by go_num, fun q hq' => ?_, by first | rfl | trivial⟩
          by_cases e : q = k
          · subst e; rw [HPX.out]; simpa using HE.out
          · exact HN.out q (by omega)
        case measure => simp [intOf]; omega
    · have hlti : ¬ (k : Int) < (s.fs.length : Int) := by omega
      have HP : Hid (placeI s.fs (bs name) 0 = -1) := place_none (fun q hq => HN.out q (by omega))
      go_wp2
      go_ret
      exact ⟨ret_int HP.out.symm, rfl⟩
/-- the errno of a file that must be there -/
def mustE (s : St) (k : List UInt8) : Int := if s.down = true then 41 else needE s k
theorem ret2i {a a' b b' : Int} (h1 : a = a') (h2 : b = b') : Ending.returned (.tuple #[.int .i64 a, .int .i64 b]) = .returned (.tuple #[.int .i64 a', .int .i64 b']) := by rw [h1, h2]
set_option maxRecDepth 100000 in
set_option maxHeartbeats 2000000 in
theorem refMust_any {S : Nat → Prop} {w : World} {rb : Nat} {s : St} (h : RefAt S w rb s) (hc : s.fs.length ≤ 1099511627776) (name : ByteArray) :
    Calls Try.prog 67 #[ptrV rb, .string name] w fun e w' => e = .returned (.tuple #[.int .i64 (placeI s.fs (bs name) 0), .int .i64 (mustE s (bs name))]) ∧ w = w' := by
  have hf := refFind_any h hc name
  obtain ⟨fv, wv, left, h⟩ := h
  have c2 := h.c2
  have hnd : placeI s.fs (bs name) 0 < 0 ↔ (look s.fs (bs name)).isSome = false := by
    by_cases hp : placeI s.fs (bs name) 0 = -1
    · rw [hp, place_look hp]; simp
    · obtain ⟨j, f, e1, _, e3⟩ := place_get hp
      rw [e1, e3]; simp
  have hm : Hid (mustE s (bs name) = if s.down = true then 41 else if placeI s.fs (bs name) 0 < 0 then 42 else 0) := by
    show _ = _
    unfold mustE needE
    by_cases hd : s.down = true
    · rw [if_pos hd, if_pos hd]
    · rw [if_neg hd, if_neg hd]
      by_cases hp : placeI s.fs (bs name) 0 < 0
      · rw [if_pos hp, if_neg (by rw [hnd.1 hp]; simp)]
      · rw [if_neg hp, if_pos (by cases e : (look s.fs (bs name)).isSome with | true => rfl | false => exact absurd (hnd.2 e) hp)]
  clear h hnd
  generalize placeI s.fs (bs name) 0 = I at *
  generalize mustE s (bs name) = E at *
  generalize s.down = dn at *
  by_cases hI : I < 0
  · have HE : Hid (E = if dn = true then 41 else 42) := by show _ = _; rw [hm.out, if_pos hI]
    clear hm
    cases dn with
    | true =>
      go_enter Try.func67, Try.ntmps67
      go_wp2_with fail
      refine hf.mono ?_
      rintro e w1 ⟨rfl, rfl⟩
      go_wp2
      go_ret2
      exact ⟨ret2i rfl HE.out.symm, rfl⟩
    | false =>
      go_enter Try.func67, Try.ntmps67
      go_wp2_with fail
      refine hf.mono ?_
      rintro e w1 ⟨rfl, rfl⟩
      go_wp2
      go_ret2
      exact ⟨ret2i rfl (by rw [HE.out]; rfl), rfl⟩
  · have HE : Hid (E = if dn = true then 41 else 0) := by show _ = _; rw [hm.out, if_neg hI]
    clear hm
    cases dn with
    | true =>
      go_enter Try.func67, Try.ntmps67
      go_wp2_with fail
      refine hf.mono ?_
      rintro e w1 ⟨rfl, rfl⟩
      go_wp2
      go_ret2
      exact ⟨ret2i rfl HE.out.symm, rfl⟩
    | false =>
      go_enter Try.func67, Try.ntmps67
      go_wp2_with fail
      refine hf.mono ?_
      rintro e w1 ⟨rfl, rfl⟩
      go_wp2
      go_ret2
      exact ⟨ret2i rfl (by rw [HE.out]; rfl), rfl⟩
end Go.Proofs.Ytnffjoflkeagfaa
