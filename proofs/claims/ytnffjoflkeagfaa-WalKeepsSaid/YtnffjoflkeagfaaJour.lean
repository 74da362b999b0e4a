/- A journal as mathematics: what its calls answer, over the disk's own mathematics. Plain. -/
import Derived.Test.YtnffjoflkeagfaaPair
import Derived.Test.YtnffjoflkeagfaaFSlice
namespace Go.Proofs.Ytnffjoflkeagfaa
open Go.RowKit Go.Maps

abbrev Recs := List ByteArray
/-- what is made of a file that was read -/
def cutsS (s : St) (k b : List UInt8) : Option Recs × Int × St :=
  if Fr.scanN b < b.length then
    if (cutS s k (Fr.scanN b : Int)).1 = 0 then (some (Fr.scanT b), 0, (cutS s k (Fr.scanN b : Int)).2) else (none, (cutS s k (Fr.scanN b : Int)).1, (cutS s k (Fr.scanN b : Int)).2)
  else (some (Fr.scanT b), 0, s)
/-- Open -/
def openS (s : St) (k : List UInt8) : Option Recs × Int × St := if s.down = true then (none, 41, s) else cutsS s k (getF s.fs k).b
/-- Append: what is answered, the records, the disk -/
def writeS (s : St) (k : List UInt8) (L l : Recs) : Int × Recs × St :=
  if (appendS s k (Fr.joinB l)).1 = 0 then
    if (syncS (appendS s k (Fr.joinB l)).2 k).1 = 0 then (0, L ++ l, (syncS (appendS s k (Fr.joinB l)).2 k).2) else ((syncS (appendS s k (Fr.joinB l)).2 k).1, L, (syncS (appendS s k (Fr.joinB l)).2 k).2)
  else ((appendS s k (Fr.joinB l)).1, L, (appendS s k (Fr.joinB l)).2)
/-- Rewrite -/
def otherS (s : St) (k : List UInt8) (L l : Recs) : Int × Recs × St :=
  if (replaceS s k (Fr.joinB l)).1 = 0 then (0, l, (replaceS s k (Fr.joinB l)).2) else ((replaceS s k (Fr.joinB l)).1, L, (replaceS s k (Fr.joinB l)).2)

theorem getF_none {fs : Fs} {k : List UInt8} (h : ¬ (look fs k).isSome = true) : getF fs k = F.zero := by
  unfold getF
  cases e : look fs k with
  | none => rfl
  | some f => rw [e] at h; simp at h
theorem read_up {s : St} (h : s.down = false) (k : List UInt8) : (readS s k).1 = (getF s.fs k).b ∧ ((readS s k).2 = 0 ∨ (readS s k).2 = 42) := by
  unfold readS
  rw [if_neg (by rw [h]; simp)]
  split
  · exact ⟨rfl, .inl rfl⟩
  · rename_i hn
    rw [getF_none hn]; exact ⟨rfl, .inr rfl⟩
theorem read_down {s : St} (h : s.down = true) (k : List UInt8) : readS s k = ([], 41) := by unfold readS; rw [if_pos h]
/-- a change answers 0, 41, or what it errs by -/
theorem changeS_ans (s : St) (e : Int) (f1 f2 : Fs) : (changeS s e f1 f2).1 = 0 ∨ (changeS s e f1 f2).1 = 41 ∨ ((changeS s e f1 f2).1 = e ∧ s.down = false ∧ (changeS s e f1 f2).2 = s) := by
  unfold changeS
  split
  · exact .inr (.inl rfl)
  · rename_i hd
    split
    · exact .inr (.inr ⟨rfl, by simpa using hd, rfl⟩)
    · split
      · split
        · exact .inr (.inl rfl)
        · exact .inl rfl
      · exact .inl rfl
theorem scan_pos {b : List UInt8} (h : Fr.scanN b < b.length) (fs : Fs) (k : List UInt8) (hb : b = (getF fs k).b) : (look fs k).isSome = true := by
  by_cases hh : (look fs k).isSome = true
  · exact hh
  · rw [hb, getF_none hh] at h
    simp [F.zero] at h
/-- what Open errs by is that the disk is down -/
theorem open_err (s : St) (k : List UInt8) (h : (openS s k).1 = none) : (openS s k).2.1 = 41 := by
  unfold openS at h ⊢
  by_cases hd : s.down = true
  · rw [if_pos hd]
  · rw [if_neg hd] at h ⊢
    unfold cutsS at h ⊢
    by_cases hl : Fr.scanN (getF s.fs k).b < (getF s.fs k).b.length
    · rw [if_pos hl] at h ⊢
      by_cases hc : (cutS s k (Fr.scanN (getF s.fs k).b : Int)).1 = 0
      · rw [if_pos hc] at h; cases h
      · rw [if_neg hc] at h ⊢
        have he : cutE s k (Fr.scanN (getF s.fs k).b : Int) = 0 := by
          unfold cutE
          rw [if_pos (scan_pos hl s.fs k rfl), if_neg (by omega)]
        rcases changeS_ans s (cutE s k (Fr.scanN (getF s.fs k).b : Int)) (putF s.fs k (cutF (getF s.fs k) (Fr.scanN (getF s.fs k).b : Int).toNat)) s.fs with h1 | h1 | h1
        · exact absurd h1 hc
        · exact h1
        · exact absurd (h1.1.trans he) hc
    · rw [if_neg hl] at h; cases h
theorem open_ok (s : St) (k : List UInt8) (L : Recs) (h : (openS s k).1 = some L) : (openS s k).2.1 = 0 ∧ s.down = false := by
  unfold openS at h ⊢
  by_cases hd : s.down = true
  · rw [if_pos hd] at h; cases h
  · rw [if_neg hd] at h ⊢
    refine ⟨?_, by simpa using hd⟩
    unfold cutsS at h ⊢
    split
    · split
      · rfl
      · rename_i h1 h2
        rw [if_pos h1, if_neg h2] at h; cases h
    · rfl
end Go.Proofs.Ytnffjoflkeagfaa
