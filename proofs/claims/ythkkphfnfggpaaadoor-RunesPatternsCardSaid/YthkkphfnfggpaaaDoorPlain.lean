/- Plain mathematics of stage 1: a text's pieces, by the model's own decoding. Nothing of the program. -/
import Derived.Lib.RuneCount
import Derived.Lib.Strings
import Derived.Laws.RangeAny
import Derived.WalkKit
namespace Go.Proofs.YthkkphfnfggpaaaDoor
open Go

/-- the code points of a text's pieces, from a place on, with fuel -/
def ptsFrom (s : ByteArray) : Nat → Nat → List Int
  | 0, _ => []
  | f + 1, pos => if pos < s.size then ((Utf8.decode s pos).1 : Int) :: ptsFrom s f (pos + (Utf8.decode s pos).2) else []
/-- the code points of a text's pieces from a place on -/
def ptsAt (s : ByteArray) (pos : Nat) : List Int := ptsFrom s (s.size - pos) pos
/-- the code points of a text -/
def pts (s : ByteArray) : List Int := ptsAt s 0

theorem ptsFrom_eq (s : ByteArray) : ∀ f g pos, s.size - pos ≤ f → s.size - pos ≤ g → ptsFrom s f pos = ptsFrom s g pos := by
  intro f
  induction f with
  | zero =>
    intro g pos h _
    cases g with
    | zero => rfl
    | succ g => simp only [ptsFrom]; rw [if_neg (by omega)]
  | succ f ih =>
    intro g pos h1 h2
    cases g with
    | zero => simp only [ptsFrom]; rw [if_neg (by omega)]
    | succ g =>
      simp only [ptsFrom]
      by_cases hp : pos < s.size
      · have hw := Lib.decode_width_pos s pos hp
        rw [if_pos hp, if_pos hp, ih g _ (by omega) (by omega)]
      · rw [if_neg hp, if_neg hp]

theorem ptsAt_end (s : ByteArray) (pos : Nat) (h : ¬ pos < s.size) : ptsAt s pos = [] := by
  unfold ptsAt; rw [show s.size - pos = 0 from by omega]; rfl
theorem ptsAt_step (s : ByteArray) (pos : Nat) (h : pos < s.size) : ptsAt s pos = ((Utf8.decode s pos).1 : Int) :: ptsAt s (pos + (Utf8.decode s pos).2) := by
  have hw := Lib.decode_width_pos s pos h
  have e : ptsAt s pos = ptsFrom s (s.size - pos - 1 + 1) pos := ptsFrom_eq s _ _ _ (by omega) (by omega)
  rw [e]
  simp only [ptsFrom, if_pos h]
  congr 1
  exact ptsFrom_eq s _ _ _ (by omega) (by omega)
theorem ptsAt_len (s : ByteArray) : ∀ k pos, s.size - pos ≤ k → (ptsAt s pos).length ≤ s.size - pos := by
  intro k
  induction k with
  | zero => intro pos h; rw [ptsAt_end s pos (by omega)]; simp
  | succ k ih =>
    intro pos h
    by_cases hp : pos < s.size
    · have hw := Lib.decode_width_pos s pos hp
      rw [ptsAt_step s pos hp]
      have := ih (pos + (Utf8.decode s pos).2) (by omega)
      simp; omega
    · rw [ptsAt_end s pos hp]; simp
theorem pts_len (s : ByteArray) : (pts s).length ≤ s.size := by have := ptsAt_len s _ 0 (Nat.le_refl _); unfold pts; omega
/-- each code point fits -/
theorem ptsAt_mem (s : ByteArray) : ∀ k pos, s.size - pos ≤ k → ∀ c ∈ ptsAt s pos, 0 ≤ c ∧ c ≤ 2147483647 := by
  intro k
  induction k with
  | zero => intro pos h; rw [ptsAt_end s pos (by omega)]; simp
  | succ k ih =>
    intro pos h
    by_cases hp : pos < s.size
    · have hw := Lib.decode_width_pos s pos hp
      rw [ptsAt_step s pos hp]
      intro c hc
      rcases List.mem_cons.1 hc with rfl | hc
      · have := decode_le s pos; omega
      · exact ih _ (by omega) c hc
    · rw [ptsAt_end s pos hp]; simp
end Go.Proofs.YthkkphfnfggpaaaDoor
