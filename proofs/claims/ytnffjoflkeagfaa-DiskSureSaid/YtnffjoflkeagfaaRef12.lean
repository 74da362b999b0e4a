/- The document's disk: what a crash leaves, file by file. -/
import Derived.Test.YtnffjoflkeagfaaRef11
namespace Go.Proofs.Ytnffjoflkeagfaa
open Go.RowKit Go.Maps

/-- what a crash leaves of one file -/
def crashOne (p : List UInt8 × F) (m : Int) : Fs :=
  if leftF p.2 m = 0 ∧ p.2.u = false then [] else [(p.1, ⟨p.2.b.take (leftF p.2 m), leftF p.2 m, true⟩)]
def keepAt (keep : List Int) (k : Nat) : Int := (keep.drop k).headD 0
theorem keepAt_in {keep : List Int} {k : Nat} {z : Int} (h : keep[k]? = some z) : keepAt keep k = z := by
  unfold keepAt
  rw [List.headD_eq_head?_getD, List.head?_drop, h]
  rfl
theorem keepAt_out {keep : List Int} {k : Nat} (h : keep.length ≤ k) : keepAt keep k = 0 := by
  unfold keepAt
  rw [List.drop_of_length_le h]
  rfl
theorem crash_snoc (p : List UInt8 × F) : ∀ (l : Fs) (keep : List Int), crashF (l ++ [p]) keep = crashF l keep ++ crashOne p (keepAt keep l.length)
  | [], keep => by
    show crashF [p] keep = [] ++ crashOne p (keepAt keep 0)
    unfold crashOne keepAt
    rw [List.drop_zero, crashF]
    split <;> simp [crashF]
  | q :: r, keep => by
    have e : keepAt keep (r.length + 1) = keepAt keep.tail r.length := by
      unfold keepAt; rw [List.drop_tail]
    rw [List.cons_append, crashF, crashF, crash_snoc p r keep.tail, List.length_cons, e]
    split
    · rfl
    · rfl
theorem crash_len : ∀ (l : Fs) (keep : List Int), (crashF l keep).length ≤ l.length
  | [], _ => by simp [crashF]
  | q :: r, keep => by
    have := crash_len r keep.tail
    rw [crashF]
    split
    · simp; omega
    · simp; omega
/-- as the loop finds it -/
theorem left_int {p : F} (h : p.s ≤ p.b.length) (m : Int) : (leftF p m : Int) = (p.s : Int) + min (max m 0) ((p.b.length : Int) - (p.s : Int)) := by
  unfold leftF
  omega
end Go.Proofs.Ytnffjoflkeagfaa
