/- A Reader's block; Read, At, Err, End. -/
import Derived.Test.YtkcmcgmonkeajaaRead3
import Derived.Lib.Builder
import Derived.Maps.AppendAt
namespace Go.Proofs.Ytkcmcgmonkeajaa
open Go.RowKit

/-- the block p is a Reader over s, at a, with the error e -/
def RdAt (w : World) (p : Nat) (s : ByteArray) (a : Nat) (e : Int) : Prop := w.heap[p]? = some (.cells #[.string s, .int .i64 a, .int .i64 e] 70 (0, 0)) ∧ a ≤ s.size
theorem heap_drewN (w : World) : ∀ q, (w.drewN q).heap = w.heap
  | 0 => rfl
  | q + 1 => by
    have := heap_drewN w q
    exact this
theorem RdAt.lt {w : World} {p : Nat} {s : ByteArray} {a : Nat} {e : Int} (h : RdAt w p s a e) : p < w.heap.size := (Array.getElem?_eq_some_iff.1 h.1).1
theorem RdAt.c0 {w : World} {p : Nat} {s : ByteArray} {a : Nat} {e : Int} (h : RdAt w p s a e) : w.cell? ⟨p, 0, none⟩ = some (.string s) := by rw [Lib.cell_of_heap h.1]; rfl
theorem RdAt.c1 {w : World} {p : Nat} {s : ByteArray} {a : Nat} {e : Int} (h : RdAt w p s a e) : w.cell? ⟨p, 1, none⟩ = some (.int .i64 a) := by rw [Lib.cell_of_heap h.1]; rfl
theorem RdAt.c2 {w : World} {p : Nat} {s : ByteArray} {a : Nat} {e : Int} (h : RdAt w p s a e) : w.cell? ⟨p, 2, none⟩ = some (.int .i64 e) := by rw [Lib.cell_of_heap h.1]; rfl
theorem RdAt.f {w : World} {p : Nat} {s : ByteArray} {a : Nat} {e : Int} (h : RdAt w p s a e) (j : Nat) : w.frozen? ⟨p, j, none⟩ = false := Lib.frozen_of_heap h.1 j
theorem RdAt.drewN {w : World} {p : Nat} {s : ByteArray} {a : Nat} {e : Int} (h : RdAt w p s a e) (q : Nat) : RdAt (w.drewN q) p s a e := by
  unfold RdAt; rw [heap_drewN]; exact h
theorem RdAt.set1 {w : World} {p : Nat} {s : ByteArray} {a : Nat} {e : Int} (h : RdAt w p s a e) (a' : Nat) (ha : a' ≤ s.size) (z : Int) (hz : z = a') : RdAt (w.setCell ⟨p, 1, none⟩ (.int .i64 z)) p s a' e := by
  subst hz; exact ⟨by simp [World.setCell, Array.getElem?_modify, h.1], ha⟩
theorem RdAt.set2 {w : World} {p : Nat} {s : ByteArray} {a : Nat} {e : Int} (h : RdAt w p s a e) (e' : Int) : RdAt (w.setCell ⟨p, 2, none⟩ (.int .i64 e')) p s a e' :=
  ⟨by simp [World.setCell, Array.getElem?_modify, h.1], h.2⟩
/-- nothing but the block p has changed -/
abbrev But (p : Nat) (w w' : World) : Prop := w.grownBy w' (some p)
theorem But.refl (p : Nat) (w : World) : But p w w := ⟨rfl, rfl, rfl, Nat.le_refl _, fun _ _ _ => rfl⟩
theorem But.drewN {p : Nat} {w w' : World} (h : But p w w') : ∀ q, But p w (w'.drewN q)
  | 0 => h
  | q + 1 => by
    have := But.drewN h q
    exact ⟨this.os, this.tape, this.output, this.size, this.block⟩
theorem But.set {p : Nat} {w w' : World} (h : But p w w') (j : Nat) (v : Value) : But p w (w'.setCell ⟨p, j, none⟩ v) :=
  ⟨h.os, h.tape, h.output, by simp [World.setCell]; exact h.size, fun k hk hne => (Below.heap_setCell _ _ _ _ (fun e => hne (by rw [e]))).trans (h.block k hk hne)⟩
theorem But.of_below {p : Nat} {w w' : World} (h : Below w.heap.size w w') : But p w w' := ⟨h.os, h.tape, h.output, h.size, fun k hk _ => h.block k hk⟩
theorem But.trans {p : Nat} {a b c : World} (h : But p a b) (k : But p b c) : But p a c := World.grownBy.trans h k
theorem But.below {p : Nat} {a b : World} (h : But p a b) {B : Nat} (hB : B ≤ p) (hs : B ≤ a.heap.size) : Below B a b := ⟨h.os, h.tape, h.output, h.size, fun k hk => h.block k (by omega) (by simp; omega)⟩
theorem RdAt.kept {w w' : World} {p q : Nat} {s : ByteArray} {a : Nat} {e : Int} (h : RdAt w p s a e) (hb : But q w w') (hne : p ≠ q) : RdAt w' p s a e := by
  refine ⟨?_, h.2⟩
  rw [hb.block p h.lt (by simpa using hne)]; exact h.1
theorem RdAt.below {w w' : World} {p : Nat} {s : ByteArray} {a : Nat} {e : Int} (h : RdAt w p s a e) (hb : Below w.heap.size w w') : RdAt w' p s a e := by
  refine ⟨?_, h.2⟩
  rw [hb.block p h.lt]; exact h.1

set_option maxHeartbeats 1000000 in
theorem Read_any (s : ByteArray) (w : World) :
    Calls Try.prog 20 #[.string s] w fun e w' => e = .returned (.pointer (some ⟨w.heap.size, 0, none⟩)) ∧ RdAt w' w.heap.size s 0 0 ∧ Below w.heap.size w w' := by
  go_enter Try.func20, Try.ntmps20
  go_wp2
  go_ret
  exact ⟨rfl, ⟨heap_alloc_new w _, Nat.zero_le _⟩, (Below.refl _ _).alloc (Nat.le_refl _) _⟩
set_option maxHeartbeats 1000000 in
theorem At_any (p : Nat) (s : ByteArray) (a : Nat) (er : Int) (w : World) (h : RdAt w p s a er) :
    Calls Try.prog 32 #[.pointer (some ⟨p, 0, none⟩)] w fun e w' => e = .returned (.int .i64 a) ∧ w = w' := by
  have h1 := h.c1
  clear h
  go_enter Try.func32, Try.ntmps32
  go_wp2
  go_ret
  exact ⟨rfl, rfl⟩
set_option maxHeartbeats 1000000 in
theorem Err_any (p : Nat) (s : ByteArray) (a : Nat) (er : Int) (w : World) (h : RdAt w p s a er) :
    Calls Try.prog 33 #[.pointer (some ⟨p, 0, none⟩)] w fun e w' => e = .returned (.int .i64 er) ∧ w = w' := by
  have h1 := h.c2
  clear h
  go_enter Try.func33, Try.ntmps33
  go_wp2
  go_ret
  exact ⟨rfl, rfl⟩
/-- what End tells -/
def endE (s : ByteArray) (a : Nat) (e : Int) : Int := if e = 0 then (if a < s.size then 23 else 0) else e
set_option maxHeartbeats 1000000 in
theorem End_any (p : Nat) (s : ByteArray) (a : Nat) (er : Int) (w : World) (h : RdAt w p s a er) :
    Calls Try.prog 34 #[.pointer (some ⟨p, 0, none⟩)] w fun e w' => e = .returned (.int .i64 (endE s a er)) ∧ ∃ q, w' = w.drewN q := by
  have h0 := h.c0
  have h1 := h.c1
  have h2 := h.c2
  clear h
  by_cases he : er = 0
  · subst he
    by_cases hlt : a < s.size
    · have HE : Hid (endE s a 0 = 23) := by show _ = _; unfold endE; rw [if_pos rfl, if_pos hlt]
      have hd : ((0 : Int) == 0) = true := rfl
      have hlt2 : (a : Int) < (s.size : Int) := by omega
      go_enter Try.func34, Try.ntmps34
      go_wp2
      go_quiet (fail)
      go_wp2
      go_ret
      exact ⟨ret_int HE.out.symm, _, rfl⟩
    · have HE : Hid (endE s a 0 = 0) := by show _ = _; unfold endE; rw [if_pos rfl, if_neg hlt]
      have hlt2 : ¬ (a : Int) < (s.size : Int) := by omega
      go_enter Try.func34, Try.ntmps34
      go_wp2
      go_quiet (fail)
      go_wp2
      go_ret
      exact ⟨ret_int HE.out.symm, _, rfl⟩
  · have HE : Hid (endE s a er = er) := by show _ = _; unfold endE; rw [if_neg he]
    have hd : (er == 0) = false := by simpa using he
    go_enter Try.func34, Try.ntmps34
    go_wp2
    go_quiet (fail)
    go_wp2
    go_ret
    exact ⟨ret_int HE.out.symm, _, rfl⟩
end Go.Proofs.Ytkcmcgmonkeajaa
