/- The reference's Reader: its block, its calls. -/
import Derived.Test.YtkcmcgmonkeajaaRefTake
import Derived.Test.YtkcmcgmonkeajaaMeth
namespace Go.Proofs.Ytkcmcgmonkeajaa
open Go.RowKit

/-- the block p is the reference's Reader over s, at a, with the error e -/
def RfAt (w : World) (p : Nat) (s : ByteArray) (a : Nat) (e : Int) : Prop := w.heap[p]? = some (.cells #[.string s, .int .i64 a, .int .i64 e] 43 (0, 0)) ∧ a ≤ s.size
theorem RfAt.lt {w : World} {p : Nat} {s : ByteArray} {a : Nat} {e : Int} (h : RfAt w p s a e) : p < w.heap.size := (Array.getElem?_eq_some_iff.1 h.1).1
theorem RfAt.c0 {w : World} {p : Nat} {s : ByteArray} {a : Nat} {e : Int} (h : RfAt w p s a e) : w.cell? ⟨p, 0, none⟩ = some (.string s) := by rw [Lib.cell_of_heap h.1]; rfl
theorem RfAt.c1 {w : World} {p : Nat} {s : ByteArray} {a : Nat} {e : Int} (h : RfAt w p s a e) : w.cell? ⟨p, 1, none⟩ = some (.int .i64 a) := by rw [Lib.cell_of_heap h.1]; rfl
theorem RfAt.c2 {w : World} {p : Nat} {s : ByteArray} {a : Nat} {e : Int} (h : RfAt w p s a e) : w.cell? ⟨p, 2, none⟩ = some (.int .i64 e) := by rw [Lib.cell_of_heap h.1]; rfl
theorem RfAt.f {w : World} {p : Nat} {s : ByteArray} {a : Nat} {e : Int} (h : RfAt w p s a e) (j : Nat) : w.frozen? ⟨p, j, none⟩ = false := Lib.frozen_of_heap h.1 j
theorem RfAt.drewN {w : World} {p : Nat} {s : ByteArray} {a : Nat} {e : Int} (h : RfAt w p s a e) (q : Nat) : RfAt (w.drewN q) p s a e := by
  unfold RfAt; rw [heap_drewN]; exact h
theorem RfAt.set1 {w : World} {p : Nat} {s : ByteArray} {a : Nat} {e : Int} (h : RfAt w p s a e) (a' : Nat) (ha : a' ≤ s.size) (z : Int) (hz : z = a') : RfAt (w.setCell ⟨p, 1, none⟩ (.int .i64 z)) p s a' e := by
  subst hz; exact ⟨by simp [World.setCell, Array.getElem?_modify, h.1], ha⟩
theorem RfAt.set2 {w : World} {p : Nat} {s : ByteArray} {a : Nat} {e : Int} (h : RfAt w p s a e) (e' : Int) : RfAt (w.setCell ⟨p, 2, none⟩ (.int .i64 e')) p s a e' :=
  ⟨by simp [World.setCell, Array.getElem?_modify, h.1], h.2⟩
theorem RfAt.kept {w w' : World} {p q : Nat} {s : ByteArray} {a : Nat} {e : Int} (h : RfAt w p s a e) (hb : But q w w') (hne : p ≠ q) : RfAt w' p s a e := by
  refine ⟨?_, h.2⟩
  rw [hb.block p h.lt (by simpa using hne)]; exact h.1
theorem RfAt.below {w w' : World} {p : Nat} {s : ByteArray} {a : Nat} {e : Int} (h : RfAt w p s a e) (hb : Below w.heap.size w w') : RfAt w' p s a e := by
  refine ⟨?_, h.2⟩
  rw [hb.block p h.lt]; exact h.1

set_option maxHeartbeats 1000000 in
theorem refEnd_any (p : Nat) (s : ByteArray) (a : Nat) (er : Int) (w : World) (h : RfAt w p s a er) :
    Calls Try.prog 35 #[.pointer (some ⟨p, 0, none⟩)] w fun e w' => e = .returned (.int .i64 (endE s a er)) ∧ ∃ q, w' = w.drewN q := by
  have h0 := h.c0
  have h1 := h.c1
  have h2 := h.c2
  clear h
  by_cases he : er = 0
  · subst he
    by_cases hlt : a < s.size
    · have HE : Hid (endE s a 0 = 23) := by show _ = _; unfold endE; rw [if_pos rfl, if_pos hlt]
      have hd : ((0 : Int) == 0) = true := rfl
      have hlt2 : (a : Int) < (s.size : Int) := by omega
      go_enter Try.func35, Try.ntmps35
      go_wp2
      go_quiet (fail)
      go_wp2
      go_ret
      exact ⟨ret_int HE.out.symm, _, rfl⟩
    · have HE : Hid (endE s a 0 = 0) := by show _ = _; unfold endE; rw [if_pos rfl, if_neg hlt]
      have hlt2 : ¬ (a : Int) < (s.size : Int) := by omega
      go_enter Try.func35, Try.ntmps35
      go_wp2
      go_quiet (fail)
      go_wp2
      go_ret
      exact ⟨ret_int HE.out.symm, _, rfl⟩
  · have HE : Hid (endE s a er = er) := by show _ = _; unfold endE; rw [if_neg he]
    have hd : (er == 0) = false := by simpa using he
    go_enter Try.func35, Try.ntmps35
    go_wp2
    go_quiet (fail)
    go_wp2
    go_ret
    exact ⟨ret_int HE.out.symm, _, rfl⟩

set_option maxHeartbeats 1000000 in
theorem fail_any (p : Nat) (s : ByteArray) (a : Nat) (er E : Int) (w : World) (h : RfAt w p s a er) :
    Calls Try.prog 49 #[.pointer (some ⟨p, 0, none⟩), .int .i64 E] w fun e w' => e = .returned (.tuple #[]) ∧ w' = w.setCell ⟨p, 2, none⟩ (.int .i64 E) := by
  have h2 := h.c2
  have f2 := h.f 2
  clear h
  go_enter Try.func49, Try.ntmps49
  go_wp2
  go_end0
  exact ⟨rfl, rfl⟩
theorem failed (p : Nat) (s : ByteArray) (a : Nat) (er E : Int) (w : World) (h : RfAt w p s a er) :
    Calls Try.prog 49 #[.pointer (some ⟨p, 0, none⟩), .int .i64 E] w fun e w' => e = .returned (.tuple #[]) ∧ RfAt w' p s a E ∧ But p w w' := by
  refine (fail_any p s a er E w h).mono ?_
  rintro e w' ⟨rfl, rfl⟩
  exact ⟨rfl, h.set2 E, (But.refl p w).set _ _⟩

set_option maxHeartbeats 4000000 in
theorem refNumber_any (p : Nat) (s : ByteArray) (a : Nat) (er : Int) (w : World) (hs : s.size ≤ 1099511627776) (h : RfAt w p s a er) :
    Calls Try.prog 22 #[.pointer (some ⟨p, 0, none⟩)] w fun e w' => (e = .returned (.int .u64 ((if er = 0 then dV (s.data.toList.drop a) else 0 : Nat) : Nat))) ∧ RfAt w' p s (stA er a (dK (s.data.toList.drop a))) (stE er (dE (s.data.toList.drop a))) ∧ But p w w' := by
  have h0 := h.c0
  have h1 := h.c1
  have h2 := h.c2
  have f1 := h.f 1
  have ha := h.2
  have H := Lib.hid h
  clear h
  by_cases he : er = 0
  · subst he
    simp only [stA0, stE0, if_true]
    have hkd := dK_le (s.data.toList.drop a)
    rw [List.length_drop, ← Lib.size_eq] at hkd
    have hri := fun w' => refTake_any s a w' hs ha
    have hnone := fun hh => d_none (s.data.toList.drop a) hh
    generalize hVV : dV (s.data.toList.drop a) = V at *
    generalize hKK : dK (s.data.toList.drop a) = D at *
    generalize hEE : dE (s.data.toList.drop a) = E at *
    clear hVV hKK hEE
    by_cases hE : E = 0
    · subst hE
      clear hnone
      go_enter Try.func22, Try.ntmps22
      go_wp2
      go_quiet ((go_at_call 48; exact Calls.quiet_of_same (((hri _).mono (fun _ _ hh => ⟨hh.1, hh.2.symm⟩)))))
      go_wp2
      go_ret
      exact ⟨rfl, (H.out.drewN _).set1 _ (by omega) _ (by first | rfl | omega), (But.drewN (But.refl _ _) _).set _ _⟩
    · have HN := Lib.hid (hnone hE)
      have hd : (E != 0) = true := by simpa using hE
      clear hnone hE
      go_enter Try.func22, Try.ntmps22
      go_wp2
      go_quiet ((go_at_call 48; exact Calls.quiet_of_same (((hri _).mono (fun _ _ hh => ⟨hh.1, hh.2.symm⟩)))))
      go_wp2_with fail
      refine (failed p s a 0 E _ (H.out.drewN _)).mono ?_
      rintro e w2 ⟨rfl, r2, k2⟩
      have R2 := Lib.hid r2
      have K2 := Lib.hid ((But.drewN (But.refl p w) _).trans k2)
      clear r2 k2
      go_wp2
      go_ret
      refine ⟨?_, ?_, K2.out⟩
      · rw [(HN.out).1]; rfl
      · rw [(HN.out).2]; exact R2.out
  · simp only [stA1 he, stE1 he, if_neg he]
    have hd : (er != 0) = true := by simpa using he
    clear he
    go_enter Try.func22, Try.ntmps22
    go_wp2
    go_ret
    exact ⟨rfl, H.out, But.refl _ _⟩
end Go.Proofs.Ytkcmcgmonkeajaa
