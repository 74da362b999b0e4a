/- The Reader's calls that take. -/
import Derived.Test.YtkcmcgmonkeajaaTake
namespace Go.Proofs.Ytkcmcgmonkeajaa
open Go.RowKit

/-- the place, and the error, behind a call at the place a with the error e that would take K bytes and tell E -/
def stA (e : Int) (a K : Nat) : Nat := if e = 0 then a + K else a
def stE (e E : Int) : Int := if e = 0 then E else e
theorem stA0 (a K : Nat) : stA 0 a K = a + K := rfl
theorem stE0 (E : Int) : stE 0 E = E := rfl
theorem stA1 {e : Int} (h : e ≠ 0) (a K : Nat) : stA e a K = a := by unfold stA; rw [if_neg h]
theorem stE1 {e : Int} (h : e ≠ 0) (E : Int) : stE e E = e := by unfold stE; rw [if_neg h]
theorem hmf_any {P : Program} : ∀ (fn : Fn) (first cap : Array Value) (w : World), (Instr.makeFunc fn first cap).run P w = .ok (.func fn first cap) w := fun _ _ _ _ => rfl


set_option maxHeartbeats 2000000 in
theorem Number_any (p : Nat) (s : ByteArray) (a : Nat) (er : Int) (w : World) (hs : s.size ≤ 1099511627776) (h : RdAt w p s a er) :
    Calls Try.prog 21 #[.pointer (some ⟨p, 0, none⟩)] w fun e w' => (e = .returned (.int .u64 ((if er = 0 then dV (s.data.toList.drop a) else 0 : Nat) : Nat))) ∧ RdAt w' p s (stA er a (dK (s.data.toList.drop a))) (stE er (dE (s.data.toList.drop a))) ∧ But p w w' := by
  have H := Lib.hid h
  clear h
  by_cases he : er = 0
  · subst he
    simp only [stA0, stE0, if_true]
    go_enter Try.func21, Try.ntmps21
    go_wp2_with fail
    refine (take_u64 p s a _ hs H.out).mono ?_
    rintro e w1 ⟨rfl, h1, h2⟩
    go_wp2
    go_ret
    exact ⟨rfl, h1, h2⟩
  · simp only [stA1 he, stE1 he, if_neg he]
    go_enter Try.func21, Try.ntmps21
    go_wp2_with fail
    refine (take_u64_err p s a er _ _ H.out he).mono ?_
    rintro e w1 ⟨rfl, rfl⟩
    go_wp2
    go_ret
    exact ⟨rfl, H.out, But.refl _ _⟩

set_option maxHeartbeats 2000000 in
theorem Int_any (p : Nat) (s : ByteArray) (a : Nat) (er : Int) (w : World) (hs : s.size ≤ 1099511627776) (h : RdAt w p s a er) :
    Calls Try.prog 23 #[.pointer (some ⟨p, 0, none⟩)] w fun e w' => (e = .returned (.int .i64 (if er = 0 then Lib.unzigzag (dV (s.data.toList.drop a)) else 0))) ∧ RdAt w' p s (stA er a (dK (s.data.toList.drop a))) (stE er (dE (s.data.toList.drop a))) ∧ But p w w' := by
  have H := Lib.hid h
  clear h
  by_cases he : er = 0
  · subst he
    simp only [stA0, stE0, if_true]
    go_enter Try.func23, Try.ntmps23
    go_wp2_with fail
    refine (take_i64 p s a _ hs H.out).mono ?_
    rintro e w1 ⟨rfl, h1, h2⟩
    go_wp2
    go_ret
    exact ⟨rfl, h1, h2⟩
  · simp only [stA1 he, stE1 he, if_neg he]
    go_enter Try.func23, Try.ntmps23
    go_wp2_with fail
    refine (take_i64_err p s a er _ _ H.out he).mono ?_
    rintro e w1 ⟨rfl, rfl⟩
    go_wp2
    go_ret
    exact ⟨rfl, H.out, But.refl _ _⟩

set_option maxHeartbeats 2000000 in
theorem Below_any (p : Nat) (s : ByteArray) (a : Nat) (er : Int) (n : Int) (w : World) (hs : s.size ≤ 1099511627776) (hn0 : -9223372036854775808 ≤ n) (hn1 : n ≤ 9223372036854775807) (h : RdAt w p s a er) :
    Calls Try.prog 25 #[.pointer (some ⟨p, 0, none⟩), .int .i64 n] w fun e w' => (e = .returned (.int .i64 ((if er = 0 then uV (s.data.toList.drop a) (max n 0 - 1) else 0 : Nat) : Nat))) ∧ RdAt w' p s (stA er a (uK (s.data.toList.drop a) (max n 0 - 1))) (stE er (uE (s.data.toList.drop a) (max n 0 - 1))) ∧ But p w w' := by
  have hb0 : Below w.heap.size w (w.alloc (.cells #[.int .i64 (max n 0 - 1)] 3)) := (Below.refl _ _).alloc (Nat.le_refl _) _
  have HA := Lib.hid (h.below hb0)
  have hmf := @hmf_any Try.prog
  have hq : (w.alloc (.cells #[.int .i64 (max n 0 - 1)] 3)).cell? ⟨w.heap.size, 0, none⟩ = some (.int .i64 (max n 0 - 1)) := by rw [World.cell?_alloc_new]; rfl
  have HQ := Lib.hid hq
  have HB := Lib.hid (But.of_below (p := p) hb0)
  clear hq hb0
  have H := Lib.hid h
  clear h
  by_cases he : er = 0
  · subst he
    simp only [stA0, stE0, if_true]
    go_enter Try.func25, Try.ntmps25
    go_wp2_with fail
    refine (take_int p s a _ (max n 0 - 1) _ (by omega) (by omega) HQ.out hs HA.out).mono ?_
    rintro e w1 ⟨rfl, h1, h2⟩
    go_wp2
    go_ret
    exact ⟨rfl, h1, HB.out.trans h2⟩
  · simp only [stA1 he, stE1 he, if_neg he]
    go_enter Try.func25, Try.ntmps25
    go_wp2_with fail
    refine (take_int_err p s a er _ _ HA.out he).mono ?_
    rintro e w1 ⟨rfl, rfl⟩
    go_wp2
    go_ret
    exact ⟨rfl, HA.out, HB.out⟩

set_option maxHeartbeats 2000000 in
theorem Text_any (p : Nat) (s : ByteArray) (a : Nat) (er : Int) (n : Int) (w : World) (hs : s.size ≤ 1099511627776) (hn0 : -9223372036854775808 ≤ n) (hn1 : n ≤ 9223372036854775807) (h : RdAt w p s a er) :
    Calls Try.prog 27 #[.pointer (some ⟨p, 0, none⟩), .int .i64 n] w fun e w' => (e = .returned (.string (if er = 0 then tV (s.data.toList.drop a) n else ⟨#[]⟩))) ∧ RdAt w' p s (stA er a (tK (s.data.toList.drop a) n)) (stE er (tE (s.data.toList.drop a) n)) ∧ But p w w' := by
  have hb0 : Below w.heap.size w (w.alloc (.cells #[.int .i64 (n)] 3)) := (Below.refl _ _).alloc (Nat.le_refl _) _
  have HA := Lib.hid (h.below hb0)
  have hmf := @hmf_any Try.prog
  have hq : (w.alloc (.cells #[.int .i64 (n)] 3)).cell? ⟨w.heap.size, 0, none⟩ = some (.int .i64 (n)) := by rw [World.cell?_alloc_new]; rfl
  have HQ := Lib.hid hq
  have HB := Lib.hid (But.of_below (p := p) hb0)
  clear hq hb0
  have H := Lib.hid h
  clear h
  by_cases he : er = 0
  · subst he
    simp only [stA0, stE0, if_true]
    go_enter Try.func27, Try.ntmps27
    go_wp2_with fail
    refine (take_str p s a _ (n) _ (by omega) (by omega) HQ.out hs HA.out).mono ?_
    rintro e w1 ⟨rfl, h1, h2⟩
    go_wp2
    go_ret
    exact ⟨rfl, h1, HB.out.trans h2⟩
  · simp only [stA1 he, stE1 he, if_neg he]
    go_enter Try.func27, Try.ntmps27
    go_wp2_with fail
    refine (take_str_err p s a er _ _ HA.out he).mono ?_
    rintro e w1 ⟨rfl, rfl⟩
    go_wp2
    go_ret
    exact ⟨rfl, HA.out, HB.out⟩

set_option maxHeartbeats 2000000 in
theorem Ints_any (p : Nat) (s : ByteArray) (a : Nat) (er : Int) (n : Int) (w : World) (hs : s.size ≤ 1099511627776) (hn0 : -9223372036854775808 ≤ n) (hn1 : n ≤ 9223372036854775807) (h : RdAt w p s a er) :
    Calls Try.prog 30 #[.pointer (some ⟨p, 0, none⟩), .int .i64 n] w fun e w' => (∃ v, e = .returned v ∧ ListNew w.heap.size w' v (if er = 0 then lV (s.data.toList.drop a) n else []).length (cellsOf intC (if er = 0 then lV (s.data.toList.drop a) n else []))) ∧ RdAt w' p s (stA er a (lK (s.data.toList.drop a) n)) (stE er (lE (s.data.toList.drop a) n)) ∧ But p w w' := by
  have hb0 : Below w.heap.size w (w.alloc (.cells #[.int .i64 (n)] 3)) := (Below.refl _ _).alloc (Nat.le_refl _) _
  have HA := Lib.hid (h.below hb0)
  have hmf := @hmf_any Try.prog
  have hq : (w.alloc (.cells #[.int .i64 (n)] 3)).cell? ⟨w.heap.size, 0, none⟩ = some (.int .i64 (n)) := by rw [World.cell?_alloc_new]; rfl
  have HQ := Lib.hid hq
  have HB := Lib.hid (But.of_below (p := p) hb0)
  clear hq hb0
  have H := Lib.hid h
  clear h
  by_cases he : er = 0
  · subst he
    simp only [stA0, stE0, if_true]
    go_enter Try.func30, Try.ntmps30
    go_wp2_with fail
    refine (take_ints p s a _ (n) _ (by omega) (by omega) HQ.out hs HA.out).mono ?_
    rintro e w1 ⟨⟨v, rfl, hl⟩, h1, h2⟩
    obtain ⟨hl1, a1, c1, rfl, hl3⟩ := hl
    have HL := Lib.hid hl3
    clear hl3
    go_wp2
    go_ret
    exact ⟨⟨_, rfl, ListNew.mono ⟨hl1, a1, c1, rfl, HL.out⟩ (by simp)⟩, h1, HB.out.trans h2⟩
  · simp only [stA1 he, stE1 he, if_neg he]
    go_enter Try.func30, Try.ntmps30
    go_wp2_with fail
    refine (take_ints_err p s a er _ _ HA.out he).mono ?_
    rintro e w1 ⟨rfl, rfl⟩
    go_wp2
    go_ret
    exact ⟨⟨_, rfl, listAt_nil _ _ _⟩, HA.out, HB.out⟩
end Go.Proofs.Ytkcmcgmonkeajaa
