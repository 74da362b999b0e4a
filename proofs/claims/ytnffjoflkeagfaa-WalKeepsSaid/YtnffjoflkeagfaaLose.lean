/- What a crash leaves of a file. -/
import Derived.Test.YtnffjoflkeagfaaKept
namespace Go.Proofs.Ytnffjoflkeagfaa
open Go.RowKit Go.Maps

theorem left_le {f : F} (h : f.s ≤ f.b.length) (more : Int) : leftF f more ≤ f.b.length := by unfold leftF; omega
set_option maxRecDepth 100000 in
set_option maxHeartbeats 2000000 in
theorem lose_any {S : Nat → Prop} {w : World} {db : Nat} {s : St} (h : DiskAt S w db s) (hS : ∀ k, w.heap.size ≤ k → S k) (hm : Small s) (name : ByteArray) (hn : name.size ≤ 281474976710656) (more : Int) :
    Calls Try.prog 48 #[ptrV db, .string name, .int .i64 more] w fun e w' => e = .returned (.tuple #[]) ∧ DiskAt S w' db { s with fs := loseF s.fs (bs name) more } ∧ Kept S w w' := by
  obtain ⟨own, mv, wv, mo, h⟩ := h
  have hlt := h.lt
  obtain ⟨v, hbf, hl⟩ := h.map.look name (by omega)
  obtain ⟨va, vc, rfl⟩ := hbf.slice
  have hvc : (getF s.fs (bs name)).b.length ≤ vc := by
    rcases hbf with ⟨e, e2⟩ | ⟨g, cap, e, _, _, hcap, _⟩
    · rw [e2]; simp
    · cases e; exact hcap
  have c0 := h.c0
  have hl1 : (Instr.lookup 66 mv (.string name) false).run Try.prog w = .ok (.agg #[.slice va (getF s.fs (bs name)).b.length vc, .int .i64 ((getF s.fs (bs name)).s : Int), .bool (getF s.fs (bs name)).u]) w := (hl w (fun g _ => rfl)).1
  have hB : Below w.heap.size w (w.alloc (.cells #[.slice va (getF s.fs (bs name)).b.length vc, .int .i64 ((getF s.fs (bs name)).s : Int), .bool (getF s.fs (bs name)).u] 71)) := (Below.refl _ _).alloc (Nat.le_refl _) _
  have hsl := h.fit.get (bs name)
  have hle := left_le hsl more
  have hbl := get_le s.fs (bs name)
  have hri := h.fit.roomI
  have hrr := h.fit.room
  have hrm := Lib.hid (remove_any (h.below hB) name hn)
  have hbx := (hbf.kept (own' := own) hB.size (fun g hg hlg => ⟨hB.block g hlg, hg⟩)).take rfl (leftF (getF s.fs (bs name)) more) hle
  have hfit : Fit { s with fs := putF s.fs (bs name) ⟨(getF s.fs (bs name)).b.take (leftF (getF s.fs (bs name)) more), leftF (getF s.fs (bs name)) more, true⟩ } := by
    refine fit_fs h.fit rfl (by rw [bs_len]; omega) ?_ ?_ _ _ _ h.fit.moreI
    · simp only [List.length_take]; omega
    · simp only [List.length_take]; omega
  have hpt := Lib.hid (put_any (f := ⟨(getF s.fs (bs name)).b.take (leftF (getF s.fs (bs name)) more), leftF (getF s.fs (bs name)) more, true⟩) (h.below hB) (fun k hk => hS k (by have := hB.size; omega)) name hn hbx hm.count hfit)
  have HB := Lib.hid hB
  have hle2 : ((leftF (getF s.fs (bs name)) more : Nat) : Int) ≤ (vc : Int) := by omega
  have hexp : ((getF s.fs (bs name)).s : Int) + min (max more 0) (((getF s.fs (bs name)).b.length : Int) - ((getF s.fs (bs name)).s : Int)) = (leftF (getF s.fs (bs name)) more : Nat) := by unfold leftF; omega
  have hle3 : leftF (getF s.fs (bs name)) more ≤ vc := by omega
  by_cases h0 : leftF (getF s.fs (bs name)) more = 0
  · have h0i : ((leftF (getF s.fs (bs name)) more : Nat) : Int) = 0 := by omega
    cases hu : (getF s.fs (bs name)).u with
    | false =>
      have HE : Hid (loseF s.fs (bs name) more = delF s.fs (bs name)) := by show _ = _; unfold loseF; rw [if_pos ⟨h0, hu⟩]
      rw [hu] at hl1 hrm HB
      rw [h0i] at hexp
      clear h hl hbf hB hbx hfit hpt hle2 hle3 hu h0 h0i
      generalize loseF s.fs (bs name) more = R at *
      go_enter Try.func48, Try.ntmps48
      go_wp2_with fail
      refine hrm.out.mono ?_
      rintro e w4 ⟨rfl, hd4, hk4⟩
      have HD4 := Lib.hid hd4
      have HK4 := Lib.hid ((Kept.of_below HB.out).trans hk4)
      clear hd4 hk4 hrm
      go_wp2
      first
        | go_end0
        | (refine bodyPost_ret (results_none rfl _ _ _) rfl ?_)
      rw [HE.out]
      exact ⟨rfl, HD4.out, HK4.out⟩
    | true =>
      have HE : Hid (loseF s.fs (bs name) more = putF s.fs (bs name) ⟨(getF s.fs (bs name)).b.take (leftF (getF s.fs (bs name)) more), leftF (getF s.fs (bs name)) more, true⟩) := by show _ = _; unfold loseF; rw [if_neg (fun hh => by rw [hu] at hh; cases hh.2)]
      rw [hu] at hl1 hpt HB
      rw [h0i] at hexp
      clear h hl hbf hB hbx hfit hrm hle2 hle3 hu h0i
      generalize loseF s.fs (bs name) more = R at *
      rw [h0] at hpt HE
      clear h0
      go_enter Try.func48, Try.ntmps48
      go_wp2_with fail
      refine hpt.out.mono ?_
      rintro e w4 ⟨rfl, hd4, hk4⟩
      have HD4 := Lib.hid hd4
      have HK4 := Lib.hid ((Kept.of_below HB.out).trans hk4)
      clear hd4 hk4 hpt
      go_wp2
      go_end0
      rw [HE.out]
      exact ⟨rfl, HD4.out, HK4.out⟩
  · have h0i : (((leftF (getF s.fs (bs name)) more : Nat) : Int) == 0) = false := by rw [beq_eq_false_iff_ne]; omega
    have HE : Hid (loseF s.fs (bs name) more = putF s.fs (bs name) ⟨(getF s.fs (bs name)).b.take (leftF (getF s.fs (bs name)) more), leftF (getF s.fs (bs name)) more, true⟩) := by show _ = _; unfold loseF; rw [if_neg (fun hh => h0 hh.1)]
    clear h hl hbf hB hbx hfit hrm
    generalize loseF s.fs (bs name) more = R at *
    generalize leftF (getF s.fs (bs name)) more = L at *
    have h0j : ¬ ((L : Int) = 0) := by omega
    have h0k : (0 : Int) ≤ (L : Int) := by omega
    go_enter Try.func48, Try.ntmps48
    go_wp2_with fail
    refine hpt.out.mono ?_
    rintro e w4 ⟨rfl, hd4, hk4⟩
    have HD4 := Lib.hid hd4
    have HK4 := Lib.hid ((Kept.of_below HB.out).trans hk4)
    clear hd4 hk4 hpt
    go_wp2
    go_end0
    rw [HE.out]
    exact ⟨rfl, HD4.out, HK4.out⟩
end Go.Proofs.Ytnffjoflkeagfaa
