/- A change: what it needs, what it does, when the power goes. -/
import Derived.Test.YtnffjoflkeagfaaClos2
namespace Go.Proofs.Ytnffjoflkeagfaa
open Go.RowKit Go.Maps

set_option maxRecDepth 100000 in
set_option maxHeartbeats 2000000 in
theorem replace1_any {own : Nat → Own} {S : Nat → Prop} {w : World} {db : Nat} {s : St} {mv : Value} {wv : Bool} {mo : Int} (h : DiskO own S w db s mv wv mo) (name x : ByteArray) (hn : name.size ≤ 281474976710656) (hx : x.size ≤ 9223372036854775807)
    (b1 b2 b3 : Nat) (k1 : w.cell? ⟨b1, 0, none⟩ = some (ptrV db)) (k2 : w.cell? ⟨b2, 0, none⟩ = some (.string x)) (k3 : w.cell? ⟨b3, 0, none⟩ = some (.string name)) :
    Calls Try.prog 68 #[ptrV b1, ptrV b2, ptrV b3] w fun e w' => e = .returned (.int .i64 (fitE s ((x.size : Int) - ((getF s.fs (bs name)).b.length : Int)))) ∧ ∃ q, w' = w.drewN q := by
  have hlt := h.lt
  obtain ⟨v, hbf, hl⟩ := h.map.look name (by omega)
  obtain ⟨va, vc, rfl⟩ := hbf.slice
  have c0 := h.c0
  have hl1 : ∀ q, (Instr.lookup 66 mv (.string name) false).run Try.prog (w.drewN q) = .ok (.agg #[.slice va (getF s.fs (bs name)).b.length vc, .int .i64 ((getF s.fs (bs name)).s : Int), .bool (getF s.fs (bs name)).u]) (w.drewN q) := fun q => (hl (w.drewN q) (fun g _ => by rw [heap_drewN])).1
  have hfl : ∀ (w : World) (a : Option Addr) (n c : Nat) (x y : Value), (Instr.field 71 (.agg #[.slice a n c, x, y]) 0).run Try.prog w = .ok (.slice a n c) w := fun w a n c x y => by kernel_rfl
  have hbl := get_le s.fs (bs name)
  have hri := h.fit.roomI
  have hrr := h.fit.room
  have HP := Lib.hid (fun q => fits_any (w := w.drewN q) (s := s) ⟨own, mv, wv, mo, h.below (below_drewN (Below.refl _ _) q)⟩ ((x.size : Int) - ((getF s.fs (bs name)).b.length : Int)))
  clear h hl hbf
  go_enter Try.func68, Try.ntmps68
  go_wp2
  go_quiet ((go_at_call 62; exact Calls.quiet_of (HP.out _)))
  go_wp2
  go_ret
  exact ⟨rfl, _, rfl⟩
theorem changeS_down {s : St} (h : s.down = true) (e : Int) (f1 f2 : Fs) : changeS s e f1 f2 = (41, s) := by unfold changeS; rw [if_pos h]
theorem changeS_err {s : St} (h : s.down = false) {e : Int} (he : e ≠ 0) (f1 f2 : Fs) : changeS s e f1 f2 = (e, s) := by unfold changeS; rw [if_neg (by rw [h]; simp), if_pos he]
theorem changeS_torn {s : St} (h : s.down = false) {e : Int} (he : e = 0) (hb : brkB s = true) (f1 f2 : Fs) : changeS s e f1 f2 = (41, { brkS s with fs := f2 }) := by
  unfold changeS
  rw [if_neg (by rw [h]; simp), if_neg (by simp [he])]
  unfold brkB at hb
  simp only [Bool.and_eq_true, beq_iff_eq] at hb
  unfold brkS
  simp only [if_pos hb.1, if_pos hb.2]
theorem changeS_whole {s : St} (h : s.down = false) {e : Int} (he : e = 0) (hb : brkB s = false) (f1 f2 : Fs) : changeS s e f1 f2 = (0, { brkS s with fs := f1 }) := by
  unfold changeS
  rw [if_neg (by rw [h]; simp), if_neg (by simp [he])]
  unfold brkS
  by_cases hw : s.waits = true
  · have hm : ¬ s.more = 0 := fun hm => by unfold brkB at hb; simp [hw, hm] at hb
    simp only [if_pos hw, if_neg hm]
  · simp only [if_neg hw]
theorem brkS_fs (s : St) : (brkS s).fs = s.fs := by unfold brkS; split <;> (try split) <;> rfl
theorem brkS_room (s : St) : (brkS s).room = s.room := by unfold brkS; split <;> (try split) <;> rfl
theorem brkS_more (s : St) : (brkS s).more ≤ s.more := by unfold brkS; split <;> (try split) <;> simp
/-- a function that is called through its value -/
theorem enter_val {f : FuncId} {fn : Func} {c : Code} (hf : Try.prog.funcs[f]? = some fn) (hname : (fn.name == "runtime.NumGoroutine") = false) (hb : fn.body = some c) (args : Array Value) (w : World) :
    (callFunc f args).run Try.prog w = .ok (.enter f args) w := by
  have h1 : ¬ fn.name = "runtime.NumGoroutine" := by simpa using hname
  simp [callFunc, hf, h1, hb]
/-- what a change does when nothing is against it -/
def Does (own : Nat → Own) (S : Nat → Prop) (w : World) (db : Nat) (s : St) (mv : Value) (n : Nat) (c : Array Value) (fs : Fs) : Prop :=
  ∀ w2 wv mo, DiskO own S w2 db (brkS s) mv wv mo → (∀ j, own j = .no → j < w.heap.size → w2.heap[j]? = w.heap[j]?) → w.heap.size ≤ w2.heap.size →
    Calls Try.prog n c w2 fun e w' => e = .returned (.tuple #[]) ∧ DiskAt S w' db { brkS s with fs := fs } ∧ Kept S w2 w'
set_option maxRecDepth 100000 in
set_option maxHeartbeats 2000000 in
/-- a change that is down, needs what is missing, breaks, or is done -/
theorem change_any {own : Nat → Own} {S : Nat → Prop} {w : World} {db : Nat} {s : St} {mv : Value} {wv : Bool} {mo : Int} (h : DiskO own S w db s mv wv mo) (n1 n2 n3 : Nat) (c1 c2 c3 : Array Value) (er : Int) (fs1 fs2 : Fs)
    (he1 : ∀ w, (callFunc n1 c1).run Try.prog w = .ok (.enter n1 c1) w) (he2 : ∀ w, (callFunc n2 c2).run Try.prog w = .ok (.enter n2 c2) w) (he3 : ∀ w, (callFunc n3 c3).run Try.prog w = .ok (.enter n3 c3) w)
    (hneed : Calls Try.prog n1 c1 w fun e w' => e = .returned (.int .i64 er) ∧ Below w.heap.size w w')
    (hwhole : s.down = false → er = 0 → brkB s = false → Does own S w db s mv n2 c2 fs1) (htorn : s.down = false → er = 0 → brkB s = true → Does own S w db s mv n3 c3 fs2) :
    Calls Try.prog 56 #[ptrV db, .func (.func n1) #[] c1, .func (.func n2) #[] c2, .func (.func n3) #[] c3] w fun e w' => e = .returned (.int .i64 (changeS s er fs1 fs2).1) ∧ DiskAt S w' db (changeS s er fs1 fs2).2 ∧ Kept S w w' := by
  have hd := Down_any ⟨own, mv, wv, mo, h⟩
  have H := Lib.hid h
  have HN := Lib.hid hneed
  have HW := Lib.hid hwhole
  have HT := Lib.hid htorn
  clear h hneed hwhole htorn
  by_cases hdn : s.down = true
  · have HE := Lib.hid (changeS_down hdn er fs1 fs2)
    rw [hdn] at hd
    generalize changeS s er fs1 fs2 = R at *
    go_enter Try.func56, Try.ntmps56
    go_wp2_with fail
    refine hd.mono ?_
    rintro e w1 ⟨rfl, rfl⟩
    go_wp2
    go_ret
    rw [HE.out]
    exact ⟨rfl, ⟨own, mv, wv, mo, H.out⟩, Kept.refl _ _⟩
  · have hdn' : s.down = false := by simpa using hdn
    rw [hdn'] at hd
    have hdb : S db := (H.out.mine db (by rw [H.out.disk]; simp)).1
    have hdl := H.out.lt
    by_cases her : er = 0
    · have hb1 := fun w1 (b1 : Below w.heap.size w w1) => breaks_own (H.out.below b1) hdn'
      have HB1 := Lib.hid hb1
      clear hb1
      cases hB : brkB s with
      | true =>
        have HE := Lib.hid (changeS_torn hdn' her hB fs1 fs2)
        have HBt := Lib.hid hB
        clear hB hdn
        subst her
        generalize changeS s 0 fs1 fs2 = R at *
        go_enter Try.func56, Try.ntmps56
        go_wp2_with fail
        refine hd.mono ?_
        rintro e w1 ⟨rfl, rfl⟩
        go_wp2_with fail
        refine HN.out.mono ?_
        rintro e w1 ⟨rfl, b1⟩
        have hb2 := HB1.out w1 b1
        rw [HBt.out] at hb2
        have B1 := Lib.hid b1
        clear b1
        go_wp2_with fail
        refine hb2.mono ?_
        rintro e w2 ⟨rfl, ⟨wv', mo', hd2⟩, hg2⟩
        have hs2 : w.heap.size ≤ w2.heap.size := Nat.le_trans B1.out.size hg2.size
        have hc := HT.out hdn' (by first | trivial | rfl) HBt.out w2 wv' mo' hd2 (fun j hj hlj => (hg2.block j (Nat.lt_of_lt_of_le hlj B1.out.size) (fun e => by have := Option.some.inj e; subst this; rw [H.out.disk] at hj; cases hj)).trans (B1.out.block j hlj)) hs2
        have HC := Lib.hid hc
        have G2 := Lib.hid hg2
        clear hd2 hg2 hc
        go_wp2_with fail
        refine HC.out.mono ?_
        rintro e w3 ⟨rfl, hd3, hk3⟩
        have HD3 := Lib.hid hd3
        have HK3 := Lib.hid (((Kept.of_below B1.out).trans (Kept.of_but G2.out hdb)).trans hk3)
        clear hd3 hk3
        go_wp2
        go_ret
        rw [HE.out]
        exact ⟨rfl, HD3.out, HK3.out⟩
      | false =>
        have HE := Lib.hid (changeS_whole hdn' her hB fs1 fs2)
        have HBt := Lib.hid hB
        clear hB hdn
        subst her
        generalize changeS s 0 fs1 fs2 = R at *
        go_enter Try.func56, Try.ntmps56
        go_wp2_with fail
        refine hd.mono ?_
        rintro e w1 ⟨rfl, rfl⟩
        go_wp2_with fail
        refine HN.out.mono ?_
        rintro e w1 ⟨rfl, b1⟩
        have hb2 := HB1.out w1 b1
        rw [HBt.out] at hb2
        have B1 := Lib.hid b1
        clear b1
        go_wp2_with fail
        refine hb2.mono ?_
        rintro e w2 ⟨rfl, ⟨wv', mo', hd2⟩, hg2⟩
        have hs2 : w.heap.size ≤ w2.heap.size := Nat.le_trans B1.out.size hg2.size
        have hc := HW.out hdn' (by first | trivial | rfl) HBt.out w2 wv' mo' hd2 (fun j hj hlj => (hg2.block j (Nat.lt_of_lt_of_le hlj B1.out.size) (fun e => by have := Option.some.inj e; subst this; rw [H.out.disk] at hj; cases hj)).trans (B1.out.block j hlj)) hs2
        have HC := Lib.hid hc
        have G2 := Lib.hid hg2
        clear hd2 hg2 hc
        go_wp2_with fail
        refine HC.out.mono ?_
        rintro e w3 ⟨rfl, hd3, hk3⟩
        have HD3 := Lib.hid hd3
        have HK3 := Lib.hid (((Kept.of_below B1.out).trans (Kept.of_but G2.out hdb)).trans hk3)
        clear hd3 hk3
        go_wp2
        go_ret
        rw [HE.out]
        exact ⟨rfl, HD3.out, HK3.out⟩
    · have HE := Lib.hid (changeS_err hdn' her fs1 fs2)
      have hei : (er != 0) = true := by simpa using her
      clear hdn her
      generalize changeS s er fs1 fs2 = R at *
      go_enter Try.func56, Try.ntmps56
      go_wp2_with fail
      refine hd.mono ?_
      rintro e w1 ⟨rfl, rfl⟩
      go_wp2_with fail
      refine HN.out.mono ?_
      rintro e w1 ⟨rfl, b1⟩
      have B1 := Lib.hid b1
      clear b1
      go_wp2
      go_ret
      rw [HE.out]
      exact ⟨rfl, ⟨own, mv, wv, mo, H.out.below B1.out⟩, Kept.of_below B1.out⟩
end Go.Proofs.Ytnffjoflkeagfaa
