/- Down, Used, breaks, fits, what a change needs. -/
import Derived.Test.YtnffjoflkeagfaaDisk
namespace Go.Proofs.Ytnffjoflkeagfaa
open Go.RowKit Go.Maps

abbrev ptrV (b : Nat) : Value := .pointer (some ⟨b, 0, none⟩)
set_option maxHeartbeats 1000000 in
theorem Down_any {S : Nat → Prop} {w : World} {db : Nat} {s : St} (h : DiskAt S w db s) :
    Calls Try.prog 18 #[ptrV db] w fun e w' => e = .returned (.bool s.down) ∧ w = w' := by
  obtain ⟨own, mv, wv, mo, h⟩ := h
  have c3 := h.c3
  clear h
  generalize s.down = x at *
  go_enter Try.func18, Try.ntmps18
  go_wp2
  go_ret
  exact ⟨rfl, rfl⟩
set_option maxHeartbeats 1000000 in
theorem Used_any {S : Nat → Prop} {w : World} {db : Nat} {s : St} (h : DiskAt S w db s) :
    Calls Try.prog 16 #[ptrV db] w fun e w' => e = .returned (.int .i64 (usedF s.fs : Int)) ∧ w = w' := by
  obtain ⟨own, mv, wv, mo, h⟩ := h
  have c2 := h.c2
  clear h
  generalize usedF s.fs = x at *
  go_enter Try.func16, Try.ntmps16
  go_wp2
  go_ret
  exact ⟨rfl, rfl⟩
/-- the errno of room for so many more -/
def fitE (s : St) (n : Int) : Int := if n > (s.room : Int) - (usedF s.fs : Int) then 40 else 0
set_option maxHeartbeats 1000000 in
theorem fits_any {S : Nat → Prop} {w : World} {db : Nat} {s : St} (h : DiskAt S w db s) (n : Int) :
    Calls Try.prog 62 #[ptrV db, .int .i64 n] w fun e w' => e = .returned (.int .i64 (fitE s n)) ∧ ∃ q, w' = w.drewN q := by
  obtain ⟨own, mv, wv, mo, h⟩ := h
  have c1 := h.c1
  have c2 := h.c2
  have hr := h.fit.room
  have hi := h.fit.roomI
  clear h
  by_cases hlt : (s.room : Int) - (usedF s.fs : Int) < n
  · have HE : Hid (fitE s n = 40) := by show _ = _; unfold fitE; rw [if_pos (by omega)]
    generalize fitE s n = E at *
    generalize usedF s.fs = x at *
    generalize s.room = r at *
    go_enter Try.func62, Try.ntmps62
    go_wp2
    go_quiet (fail)
    go_wp2
    go_ret
    exact ⟨ret_int HE.out.symm, _, rfl⟩
  · have HE : Hid (fitE s n = 0) := by show _ = _; unfold fitE; rw [if_neg (by omega)]
    generalize fitE s n = E at *
    generalize usedF s.fs = x at *
    generalize s.room = r at *
    go_enter Try.func62, Try.ntmps62
    go_wp2
    go_quiet (fail)
    go_wp2
    go_ret
    exact ⟨ret_int HE.out.symm, _, rfl⟩
/-- does the power go within this change; the disk then -/
def brkB (s : St) : Bool := s.waits && s.more == 0
def brkS (s : St) : St := if s.waits = true then (if s.more = 0 then { s with down := true, waits := false } else { s with more := s.more - 1 }) else s
set_option maxHeartbeats 1000000 in
theorem breaks_own {own : Nat → Own} {S : Nat → Prop} {w : World} {db : Nat} {s : St} {mv : Value} {wv : Bool} {mo : Int} (h : DiskO own S w db s mv wv mo) (hd : s.down = false) :
    Calls Try.prog 84 #[ptrV db] w fun e w' => e = .returned (.bool (brkB s)) ∧ (∃ wv' mo', DiskO own S w' db (brkS s) mv wv' mo') ∧ w.grownBy w' (some db) := by
  have c3 := h.c3
  rw [hd] at c3
  have c4 := h.c4
  have c5 := h.c5
  have f3 := h.f 3
  have f4 := h.f 4
  have f5 := h.f 5
  obtain ⟨e1, e2⟩ := h.brk hd
  have hlt := h.lt
  have H := Lib.hid h
  clear h
  by_cases hw : s.waits = true
  · rw [hw] at e1
    subst e1
    have e3 := e2 hw
    subst e3
    clear e2
    by_cases hm : s.more = 0
    · have HB : Hid (brkB s = true) := by show _ = _; unfold brkB; rw [hw, hm]; rfl
      have HS : Hid (brkS s = { s with down := true, waits := false }) := by show _ = _; unfold brkS; rw [if_pos hw, if_pos hm]
      have hm0 : ((s.more : Int) == 0) = true := by rw [hm]; rfl
      have hmi := H.out.fit.moreI
      clear hd
      generalize brkB s = B at *
      generalize brkS s = T at *
      go_enter Try.func84, Try.ntmps84
      go_wp2
      go_ret
      refine ⟨ret_bool HB.out.symm, ?_, but_set (but_set (but_refl _ _) _ _) _ _⟩
      rw [HS.out]
      refine ⟨false, (s.more : Int), H.out.reblock (by simp [World.setCell]) (fun k hk => ?_) ?_ rfl (fun h => by cases h) (fit_same H.out.fit _ _ _ H.out.fit.moreI)⟩
      · rw [Below.heap_setCell _ _ _ _ hk, Below.heap_setCell _ _ _ _ hk]
      · have hb := H.out.block
        simp [World.setCell, Array.getElem?_modify, hb, diskC]
    · have HB : Hid (brkB s = false) := by show _ = _; unfold brkB; rw [hw]; simpa using hm
      have HS : Hid (brkS s = { s with more := s.more - 1 }) := by show _ = _; unfold brkS; rw [if_pos hw, if_neg hm]
      have hm0 : ((s.more : Int) == 0) = false := by rw [beq_eq_false_iff_ne]; omega
      have hmi := H.out.fit.moreI
      have hm1 : Hid (((s.more - 1 : Nat) : Int) = (s.more : Int) - 1) := by show _ = _; omega
      clear hd
      generalize brkB s = B at *
      generalize brkS s = T at *
      go_enter Try.func84, Try.ntmps84
      go_wp2
      go_ret
      refine ⟨ret_bool HB.out.symm, ?_, but_set (but_refl _ _) _ _⟩
      rw [HS.out]
      refine ⟨true, _, H.out.reblock (by simp [World.setCell]) (fun k hk => ?_) ?_ rfl (fun _ => ⟨hw.symm, fun _ => hm1.out.symm⟩) (fit_same H.out.fit _ _ _ (by omega))⟩
      · rw [Below.heap_setCell _ _ _ _ hk]
      · have hb := H.out.block
        simp [World.setCell, Array.getElem?_modify, hb, diskC]
  · have hw' : s.waits = false := by simpa using hw
    rw [hw'] at e1
    subst e1
    clear e2
    have HB : Hid (brkB s = false) := by show _ = _; unfold brkB; rw [hw']; rfl
    have HS : Hid (brkS s = s) := by show _ = _; unfold brkS; rw [if_neg hw]
    clear hd hw hw'
    generalize brkB s = B at *
    generalize brkS s = T at *
    go_enter Try.func84, Try.ntmps84
    go_wp2
    go_ret
    refine ⟨ret_bool HB.out.symm, ?_, but_refl _ _⟩
    rw [HS.out]
    exact ⟨false, _, H.out⟩
set_option maxHeartbeats 1000000 in
theorem needs1_any {S : Nat → Prop} {w : World} {db : Nat} {s : St} (h : DiskAt S w db s) (b1 b2 : Nat) (name : ByteArray) (hn : name.size ≤ 9223372036854775807)
    (k1 : w.cell? ⟨b1, 0, none⟩ = some (ptrV db)) (k2 : w.cell? ⟨b2, 0, none⟩ = some (.string name)) :
    Calls Try.prog 85 #[ptrV b1, ptrV b2] w fun e w' => e = .returned (.int .i64 (needE s (bs name))) ∧ Below w.heap.size w w' := by
  obtain ⟨own, mv, wv, mo, h⟩ := h
  have c0 := h.c0
  obtain ⟨v, hbf, hl⟩ := h.map.look name hn
  obtain ⟨va, vc, rfl⟩ := hbf.slice
  have h1 := World.block_lt_of_cell? w _ k1
  have h2 := World.block_lt_of_cell? w _ k2
  simp only at h1 h2
  have hlt := h.lt
  have c0a := fun o => (cell_alloc w o 0 hlt).trans c0
  have k1a := fun o => (cell_alloc w o 0 h1).trans k1
  have k2a := fun o => (cell_alloc w o 0 h2).trans k2
  have hl1 := (hl w.drew (fun g _ => rfl)).2
  have hl2 := fun o => (hl (w.alloc o).drew (fun g hg => Below.heap_alloc w o g (h.mine g (by rw [hg]; simp)).2)).2
  clear h hl hbf
  by_cases ht : (look s.fs (bs name)).isSome = true
  · have HE : Hid (needE s (bs name) = 0) := by show _ = _; unfold needE; rw [if_pos ht]
    rw [ht] at hl1 hl2
    clear ht
    generalize needE s (bs name) = E at *
    generalize (getF s.fs (bs name)).b.length = fl at *
    go_enter Try.func85, Try.ntmps85
    go_wp2
    go_region
    go_wp2
    go_ret
    exact ⟨ret_int HE.out.symm, ((Below.refl _ _).alloc (Nat.le_refl _) _).drew⟩
  · have HE : Hid (needE s (bs name) = 42) := by show _ = _; unfold needE; rw [if_neg ht]
    have ht : (look s.fs (bs name)).isSome = false := by simpa using ht
    rw [ht] at hl1 hl2
    clear ht
    generalize needE s (bs name) = E at *
    generalize (getF s.fs (bs name)).b.length = fl at *
    go_enter Try.func85, Try.ntmps85
    go_wp2
    go_region
    go_wp2
    go_ret
    exact ⟨ret_int HE.out.symm, ((Below.refl _ _).alloc (Nat.le_refl _) _).drew⟩
end Go.Proofs.Ytnffjoflkeagfaa
