/- Sync, Remove. -/
import Derived.Test.YtnffjoflkeagfaaMeth
import Derived.Deep.RegionHeld3
namespace Go.Proofs.Ytnffjoflkeagfaa
open Go.RowKit Go.Maps

theorem needs_any (db : Nat) (name : ByteArray) (w : World) :
    Calls Try.prog 63 #[ptrV db, .string name] w fun e w' => e = .returned (.func (.func 85) #[] #[ptrV w.heap.size, ptrV (w.heap.size + 1)]) ∧ w'.cell? ⟨w.heap.size, 0, none⟩ = some (ptrV db) ∧ w'.cell? ⟨w.heap.size + 1, 0, none⟩ = some (.string name) ∧ Below w.heap.size w w' := by
  obtain ⟨p1, p2, hb, hz⟩ := box2 w (ptrV db) (.string name) 25 9
  have P1 := Lib.hid p1
  have P2 := Lib.hid p2
  have HB := Lib.hid hb
  clear p1 p2 hb hz
  go_enter Try.func63, Try.ntmps63
  go_wp2
  go_ret
  exact ⟨rfl, P1.out, P2.out, HB.out⟩
theorem sync_change {own : Nat → Own} {S : Nat → Prop} {w : World} {db : Nat} {s : St} {mv : Value} {wv : Bool} {mo : Int} (h0 : DiskO own S w db s mv wv mo) (hS0 : ∀ k, w.heap.size ≤ k → S k) (hm : Small s) (name : ByteArray) (hn : name.size ≤ 281474976710656)
    (b1 b2 g1 g2 : Nat) (o1 : own b1 = .no) (o2 : own b2 = .no) (k1 : w.cell? ⟨b1, 0, none⟩ = some (ptrV db)) (k2 : w.cell? ⟨b2, 0, none⟩ = some (.string name)) (q1 : w.cell? ⟨g1, 0, none⟩ = some (ptrV db)) (q2 : w.cell? ⟨g2, 0, none⟩ = some (.string name)) :
    Calls Try.prog 56 #[ptrV db, .func (.func 85) #[] #[ptrV g1, ptrV g2], .func (.func 64) #[] #[ptrV b1, ptrV b2], .func (.func 59) #[] #[]] w fun e w' =>
      e = .returned (.int .i64 (syncS s (bs name)).1) ∧ DiskAt S w' db (syncS s (bs name)).2 ∧ Kept S w w' ∧ w'.cell? ⟨b1, 0, none⟩ = some (ptrV db) ∧ w'.cell? ⟨b2, 0, none⟩ = some (.string name) := by
  have l1 := World.block_lt_of_cell? w _ k1
  have l2 := World.block_lt_of_cell? w _ k2
  simp only at l1 l2
  have h : DiskO own (fun k => own k ≠ .no ∨ w.heap.size ≤ k) w db s mv wv mo := ⟨fun k hk => ⟨.inl hk, (h0.mine k hk).2⟩, h0.disk, h0.block, h0.brk, h0.map, h0.fit⟩
  have hS : ∀ k, w.heap.size ≤ k → (fun k => own k ≠ .no ∨ w.heap.size ≤ k) k := fun k hk => .inr hk
  have hSS : ∀ k, (fun k => own k ≠ .no ∨ w.heap.size ≤ k) k → S k := fun k hk => hk.elim (fun h => (h0.mine k h).1) (hS0 k)
  have main : Calls Try.prog 56 #[ptrV db, .func (.func 85) #[] #[ptrV g1, ptrV g2], .func (.func 64) #[] #[ptrV b1, ptrV b2], .func (.func 59) #[] #[]] w fun e w' =>
      e = .returned (.int .i64 (syncS s (bs name)).1) ∧ DiskAt (fun k => own k ≠ .no ∨ w.heap.size ≤ k) w' db (syncS s (bs name)).2 ∧ Kept (fun k => own k ≠ .no ∨ w.heap.size ≤ k) w w' := by
    refine change_any h 85 64 59 _ _ _ (needE s (bs name)) (putF s.fs (bs name) (syncedF (getF s.fs (bs name)))) s.fs (fn_needs1 _) (fn_sync1 _) (fn_nothing _)
      (needs1_any ⟨own, mv, wv, mo, h⟩ _ _ name (by omega) q1 q2) (fun _ h0 _ => ?_) (fun _ _ _ => does_nothing)
    intro w2 wv' mo' hd2 hb2 hs2
    have hfit : Fit { brkS s with fs := putF (brkS s).fs (bs name) (syncedF (getF (brkS s).fs (bs name))) } := by
      refine fit_fs hd2.fit rfl (by rw [bs_len]; omega) (Nat.le_refl _) ?_ _ _ _ hd2.fit.moreI
      have := hd2.fit.room
      simp only [syncedF]; omega
    have := sync1_any hd2 (fun k hk => .inr (by omega)) name hn (by rw [brkS_fs]; exact hm.count) hfit b1 b2 ((cell_of 0 (hb2 _ o1 l1)).trans k1) ((cell_of 0 (hb2 _ o2 l2)).trans k2)
    rw [brkS_fs] at this
    exact this
  refine main.mono ?_
  rintro e w' ⟨rfl, hd', hk'⟩
  have n1 : ¬ (own b1 ≠ .no ∨ w.heap.size ≤ b1) := fun hh => hh.elim (fun h => h o1) (fun h => by omega)
  have n2 : ¬ (own b2 ≠ .no ∨ w.heap.size ≤ b2) := fun hh => hh.elim (fun h => h o2) (fun h => by omega)
  exact ⟨rfl, hd'.mono (fun k _ hk => hSS k hk), hk'.mono (fun k _ hk => hSS k hk), (cell_of 0 (hk'.block b1 l1 n1)).trans k1, (cell_of 0 (hk'.block b2 l2 n2)).trans k2⟩
set_option maxRecDepth 100000 in
set_option maxHeartbeats 2000000 in
theorem Sync_any {S : Nat → Prop} {w : World} {db : Nat} {s : St} (h : DiskAt S w db s) (hS : ∀ k, w.heap.size ≤ k → S k) (hm : Small s) (name : ByteArray) (hn : name.size ≤ 281474976710656) :
    Calls Try.prog 32 #[ptrV db, .string name] w fun e w' => e = .returned (.int .i64 (syncS s (bs name)).1) ∧ DiskAt S w' db (syncS s (bs name)).2 ∧ Kept S w w' := by
  obtain ⟨own, mv, wv, mo, h⟩ := h
  have o1 := h.free (Nat.le_refl _)
  have o2 := h.free (k := w.heap.size + 1) (by omega)
  obtain ⟨p1, p2, hb, hz⟩ := box2 w (ptrV db) (.string name) 25 9
  have hd := h.below hb
  have hch : ∀ w4, Below (w.heap.size + 1 + 1) ((w.alloc (.cells #[ptrV db] 25)).alloc (.cells #[.string name] 9)).drew w4 → w4.cell? ⟨w.heap.size + 1 + 1, 0, none⟩ = some (ptrV db) → w4.cell? ⟨w.heap.size + 1 + 1 + 1, 0, none⟩ = some (.string name) →
      Calls Try.prog 56 #[ptrV db, .func (.func 85) #[] #[ptrV (w.heap.size + 1 + 1), ptrV (w.heap.size + 1 + 1 + 1)], .func (.func 64) #[] #[ptrV w.heap.size, ptrV (w.heap.size + 1)], .func (.func 59) #[] #[]] w4 fun e w' =>
        e = .returned (.int .i64 (syncS s (bs name)).1) ∧ DiskAt S w' db (syncS s (bs name)).2 ∧ Kept S w w' ∧ w'.cell? ⟨w.heap.size, 0, none⟩ = some (ptrV db) ∧ w'.cell? ⟨w.heap.size + 1, 0, none⟩ = some (.string name) := by
    intro w4 hb4 q1 q2
    have hb0 : Below (w.heap.size + 1 + 1) ((w.alloc (.cells #[ptrV db] 25)).alloc (.cells #[.string name] 9)) w4 := ⟨hb4.os, hb4.tape, hb4.output, hb4.size, hb4.block⟩
    have hb5 : Below w.heap.size w w4 := hb.trans (hb0.mono (by omega))
    refine (sync_change (h.below hb5) (fun k hk => hS k (by have := hb5.size; omega)) hm name hn _ _ _ _ o1 o2 ((hb0.cell (p := ⟨w.heap.size, 0, none⟩) (by simp; omega)).trans p1) ((hb0.cell (p := ⟨w.heap.size + 1, 0, none⟩) (by simp)).trans p2) q1 q2).mono ?_
    rintro e w' ⟨rfl, hd', hk', hc'⟩
    exact ⟨rfl, hd', (Kept.of_below hb5).trans hk', hc'⟩
  have HCH := Lib.hid hch
  generalize syncS s (bs name) = R at *
  have hnd := fun w' => needs_any db name w'
  have hzz : ((w.alloc (.cells #[ptrV db] 25)).alloc (.cells #[.string name] 9)).drew.heap.size = w.heap.size + 1 + 1 := hz
  have HZ2 := Lib.hid hzz
  have P1 := Lib.hid p1
  have P2 := Lib.hid p2
  clear h hd hb hz hS hch o1 o2 hzz
  go_enter Try.func32, Try.ntmps32
  go_wp2
  go_region_held3 (fun w' => w'.cell? ⟨w.heap.size, 0, none⟩ = some (ptrV db) ∧ w'.cell? ⟨w.heap.size + 1, 0, none⟩ = some (.string name))
    (first
      | exact ⟨p1, p2⟩
      | exact HM5.out
      | exact HM4.out)
    (first
      | (go_at_call 63; refine (hnd _).mono ?_; rintro e w4 ⟨rfl, q1, q2, hb4⟩; rw [HZ2.out] at q1 q2 hb4 ⊢; have m1 : w4.cell? ⟨w.heap.size, 0, none⟩ = some (ptrV db) := (hb4.cell (p := ⟨w.heap.size, 0, none⟩) (by simp; omega)).trans P1.out; have m2 : w4.cell? ⟨w.heap.size + 1, 0, none⟩ = some (.string name) := (hb4.cell (p := ⟨w.heap.size + 1, 0, none⟩) (by simp)).trans P2.out; have HM4 := Lib.hid (And.intro m1 m2); have HH := Lib.hid (HCH.out w4 hb4 q1 q2); clear q1 q2 hb4 hnd)
      | (go_at_call 56; refine HH.out.mono ?_; rintro e w5 ⟨rfl, hd5, hk5, hm5⟩; have HD5 := Lib.hid hd5; have HK5 := Lib.hid hk5; have HM5 := Lib.hid hm5; clear hd5 hk5 hm5))
  all_goals
    go_wp2
    go_ret
    exact ⟨rfl, HD5.out, HK5.out⟩
theorem remove_change {own : Nat → Own} {S : Nat → Prop} {w : World} {db : Nat} {s : St} {mv : Value} {wv : Bool} {mo : Int} (h0 : DiskO own S w db s mv wv mo) (hS0 : ∀ k, w.heap.size ≤ k → S k) (_hm : Small s) (name : ByteArray) (hn : name.size ≤ 281474976710656)
    (b1 b2 g1 g2 : Nat) (o1 : own b1 = .no) (o2 : own b2 = .no) (k1 : w.cell? ⟨b1, 0, none⟩ = some (ptrV db)) (k2 : w.cell? ⟨b2, 0, none⟩ = some (.string name)) (q1 : w.cell? ⟨g1, 0, none⟩ = some (ptrV db)) (q2 : w.cell? ⟨g2, 0, none⟩ = some (.string name)) :
    Calls Try.prog 56 #[ptrV db, .func (.func 85) #[] #[ptrV g1, ptrV g2], .func (.func 71) #[] #[ptrV b1, ptrV b2], .func (.func 59) #[] #[]] w fun e w' =>
      e = .returned (.int .i64 (removeS s (bs name)).1) ∧ DiskAt S w' db (removeS s (bs name)).2 ∧ Kept S w w' ∧ w'.cell? ⟨b1, 0, none⟩ = some (ptrV db) ∧ w'.cell? ⟨b2, 0, none⟩ = some (.string name) := by
  have l1 := World.block_lt_of_cell? w _ k1
  have l2 := World.block_lt_of_cell? w _ k2
  simp only at l1 l2
  have h : DiskO own (fun k => own k ≠ .no ∨ w.heap.size ≤ k) w db s mv wv mo := ⟨fun k hk => ⟨.inl hk, (h0.mine k hk).2⟩, h0.disk, h0.block, h0.brk, h0.map, h0.fit⟩
  have hS : ∀ k, w.heap.size ≤ k → (fun k => own k ≠ .no ∨ w.heap.size ≤ k) k := fun k hk => .inr hk
  have hSS : ∀ k, (fun k => own k ≠ .no ∨ w.heap.size ≤ k) k → S k := fun k hk => hk.elim (fun h => (h0.mine k h).1) (hS0 k)
  have main : Calls Try.prog 56 #[ptrV db, .func (.func 85) #[] #[ptrV g1, ptrV g2], .func (.func 71) #[] #[ptrV b1, ptrV b2], .func (.func 59) #[] #[]] w fun e w' =>
      e = .returned (.int .i64 (removeS s (bs name)).1) ∧ DiskAt (fun k => own k ≠ .no ∨ w.heap.size ≤ k) w' db (removeS s (bs name)).2 ∧ Kept (fun k => own k ≠ .no ∨ w.heap.size ≤ k) w w' := by
    refine change_any h 85 71 59 _ _ _ (needE s (bs name)) (delF s.fs (bs name)) s.fs (fn_needs1 _) (fn_remove1 _) (fn_nothing _)
      (needs1_any ⟨own, mv, wv, mo, h⟩ _ _ name (by omega) q1 q2) (fun _ h0 _ => ?_) (fun _ _ _ => does_nothing)
    intro w2 wv' mo' hd2 hb2 hs2
    have := remove1_any hd2 name hn b1 b2 ((cell_of 0 (hb2 _ o1 l1)).trans k1) ((cell_of 0 (hb2 _ o2 l2)).trans k2)
    rw [brkS_fs] at this
    exact this
  refine main.mono ?_
  rintro e w' ⟨rfl, hd', hk'⟩
  have n1 : ¬ (own b1 ≠ .no ∨ w.heap.size ≤ b1) := fun hh => hh.elim (fun h => h o1) (fun h => by omega)
  have n2 : ¬ (own b2 ≠ .no ∨ w.heap.size ≤ b2) := fun hh => hh.elim (fun h => h o2) (fun h => by omega)
  exact ⟨rfl, hd'.mono (fun k _ hk => hSS k hk), hk'.mono (fun k _ hk => hSS k hk), (cell_of 0 (hk'.block b1 l1 n1)).trans k1, (cell_of 0 (hk'.block b2 l2 n2)).trans k2⟩
set_option maxRecDepth 100000 in
set_option maxHeartbeats 2000000 in
theorem Remove_any {S : Nat → Prop} {w : World} {db : Nat} {s : St} (h : DiskAt S w db s) (hS : ∀ k, w.heap.size ≤ k → S k) (hm : Small s) (name : ByteArray) (hn : name.size ≤ 281474976710656) :
    Calls Try.prog 39 #[ptrV db, .string name] w fun e w' => e = .returned (.int .i64 (removeS s (bs name)).1) ∧ DiskAt S w' db (removeS s (bs name)).2 ∧ Kept S w w' := by
  obtain ⟨own, mv, wv, mo, h⟩ := h
  have o1 := h.free (Nat.le_refl _)
  have o2 := h.free (k := w.heap.size + 1) (by omega)
  obtain ⟨p1, p2, hb, hz⟩ := box2 w (ptrV db) (.string name) 25 9
  have hd := h.below hb
  have hch : ∀ w4, Below (w.heap.size + 1 + 1) ((w.alloc (.cells #[ptrV db] 25)).alloc (.cells #[.string name] 9)).drew w4 → w4.cell? ⟨w.heap.size + 1 + 1, 0, none⟩ = some (ptrV db) → w4.cell? ⟨w.heap.size + 1 + 1 + 1, 0, none⟩ = some (.string name) →
      Calls Try.prog 56 #[ptrV db, .func (.func 85) #[] #[ptrV (w.heap.size + 1 + 1), ptrV (w.heap.size + 1 + 1 + 1)], .func (.func 71) #[] #[ptrV w.heap.size, ptrV (w.heap.size + 1)], .func (.func 59) #[] #[]] w4 fun e w' =>
        e = .returned (.int .i64 (removeS s (bs name)).1) ∧ DiskAt S w' db (removeS s (bs name)).2 ∧ Kept S w w' ∧ w'.cell? ⟨w.heap.size, 0, none⟩ = some (ptrV db) ∧ w'.cell? ⟨w.heap.size + 1, 0, none⟩ = some (.string name) := by
    intro w4 hb4 q1 q2
    have hb0 : Below (w.heap.size + 1 + 1) ((w.alloc (.cells #[ptrV db] 25)).alloc (.cells #[.string name] 9)) w4 := ⟨hb4.os, hb4.tape, hb4.output, hb4.size, hb4.block⟩
    have hb5 : Below w.heap.size w w4 := hb.trans (hb0.mono (by omega))
    refine (remove_change (h.below hb5) (fun k hk => hS k (by have := hb5.size; omega)) hm name hn _ _ _ _ o1 o2 ((hb0.cell (p := ⟨w.heap.size, 0, none⟩) (by simp; omega)).trans p1) ((hb0.cell (p := ⟨w.heap.size + 1, 0, none⟩) (by simp)).trans p2) q1 q2).mono ?_
    rintro e w' ⟨rfl, hd', hk', hc'⟩
    exact ⟨rfl, hd', (Kept.of_below hb5).trans hk', hc'⟩
  have HCH := Lib.hid hch
  generalize removeS s (bs name) = R at *
  have hnd := fun w' => needs_any db name w'
  have hzz : ((w.alloc (.cells #[ptrV db] 25)).alloc (.cells #[.string name] 9)).drew.heap.size = w.heap.size + 1 + 1 := hz
  have HZ2 := Lib.hid hzz
  have P1 := Lib.hid p1
  have P2 := Lib.hid p2
  clear h hd hb hz hS hch o1 o2 hzz
  go_enter Try.func39, Try.ntmps39
  go_wp2
  go_region_held3 (fun w' => w'.cell? ⟨w.heap.size, 0, none⟩ = some (ptrV db) ∧ w'.cell? ⟨w.heap.size + 1, 0, none⟩ = some (.string name))
    (first
      | exact ⟨p1, p2⟩
      | exact HM5.out
      | exact HM4.out)
    (first
      | (go_at_call 63; refine (hnd _).mono ?_; rintro e w4 ⟨rfl, q1, q2, hb4⟩; rw [HZ2.out] at q1 q2 hb4 ⊢; have m1 : w4.cell? ⟨w.heap.size, 0, none⟩ = some (ptrV db) := (hb4.cell (p := ⟨w.heap.size, 0, none⟩) (by simp; omega)).trans P1.out; have m2 : w4.cell? ⟨w.heap.size + 1, 0, none⟩ = some (.string name) := (hb4.cell (p := ⟨w.heap.size + 1, 0, none⟩) (by simp)).trans P2.out; have HM4 := Lib.hid (And.intro m1 m2); have HH := Lib.hid (HCH.out w4 hb4 q1 q2); clear q1 q2 hb4 hnd)
      | (go_at_call 56; refine HH.out.mono ?_; rintro e w5 ⟨rfl, hd5, hk5, hm5⟩; have HD5 := Lib.hid hd5; have HK5 := Lib.hid hk5; have HM5 := Lib.hid hm5; clear hd5 hk5 hm5))
  all_goals
    go_wp2
    go_ret
    exact ⟨rfl, HD5.out, HK5.out⟩
end Go.Proofs.Ytnffjoflkeagfaa
