/- Append, Sync, Cut, Replace, Remove. Sync, Remove. -/
import Derived.Test.YtnffjoflkeagfaaGreatD3
import Derived.Deep.RegionHeld3
namespace Go.Proofs.YtnffjoflkeagfaaGreat
open Go.RowKit Go.Maps

theorem fn_append1 (args : Array Value) (w : World) : (callFunc 46 args).run Tryz.prog w = .ok (.enter 46 args) w := enter_val Tryz.func46 (by kernel_rfl) rfl args w
theorem fn_append2 (args : Array Value) (w : World) : (callFunc 49 args).run Tryz.prog w = .ok (.enter 49 args) w := enter_val Tryz.func49 (by kernel_rfl) rfl args w
theorem fn_needs1 (args : Array Value) (w : World) : (callFunc 85 args).run Tryz.prog w = .ok (.enter 85 args) w := enter_val Tryz.func85 (by kernel_rfl) rfl args w
theorem fn_sync1 (args : Array Value) (w : World) : (callFunc 69 args).run Tryz.prog w = .ok (.enter 69 args) w := enter_val Tryz.func69 (by kernel_rfl) rfl args w
theorem fn_cut1 (args : Array Value) (w : World) : (callFunc 59 args).run Tryz.prog w = .ok (.enter 59 args) w := enter_val Tryz.func59 (by kernel_rfl) rfl args w
theorem fn_cut2 (args : Array Value) (w : World) : (callFunc 60 args).run Tryz.prog w = .ok (.enter 60 args) w := enter_val Tryz.func60 (by kernel_rfl) rfl args w
theorem fn_replace1 (args : Array Value) (w : World) : (callFunc 74 args).run Tryz.prog w = .ok (.enter 74 args) w := enter_val Tryz.func74 (by kernel_rfl) rfl args w
theorem fn_replace2 (args : Array Value) (w : World) : (callFunc 75 args).run Tryz.prog w = .ok (.enter 75 args) w := enter_val Tryz.func75 (by kernel_rfl) rfl args w
theorem fn_nothing (args : Array Value) (w : World) : (callFunc 61 args).run Tryz.prog w = .ok (.enter 61 args) w := enter_val Tryz.func61 (by kernel_rfl) rfl args w

/-- nothing comes of a change that is cut off -/
theorem does_nothing {own : Nat → Own} {S : Nat → Prop} {w : World} {db : Nat} {s : St} {mv : Value} : Does own S w db s mv 61 #[] s.fs := by
  intro w2 wv mo hd _ _
  refine (nothing_any w2).mono ?_
  rintro e w' ⟨rfl, rfl⟩
  refine ⟨rfl, ?_, Kept.refl _ _⟩
  have e : ({ brkS s with fs := s.fs } : St) = brkS s := by rw [← brkS_fs s]
  rw [e]
  exact ⟨own, mv, wv, mo, hd⟩
/-- what a disk can be asked, without asking too much -/
structure Small (s : St) : Prop where
  count : s.fs.length ≤ 1099511627776
  bytes : usedF s.fs ≤ 140737488355328
theorem fitE_append (s : St) (x : ByteArray) : fitE s x.size = (if usedF s.fs + (bs x).length > s.room then 40 else 0) := by
  unfold fitE
  rw [bs_len]
  by_cases h : usedF s.fs + x.size > s.room
  · rw [if_pos h, if_pos (by omega)]
  · rw [if_neg h, if_neg (by omega)]
theorem fit_append {s : St} (h : Fit s) (k b : List UInt8) (hk : k.length ≤ 9223372036854775807) (hr : usedF s.fs + b.length ≤ s.room) : Fit { s with fs := putF s.fs k (grown (getF s.fs k) b) } := by
  refine fit_fs h rfl hk ?_ ?_ _ _ _ h.moreI
  · have := h.get k
    simp only [grown, List.length_append]; omega
  · simp only [grown, List.length_append]; omega
theorem append_does {own : Nat → Own} {S : Nat → Prop} {w : World} {db : Nat} {s : St} {mv : Value} (hS : ∀ k, w.heap.size ≤ k → S k) (hm : Small s) (name x : ByteArray) (hn : name.size ≤ 281474976710656) (hx : usedF s.fs + x.size ≤ 140737488355328)
    (hr : usedF s.fs + (bs x).length ≤ s.room) (b1 b2 b3 : Nat) (o1 : own b1 = .no) (o2 : own b2 = .no) (o3 : own b3 = .no)
    (k1 : w.cell? ⟨b1, 0, none⟩ = some (ptrV db)) (k2 : w.cell? ⟨b2, 0, none⟩ = some (.string name)) (k3 : w.cell? ⟨b3, 0, none⟩ = some (.string x)) :
    Does own S w db s mv 46 #[ptrV b1, ptrV b2, ptrV b3] (putF s.fs (bs name) (grown (getF s.fs (bs name)) (bs x))) := by
  intro w2 wv mo hd hb hs
  have l1 := World.block_lt_of_cell? w _ k1
  have l2 := World.block_lt_of_cell? w _ k2
  have l3 := World.block_lt_of_cell? w _ k3
  have hg := get_le s.fs (bs name)
  have := append1_any hd (fun k hk => hS k (by omega)) name x hn (by rw [brkS_fs]; omega) (by rw [brkS_fs]; exact hm.count)
    (fit_append hd.fit (bs name) (bs x) (by rw [bs_len]; omega) (by rw [brkS_fs, brkS_room]; exact hr)) b1 b2 b3 o1 o2
    ((cell_of 0 (hb b1 o1 l1)).trans k1) ((cell_of 0 (hb b2 o2 l2)).trans k2) ((cell_of 0 (hb b3 o3 l3)).trans k3)
  rw [brkS_fs] at this
  exact this
theorem cell_new1 (w : World) (o : Obj) (b : Value) (tb : TypeId) : ((w.alloc o).alloc (.cells #[b] tb)).cell? ⟨w.heap.size + 1, 0, none⟩ = some b := by
  have h := World.cell?_alloc_new (w.alloc o) #[b] tb 0
  rw [show (w.alloc o).heap.size = w.heap.size + 1 by simp] at h
  exact h
theorem cell_new2 (w : World) (o o' : Obj) (b : Value) (tb : TypeId) : (((w.alloc o).alloc o').alloc (.cells #[b] tb)).cell? ⟨w.heap.size + 1 + 1, 0, none⟩ = some b := by
  have h := World.cell?_alloc_new ((w.alloc o).alloc o') #[b] tb 0
  rw [show ((w.alloc o).alloc o').heap.size = w.heap.size + 1 + 1 by simp] at h
  exact h
theorem box3 (w : World) (a b c : Value) (ta tb tc : TypeId) :
    (((w.alloc (.cells #[a] ta)).alloc (.cells #[b] tb)).alloc (.cells #[c] tc)).cell? ⟨w.heap.size, 0, none⟩ = some a ∧ (((w.alloc (.cells #[a] ta)).alloc (.cells #[b] tb)).alloc (.cells #[c] tc)).cell? ⟨w.heap.size + 1, 0, none⟩ = some b ∧
    (((w.alloc (.cells #[a] ta)).alloc (.cells #[b] tb)).alloc (.cells #[c] tc)).cell? ⟨w.heap.size + 1 + 1, 0, none⟩ = some c ∧ Below w.heap.size w (((w.alloc (.cells #[a] ta)).alloc (.cells #[b] tb)).alloc (.cells #[c] tc)) ∧
    (((w.alloc (.cells #[a] ta)).alloc (.cells #[b] tb)).alloc (.cells #[c] tc)).heap.size = w.heap.size + 1 + 1 + 1 := by
  refine ⟨(cell_alloc _ _ 0 (by simp; omega)).trans ((cell_alloc _ _ 0 (by simp)).trans (World.cell?_alloc_new _ _ _ _)), (cell_alloc _ _ 0 (by simp)).trans (cell_new1 w _ _ _), cell_new2 w _ _ _ _, (((Below.refl _ _).alloc (Nat.le_refl _) _).alloc (by simp) _).alloc (by simp; omega) _, by simp⟩
theorem box2 (w : World) (a b : Value) (ta tb : TypeId) :
    ((w.alloc (.cells #[a] ta)).alloc (.cells #[b] tb)).cell? ⟨w.heap.size, 0, none⟩ = some a ∧ ((w.alloc (.cells #[a] ta)).alloc (.cells #[b] tb)).cell? ⟨w.heap.size + 1, 0, none⟩ = some b ∧
    Below w.heap.size w ((w.alloc (.cells #[a] ta)).alloc (.cells #[b] tb)) ∧ ((w.alloc (.cells #[a] ta)).alloc (.cells #[b] tb)).heap.size = w.heap.size + 1 + 1 :=
  ⟨(cell_alloc _ _ 0 (by simp)).trans (World.cell?_alloc_new _ _ _ _), cell_new1 w _ _ _, ((Below.refl _ _).alloc (Nat.le_refl _) _).alloc (by simp) _, by simp⟩
set_option maxRecDepth 100000 in
set_option maxHeartbeats 2000000 in
theorem Append_gen {S : Nat → Prop} {w : World} {db : Nat} {s : St} (h : DiskAt S w db s) (hS : ∀ k, w.heap.size ≤ k → S k) (hm : Small s) (name x : ByteArray) (hn : name.size ≤ 281474976710656) (hx : x.size ≤ 9223372036854775807) (hbig : usedF s.fs + x.size ≤ s.room → usedF s.fs + x.size ≤ 140737488355328) :
    Calls Tryz.prog 26 #[ptrV db, .string name, .string x] w fun e w' => e = .returned (.int .i64 (appendS s (bs name) (bs x)).1) ∧ DiskAt S w' db (appendS s (bs name) (bs x)).2 ∧ Kept S w w' := by
  obtain ⟨own, mv, wv, mo, h⟩ := h
  have o1 := h.free (Nat.le_refl _)
  have o2 := h.free (k := w.heap.size + 1) (by omega)
  have o3 := h.free (k := w.heap.size + 1 + 1) (by omega)
  obtain ⟨p1, p2, p3, hb, hz⟩ := box3 w (ptrV db) (.string name) (.string x) 26 9 9
  have hd := h.below hb
  have hdoes := fun (hr : usedF s.fs + (bs x).length ≤ s.room) => append_does (mv := mv) (fun k hk => hS k (by omega)) hm name x hn (hbig (by rw [← bs_len]; exact hr)) hr _ _ _ o1 o2 o3 p1 p2 p3
  have hroom : fitE s x.size = 0 → usedF s.fs + (bs x).length ≤ s.room := fun h0 => by
    rw [fitE_append] at h0
    by_cases h : usedF s.fs + (bs x).length > s.room
    · rw [if_pos h] at h0; cases h0
    · omega
  have hc := change_any hd 49 46 46 #[ptrV w.heap.size, ptrV (w.heap.size + 1 + 1)] #[ptrV w.heap.size, ptrV (w.heap.size + 1), ptrV (w.heap.size + 1 + 1)] #[ptrV w.heap.size, ptrV (w.heap.size + 1), ptrV (w.heap.size + 1 + 1)]
    (fitE s x.size) (putF s.fs (bs name) (grown (getF s.fs (bs name)) (bs x))) (putF s.fs (bs name) (grown (getF s.fs (bs name)) (bs x))) (fn_append2 _) (fn_append1 _) (fn_append1 _)
    ((append2_any ⟨own, mv, wv, mo, hd⟩ x (by omega) _ _ p1 p3).mono (fun e w' hh => ⟨hh.1, by obtain ⟨q, rfl⟩ := hh.2; exact below_drewN (Below.refl _ _) q⟩))
    (fun _ h0 _ => hdoes (hroom h0)) (fun _ h0 _ => hdoes (hroom h0))
  have hR : changeS s (fitE s x.size) (putF s.fs (bs name) (grown (getF s.fs (bs name)) (bs x))) (putF s.fs (bs name) (grown (getF s.fs (bs name)) (bs x))) = appendS s (bs name) (bs x) := by rw [fitE_append]; rfl
  rw [hR] at hc
  generalize appendS s (bs name) (bs x) = R at *
  have HC := Lib.hid hc
  have HB := Lib.hid hb
  clear hR h hS hd hdoes hroom hc hb hz p1 p2 p3 o1 o2 o3
  go_enter Tryz.func26, Tryz.ntmps26
  go_wp2_with fail
  refine HC.out.mono ?_
  rintro e w4 ⟨rfl, hd4, hk4⟩
  have HD4 := Lib.hid hd4
  have HK4 := Lib.hid ((Kept.of_below HB.out).trans hk4)
  clear hd4 hk4 HC
  go_wp2
  go_ret
  exact ⟨rfl, HD4.out, HK4.out⟩
theorem Append_any {S : Nat → Prop} {w : World} {db : Nat} {s : St} (h : DiskAt S w db s) (hS : ∀ k, w.heap.size ≤ k → S k) (hm : Small s) (name x : ByteArray) (hn : name.size ≤ 281474976710656) (hx : x.size ≤ 1099511627776) (hu : usedF s.fs ≤ 1099511627776 := by decide) :
    Calls Tryz.prog 26 #[ptrV db, .string name, .string x] w fun e w' => e = .returned (.int .i64 (appendS s (bs name) (bs x)).1) ∧ DiskAt S w' db (appendS s (bs name) (bs x)).2 ∧ Kept S w w' :=
  Append_gen h hS hm name x hn (by omega) (fun _ => by omega)
set_option maxRecDepth 100000 in
set_option maxHeartbeats 2000000 in
theorem Cut_any {S : Nat → Prop} {w : World} {db : Nat} {s : St} (h : DiskAt S w db s) (hS : ∀ k, w.heap.size ≤ k → S k) (hm : Small s) (name : ByteArray) (n : Int) (hn : name.size ≤ 281474976710656) :
    Calls Tryz.prog 31 #[ptrV db, .string name, .int .i64 n] w fun e w' => e = .returned (.int .i64 (cutS s (bs name) n).1) ∧ DiskAt S w' db (cutS s (bs name) n).2 ∧ Kept S w w' := by
  obtain ⟨own, mv, wv, mo, h⟩ := h
  have o1 := h.free (Nat.le_refl _)
  have o2 := h.free (k := w.heap.size + 1) (by omega)
  have o3 := h.free (k := w.heap.size + 1 + 1) (by omega)
  obtain ⟨p1, p2, p3, hb, hz⟩ := box3 w (ptrV db) (.string name) (.int .i64 n) 26 9 3
  have hd := h.below hb
  have hdoes : cutE s (bs name) n = 0 → Does own S (((w.alloc (.cells #[ptrV db] 26)).alloc (.cells #[.string name] 9)).alloc (.cells #[.int .i64 n] 3)) db s mv 60 #[ptrV w.heap.size, ptrV (w.heap.size + 1), ptrV (w.heap.size + 1 + 1)] (putF s.fs (bs name) (cutF (getF s.fs (bs name)) n.toNat)) := by
    intro h0 w2 wv mo hd2 hb2 hs2
    have hcut : (look s.fs (bs name)).isSome = true ∧ 0 ≤ n ∧ n ≤ (getF s.fs (bs name)).b.length := by
      unfold cutE at h0
      by_cases h1 : (look s.fs (bs name)).isSome = true
      · rw [if_pos h1] at h0
        by_cases h2 : n < 0 ∨ n > (getF s.fs (bs name)).b.length
        · rw [if_pos h2] at h0; cases h0
        · exact ⟨h1, by omega, by omega⟩
      · rw [if_neg h1] at h0; cases h0
    obtain ⟨hc1, hc2, hc3⟩ := hcut
    have hnn : n = (n.toNat : Int) := by omega
    have p3' := p3
    rw [hnn] at p3'
    have hfit : Fit { brkS s with fs := putF (brkS s).fs (bs name) (cutF (getF (brkS s).fs (bs name)) n.toNat) } := by
      refine fit_fs hd2.fit rfl (by rw [bs_len]; omega) ?_ ?_ _ _ _ hd2.fit.moreI
      · have := hd2.fit.get (bs name)
        simp only [cutF, List.length_take]; omega
      · have := hd2.fit.room
        simp only [cutF, List.length_take]; omega
    have := cut2_any hd2 (fun k hk => hS k (by omega)) name n.toNat hn (by rw [brkS_fs]; omega) (by rw [brkS_fs]; exact hm.count) hfit w.heap.size (w.heap.size + 1) (w.heap.size + 1 + 1)
      ((cell_of 0 (hb2 _ o1 (by omega))).trans p1) ((cell_of 0 (hb2 _ o2 (by omega))).trans p2) (by rw [cell_of 0 (hb2 _ o3 (by omega)), p3, ← hnn])
    rw [brkS_fs] at this
    exact this
  have hc := change_any hd 59 60 61 #[ptrV w.heap.size, ptrV (w.heap.size + 1), ptrV (w.heap.size + 1 + 1)] #[ptrV w.heap.size, ptrV (w.heap.size + 1), ptrV (w.heap.size + 1 + 1)] #[]
    (cutE s (bs name) n) (putF s.fs (bs name) (cutF (getF s.fs (bs name)) n.toNat)) s.fs (fn_cut1 _) (fn_cut2 _) (fn_nothing _)
    (cut1_any hd name n hn _ _ _ p1 p2 p3) (fun _ h0 _ => hdoes h0) (fun _ _ _ => does_nothing)
  have hR : changeS s (cutE s (bs name) n) (putF s.fs (bs name) (cutF (getF s.fs (bs name)) n.toNat)) s.fs = cutS s (bs name) n := rfl
  rw [hR] at hc
  generalize cutS s (bs name) n = R at *
  have HC := Lib.hid hc
  have HB := Lib.hid hb
  clear hR h hS hd hdoes hc hb hz p1 p2 p3 o1 o2 o3
  go_enter Tryz.func31, Tryz.ntmps31
  go_wp2_with fail
  refine HC.out.mono ?_
  rintro e w4 ⟨rfl, hd4, hk4⟩
  have HD4 := Lib.hid hd4
  have HK4 := Lib.hid ((Kept.of_below HB.out).trans hk4)
  clear hd4 hk4 HC
  go_wp2
  go_ret
  exact ⟨rfl, HD4.out, HK4.out⟩
set_option maxRecDepth 100000 in
set_option maxHeartbeats 2000000 in
theorem Replace_any {S : Nat → Prop} {w : World} {db : Nat} {s : St} (h : DiskAt S w db s) (hS : ∀ k, w.heap.size ≤ k → S k) (hm : Small s) (name x : ByteArray) (hn : name.size ≤ 281474976710656) (hx : x.size ≤ 9223372036854775807) :
    Calls Tryz.prog 44 #[ptrV db, .string name, .string x] w fun e w' => e = .returned (.int .i64 (replaceS s (bs name) (bs x)).1) ∧ DiskAt S w' db (replaceS s (bs name) (bs x)).2 ∧ Kept S w w' := by
  obtain ⟨own, mv, wv, mo, h⟩ := h
  have o1 := h.free (Nat.le_refl _)
  have o2 := h.free (k := w.heap.size + 1) (by omega)
  have o3 := h.free (k := w.heap.size + 1 + 1) (by omega)
  obtain ⟨p1, p2, p3, hb, hz⟩ := box3 w (ptrV db) (.string name) (.string x) 26 9 9
  have hd := h.below hb
  have hE : fitE s ((x.size : Int) - ((getF s.fs (bs name)).b.length : Int)) = (if usedF s.fs + (bs x).length > s.room + (getF s.fs (bs name)).b.length then 40 else 0) := by
    unfold fitE
    rw [bs_len]
    by_cases h : usedF s.fs + x.size > s.room + (getF s.fs (bs name)).b.length
    · rw [if_pos h, if_pos (by omega)]
    · rw [if_neg h, if_neg (by omega)]
  have hdoes : fitE s ((x.size : Int) - ((getF s.fs (bs name)).b.length : Int)) = 0 → Does own S (((w.alloc (.cells #[ptrV db] 26)).alloc (.cells #[.string name] 9)).alloc (.cells #[.string x] 9)) db s mv 75 #[ptrV w.heap.size, ptrV (w.heap.size + 1), ptrV (w.heap.size + 1 + 1)] (putF s.fs (bs name) ⟨bs x, (bs x).length, true⟩) := by
    intro h0 w2 wv mo hd2 hb2 hs2
    have hr : usedF s.fs + (bs x).length ≤ s.room + (getF s.fs (bs name)).b.length := by
      rw [hE] at h0
      by_cases h : usedF s.fs + (bs x).length > s.room + (getF s.fs (bs name)).b.length
      · rw [if_pos h] at h0; cases h0
      · omega
    have hfit : Fit { brkS s with fs := putF (brkS s).fs (bs name) ⟨bs x, (bs x).length, true⟩ } :=
      fit_fs hd2.fit rfl (by rw [bs_len]; omega) (Nat.le_refl _) (by rw [brkS_fs, brkS_room]; exact hr) _ _ _ hd2.fit.moreI
    have := replace2_any hd2 (fun k hk => hS k (by omega)) name x hn hx (by rw [brkS_fs]; exact hm.count) hfit w.heap.size (w.heap.size + 1) (w.heap.size + 1 + 1)
      ((cell_of 0 (hb2 _ o1 (by omega))).trans p1) ((cell_of 0 (hb2 _ o2 (by omega))).trans p2) ((cell_of 0 (hb2 _ o3 (by omega))).trans p3)
    rw [brkS_fs] at this
    exact this
  have hc := change_any hd 74 75 61 #[ptrV w.heap.size, ptrV (w.heap.size + 1 + 1), ptrV (w.heap.size + 1)] #[ptrV w.heap.size, ptrV (w.heap.size + 1), ptrV (w.heap.size + 1 + 1)] #[]
    (fitE s ((x.size : Int) - ((getF s.fs (bs name)).b.length : Int))) (putF s.fs (bs name) ⟨bs x, (bs x).length, true⟩) s.fs (fn_replace1 _) (fn_replace2 _) (fn_nothing _)
    ((replace1_any hd name x hn (by omega) _ _ _ p1 p3 p2).mono (fun e w' hh => ⟨hh.1, by obtain ⟨q, rfl⟩ := hh.2; exact below_drewN (Below.refl _ _) q⟩)) (fun _ h0 _ => hdoes h0) (fun _ _ _ => does_nothing)
  have hR : changeS s (fitE s ((x.size : Int) - ((getF s.fs (bs name)).b.length : Int))) (putF s.fs (bs name) ⟨bs x, (bs x).length, true⟩) s.fs = replaceS s (bs name) (bs x) := by rw [hE]; rfl
  rw [hR] at hc
  generalize replaceS s (bs name) (bs x) = R at *
  have HC := Lib.hid hc
  have HB := Lib.hid hb
  clear hR h hS hd hdoes hc hb hz p1 p2 p3 o1 o2 o3 hE
  go_enter Tryz.func44, Tryz.ntmps44
  go_wp2_with fail
  refine HC.out.mono ?_
  rintro e w4 ⟨rfl, hd4, hk4⟩
  have HD4 := Lib.hid hd4
  have HK4 := Lib.hid ((Kept.of_below HB.out).trans hk4)
  clear hd4 hk4 HC
  go_wp2
  go_ret
  exact ⟨rfl, HD4.out, HK4.out⟩
end Go.Proofs.YtnffjoflkeagfaaGreat
namespace Go.Proofs.YtnffjoflkeagfaaGreat
open Go.RowKit Go.Maps

theorem needs_any (db : Nat) (name : ByteArray) (w : World) :
    Calls Tryz.prog 68 #[ptrV db, .string name] w fun e w' => e = .returned (.func (.func 85) #[] #[ptrV w.heap.size, ptrV (w.heap.size + 1)]) ∧ w'.cell? ⟨w.heap.size, 0, none⟩ = some (ptrV db) ∧ w'.cell? ⟨w.heap.size + 1, 0, none⟩ = some (.string name) ∧ Below w.heap.size w w' := by
  obtain ⟨p1, p2, hb, hz⟩ := box2 w (ptrV db) (.string name) 26 9
  have P1 := Lib.hid p1
  have P2 := Lib.hid p2
  have HB := Lib.hid hb
  clear p1 p2 hb hz
  go_enter Tryz.func68, Tryz.ntmps68
  go_wp2
  go_ret
  exact ⟨rfl, P1.out, P2.out, HB.out⟩
theorem sync_change {own : Nat → Own} {S : Nat → Prop} {w : World} {db : Nat} {s : St} {mv : Value} {wv : Bool} {mo : Int} (h0 : DiskO own S w db s mv wv mo) (hS0 : ∀ k, w.heap.size ≤ k → S k) (hm : Small s) (name : ByteArray) (hn : name.size ≤ 281474976710656)
    (b1 b2 g1 g2 : Nat) (o1 : own b1 = .no) (o2 : own b2 = .no) (k1 : w.cell? ⟨b1, 0, none⟩ = some (ptrV db)) (k2 : w.cell? ⟨b2, 0, none⟩ = some (.string name)) (q1 : w.cell? ⟨g1, 0, none⟩ = some (ptrV db)) (q2 : w.cell? ⟨g2, 0, none⟩ = some (.string name)) :
    Calls Tryz.prog 48 #[ptrV db, .func (.func 85) #[] #[ptrV g1, ptrV g2], .func (.func 69) #[] #[ptrV b1, ptrV b2], .func (.func 61) #[] #[]] w fun e w' =>
      e = .returned (.int .i64 (syncS s (bs name)).1) ∧ DiskAt S w' db (syncS s (bs name)).2 ∧ Kept S w w' ∧ w'.cell? ⟨b1, 0, none⟩ = some (ptrV db) ∧ w'.cell? ⟨b2, 0, none⟩ = some (.string name) := by
  have l1 := World.block_lt_of_cell? w _ k1
  have l2 := World.block_lt_of_cell? w _ k2
  simp only at l1 l2
  have h : DiskO own (fun k => own k ≠ .no ∨ w.heap.size ≤ k) w db s mv wv mo := ⟨fun k hk => ⟨.inl hk, (h0.mine k hk).2⟩, h0.disk, h0.block, h0.brk, h0.map, h0.fit⟩
  have hS : ∀ k, w.heap.size ≤ k → (fun k => own k ≠ .no ∨ w.heap.size ≤ k) k := fun k hk => .inr hk
  have hSS : ∀ k, (fun k => own k ≠ .no ∨ w.heap.size ≤ k) k → S k := fun k hk => hk.elim (fun h => (h0.mine k h).1) (hS0 k)
  have main : Calls Tryz.prog 48 #[ptrV db, .func (.func 85) #[] #[ptrV g1, ptrV g2], .func (.func 69) #[] #[ptrV b1, ptrV b2], .func (.func 61) #[] #[]] w fun e w' =>
      e = .returned (.int .i64 (syncS s (bs name)).1) ∧ DiskAt (fun k => own k ≠ .no ∨ w.heap.size ≤ k) w' db (syncS s (bs name)).2 ∧ Kept (fun k => own k ≠ .no ∨ w.heap.size ≤ k) w w' := by
    refine change_any h 85 69 61 _ _ _ (needE s (bs name)) (putF s.fs (bs name) (syncedF (getF s.fs (bs name)))) s.fs (fn_needs1 _) (fn_sync1 _) (fn_nothing _)
      (needs1_any ⟨own, mv, wv, mo, h⟩ _ _ name (by omega) q1 q2) (fun _ h0 _ => ?_) (fun _ _ _ => does_nothing)
    intro w2 wv' mo' hd2 hb2 hs2
    have hfit : Fit { brkS s with fs := putF (brkS s).fs (bs name) (syncedF (getF (brkS s).fs (bs name))) } := by
      refine fit_fs hd2.fit rfl (by rw [bs_len]; omega) (Nat.le_refl _) ?_ _ _ _ hd2.fit.moreI
      have := hd2.fit.room
      simp only [syncedF]; omega
    have := sync1_any hd2 (fun k hk => .inr (by omega)) name hn (by rw [brkS_fs]; exact hm.count) hfit b1 b2 ((cell_of 0 (hb2 _ o1 l1)).trans k1) ((cell_of 0 (hb2 _ o2 l2)).trans k2)
    rw [brkS_fs] at this
    exact this
  refine main.mono ?_
  rintro e w' ⟨rfl, hd', hk'⟩
  have n1 : ¬ (own b1 ≠ .no ∨ w.heap.size ≤ b1) := fun hh => hh.elim (fun h => h o1) (fun h => by omega)
  have n2 : ¬ (own b2 ≠ .no ∨ w.heap.size ≤ b2) := fun hh => hh.elim (fun h => h o2) (fun h => by omega)
  exact ⟨rfl, hd'.mono (fun k _ hk => hSS k hk), hk'.mono (fun k _ hk => hSS k hk), (cell_of 0 (hk'.block b1 l1 n1)).trans k1, (cell_of 0 (hk'.block b2 l2 n2)).trans k2⟩
set_option maxRecDepth 100000 in
set_option maxHeartbeats 2000000 in
theorem Sync_any {S : Nat → Prop} {w : World} {db : Nat} {s : St} (h : DiskAt S w db s) (hS : ∀ k, w.heap.size ≤ k → S k) (hm : Small s) (name : ByteArray) (hn : name.size ≤ 281474976710656) :
    Calls Tryz.prog 35 #[ptrV db, .string name] w fun e w' => e = .returned (.int .i64 (syncS s (bs name)).1) ∧ DiskAt S w' db (syncS s (bs name)).2 ∧ Kept S w w' := by
  obtain ⟨own, mv, wv, mo, h⟩ := h
  have o1 := h.free (Nat.le_refl _)
  have o2 := h.free (k := w.heap.size + 1) (by omega)
  obtain ⟨p1, p2, hb, hz⟩ := box2 w (ptrV db) (.string name) 26 9
  have hd := h.below hb
  have hch : ∀ w4, Below (w.heap.size + 1 + 1) ((w.alloc (.cells #[ptrV db] 26)).alloc (.cells #[.string name] 9)).drew w4 → w4.cell? ⟨w.heap.size + 1 + 1, 0, none⟩ = some (ptrV db) → w4.cell? ⟨w.heap.size + 1 + 1 + 1, 0, none⟩ = some (.string name) →
      Calls Tryz.prog 48 #[ptrV db, .func (.func 85) #[] #[ptrV (w.heap.size + 1 + 1), ptrV (w.heap.size + 1 + 1 + 1)], .func (.func 69) #[] #[ptrV w.heap.size, ptrV (w.heap.size + 1)], .func (.func 61) #[] #[]] w4 fun e w' =>
        e = .returned (.int .i64 (syncS s (bs name)).1) ∧ DiskAt S w' db (syncS s (bs name)).2 ∧ Kept S w w' ∧ w'.cell? ⟨w.heap.size, 0, none⟩ = some (ptrV db) ∧ w'.cell? ⟨w.heap.size + 1, 0, none⟩ = some (.string name) := by
    intro w4 hb4 q1 q2
    have hb0 : Below (w.heap.size + 1 + 1) ((w.alloc (.cells #[ptrV db] 26)).alloc (.cells #[.string name] 9)) w4 := ⟨hb4.os, hb4.tape, hb4.output, hb4.size, hb4.block⟩
    have hb5 : Below w.heap.size w w4 := hb.trans (hb0.mono (by omega))
    refine (sync_change (h.below hb5) (fun k hk => hS k (by have := hb5.size; omega)) hm name hn _ _ _ _ o1 o2 ((hb0.cell (p := ⟨w.heap.size, 0, none⟩) (by simp; omega)).trans p1) ((hb0.cell (p := ⟨w.heap.size + 1, 0, none⟩) (by simp)).trans p2) q1 q2).mono ?_
    rintro e w' ⟨rfl, hd', hk', hc'⟩
    exact ⟨rfl, hd', (Kept.of_below hb5).trans hk', hc'⟩
  have HCH := Lib.hid hch
  generalize syncS s (bs name) = R at *
  have hnd := fun w' => needs_any db name w'
  have hzz : ((w.alloc (.cells #[ptrV db] 26)).alloc (.cells #[.string name] 9)).drew.heap.size = w.heap.size + 1 + 1 := hz
  have HZ2 := Lib.hid hzz
  have P1 := Lib.hid p1
  have P2 := Lib.hid p2
  clear h hd hb hz hS hch o1 o2 hzz
  go_enter Tryz.func35, Tryz.ntmps35
  go_wp2
  go_region_held3 (fun w' => w'.cell? ⟨w.heap.size, 0, none⟩ = some (ptrV db) ∧ w'.cell? ⟨w.heap.size + 1, 0, none⟩ = some (.string name))
    (first
      | exact ⟨p1, p2⟩
      | exact HM5.out
      | exact HM4.out)
    (first
      | (go_at_call 68; refine (hnd _).mono ?_; rintro e w4 ⟨rfl, q1, q2, hb4⟩; rw [HZ2.out] at q1 q2 hb4 ⊢; have m1 : w4.cell? ⟨w.heap.size, 0, none⟩ = some (ptrV db) := (hb4.cell (p := ⟨w.heap.size, 0, none⟩) (by simp; omega)).trans P1.out; have m2 : w4.cell? ⟨w.heap.size + 1, 0, none⟩ = some (.string name) := (hb4.cell (p := ⟨w.heap.size + 1, 0, none⟩) (by simp)).trans P2.out; have HM4 := Lib.hid (And.intro m1 m2); have HH := Lib.hid (HCH.out w4 hb4 q1 q2); clear q1 q2 hb4 hnd)
      | (go_at_call 48; refine HH.out.mono ?_; rintro e w5 ⟨rfl, hd5, hk5, hm5⟩; have HD5 := Lib.hid hd5; have HK5 := Lib.hid hk5; have HM5 := Lib.hid hm5; clear hd5 hk5 hm5))
  all_goals
    go_wp2
    go_ret
    exact ⟨rfl, HD5.out, HK5.out⟩
end Go.Proofs.YtnffjoflkeagfaaGreat
