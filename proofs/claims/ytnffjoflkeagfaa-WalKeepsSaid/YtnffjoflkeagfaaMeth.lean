/- Append, Sync, Cut, Replace, Remove. -/
import Derived.Test.YtnffjoflkeagfaaChange
namespace Go.Proofs.Ytnffjoflkeagfaa
open Go.RowKit Go.Maps

theorem fn_append1 (args : Array Value) (w : World) : (callFunc 60 args).run Try.prog w = .ok (.enter 60 args) w := enter_val Try.func60 (by kernel_rfl) rfl args w
theorem fn_append2 (args : Array Value) (w : World) : (callFunc 61 args).run Try.prog w = .ok (.enter 61 args) w := enter_val Try.func61 (by kernel_rfl) rfl args w
theorem fn_needs1 (args : Array Value) (w : World) : (callFunc 85 args).run Try.prog w = .ok (.enter 85 args) w := enter_val Try.func85 (by kernel_rfl) rfl args w
theorem fn_sync1 (args : Array Value) (w : World) : (callFunc 64 args).run Try.prog w = .ok (.enter 64 args) w := enter_val Try.func64 (by kernel_rfl) rfl args w
theorem fn_cut1 (args : Array Value) (w : World) : (callFunc 55 args).run Try.prog w = .ok (.enter 55 args) w := enter_val Try.func55 (by kernel_rfl) rfl args w
theorem fn_cut2 (args : Array Value) (w : World) : (callFunc 57 args).run Try.prog w = .ok (.enter 57 args) w := enter_val Try.func57 (by kernel_rfl) rfl args w
theorem fn_replace1 (args : Array Value) (w : World) : (callFunc 68 args).run Try.prog w = .ok (.enter 68 args) w := enter_val Try.func68 (by kernel_rfl) rfl args w
theorem fn_replace2 (args : Array Value) (w : World) : (callFunc 69 args).run Try.prog w = .ok (.enter 69 args) w := enter_val Try.func69 (by kernel_rfl) rfl args w
theorem fn_remove1 (args : Array Value) (w : World) : (callFunc 71 args).run Try.prog w = .ok (.enter 71 args) w := enter_val Try.func71 (by kernel_rfl) rfl args w
theorem fn_nothing (args : Array Value) (w : World) : (callFunc 59 args).run Try.prog w = .ok (.enter 59 args) w := enter_val Try.func59 (by kernel_rfl) rfl args w

/-- nothing comes of a change that is cut off -/
theorem does_nothing {own : Nat → Own} {S : Nat → Prop} {w : World} {db : Nat} {s : St} {mv : Value} : Does own S w db s mv 59 #[] s.fs := by
  intro w2 wv mo hd _ _
  refine (nothing_any w2).mono ?_
  rintro e w' ⟨rfl, rfl⟩
  refine ⟨rfl, ?_, Kept.refl _ _⟩
  have e : ({ brkS s with fs := s.fs } : St) = brkS s := by rw [← brkS_fs s]
  rw [e]
  exact ⟨own, mv, wv, mo, hd⟩
/-- what a disk can be asked, without asking too much -/
structure Small (s : St) : Prop where
  count : s.fs.length ≤ 1099511627776
  bytes : usedF s.fs ≤ 140737488355328
theorem fitE_append (s : St) (x : ByteArray) : fitE s x.size = (if usedF s.fs + (bs x).length > s.room then 40 else 0) := by
  unfold fitE
  rw [bs_len]
  by_cases h : usedF s.fs + x.size > s.room
  · rw [if_pos h, if_pos (by omega)]
  · rw [if_neg h, if_neg (by omega)]
theorem fit_append {s : St} (h : Fit s) (k b : List UInt8) (hk : k.length ≤ 9223372036854775807) (hr : usedF s.fs + b.length ≤ s.room) : Fit { s with fs := putF s.fs k (grown (getF s.fs k) b) } := by
  refine fit_fs h rfl hk ?_ ?_ _ _ _ h.moreI
  · have := h.get k
    simp only [grown, List.length_append]; omega
  · simp only [grown, List.length_append]; omega
theorem append_does {own : Nat → Own} {S : Nat → Prop} {w : World} {db : Nat} {s : St} {mv : Value} (hS : ∀ k, w.heap.size ≤ k → S k) (hm : Small s) (name x : ByteArray) (hn : name.size ≤ 281474976710656) (hx : usedF s.fs + x.size ≤ 140737488355328)
    (hr : usedF s.fs + (bs x).length ≤ s.room) (b1 b2 b3 : Nat) (o1 : own b1 = .no) (o2 : own b2 = .no) (o3 : own b3 = .no)
    (k1 : w.cell? ⟨b1, 0, none⟩ = some (ptrV db)) (k2 : w.cell? ⟨b2, 0, none⟩ = some (.string name)) (k3 : w.cell? ⟨b3, 0, none⟩ = some (.string x)) :
    Does own S w db s mv 60 #[ptrV b1, ptrV b2, ptrV b3] (putF s.fs (bs name) (grown (getF s.fs (bs name)) (bs x))) := by
  intro w2 wv mo hd hb hs
  have l1 := World.block_lt_of_cell? w _ k1
  have l2 := World.block_lt_of_cell? w _ k2
  have l3 := World.block_lt_of_cell? w _ k3
  have hg := get_le s.fs (bs name)
  have := append1_any hd (fun k hk => hS k (by omega)) name x hn (by rw [brkS_fs]; omega) (by rw [brkS_fs]; exact hm.count)
    (fit_append hd.fit (bs name) (bs x) (by rw [bs_len]; omega) (by rw [brkS_fs, brkS_room]; exact hr)) b1 b2 b3 o1 o2
    ((cell_of 0 (hb b1 o1 l1)).trans k1) ((cell_of 0 (hb b2 o2 l2)).trans k2) ((cell_of 0 (hb b3 o3 l3)).trans k3)
  rw [brkS_fs] at this
  exact this
theorem cell_new1 (w : World) (o : Obj) (b : Value) (tb : TypeId) : ((w.alloc o).alloc (.cells #[b] tb)).cell? ⟨w.heap.size + 1, 0, none⟩ = some b := by
  have h := World.cell?_alloc_new (w.alloc o) #[b] tb 0
  rw [show (w.alloc o).heap.size = w.heap.size + 1 by simp] at h
  exact h
theorem cell_new2 (w : World) (o o' : Obj) (b : Value) (tb : TypeId) : (((w.alloc o).alloc o').alloc (.cells #[b] tb)).cell? ⟨w.heap.size + 1 + 1, 0, none⟩ = some b := by
  have h := World.cell?_alloc_new ((w.alloc o).alloc o') #[b] tb 0
  rw [show ((w.alloc o).alloc o').heap.size = w.heap.size + 1 + 1 by simp] at h
  exact h
theorem box3 (w : World) (a b c : Value) (ta tb tc : TypeId) :
    (((w.alloc (.cells #[a] ta)).alloc (.cells #[b] tb)).alloc (.cells #[c] tc)).cell? ⟨w.heap.size, 0, none⟩ = some a ∧ (((w.alloc (.cells #[a] ta)).alloc (.cells #[b] tb)).alloc (.cells #[c] tc)).cell? ⟨w.heap.size + 1, 0, none⟩ = some b ∧
    (((w.alloc (.cells #[a] ta)).alloc (.cells #[b] tb)).alloc (.cells #[c] tc)).cell? ⟨w.heap.size + 1 + 1, 0, none⟩ = some c ∧ Below w.heap.size w (((w.alloc (.cells #[a] ta)).alloc (.cells #[b] tb)).alloc (.cells #[c] tc)) ∧
    (((w.alloc (.cells #[a] ta)).alloc (.cells #[b] tb)).alloc (.cells #[c] tc)).heap.size = w.heap.size + 1 + 1 + 1 := by
  refine ⟨(cell_alloc _ _ 0 (by simp; omega)).trans ((cell_alloc _ _ 0 (by simp)).trans (World.cell?_alloc_new _ _ _ _)), (cell_alloc _ _ 0 (by simp)).trans (cell_new1 w _ _ _), cell_new2 w _ _ _ _, (((Below.refl _ _).alloc (Nat.le_refl _) _).alloc (by simp) _).alloc (by simp; omega) _, by simp⟩
theorem box2 (w : World) (a b : Value) (ta tb : TypeId) :
    ((w.alloc (.cells #[a] ta)).alloc (.cells #[b] tb)).cell? ⟨w.heap.size, 0, none⟩ = some a ∧ ((w.alloc (.cells #[a] ta)).alloc (.cells #[b] tb)).cell? ⟨w.heap.size + 1, 0, none⟩ = some b ∧
    Below w.heap.size w ((w.alloc (.cells #[a] ta)).alloc (.cells #[b] tb)) ∧ ((w.alloc (.cells #[a] ta)).alloc (.cells #[b] tb)).heap.size = w.heap.size + 1 + 1 :=
  ⟨(cell_alloc _ _ 0 (by simp)).trans (World.cell?_alloc_new _ _ _ _), cell_new1 w _ _ _, ((Below.refl _ _).alloc (Nat.le_refl _) _).alloc (by simp) _, by simp⟩
set_option maxRecDepth 100000 in
set_option maxHeartbeats 2000000 in
theorem Append_gen {S : Nat → Prop} {w : World} {db : Nat} {s : St} (h : DiskAt S w db s) (hS : ∀ k, w.heap.size ≤ k → S k) (hm : Small s) (name x : ByteArray) (hn : name.size ≤ 281474976710656) (hx : x.size ≤ 9223372036854775807) (hbig : usedF s.fs + x.size ≤ s.room → usedF s.fs + x.size ≤ 140737488355328) :
    Calls Try.prog 31 #[ptrV db, .string name, .string x] w fun e w' => e = .returned (.int .i64 (appendS s (bs name) (bs x)).1) ∧ DiskAt S w' db (appendS s (bs name) (bs x)).2 ∧ Kept S w w' := by
  obtain ⟨own, mv, wv, mo, h⟩ := h
  have o1 := h.free (Nat.le_refl _)
  have o2 := h.free (k := w.heap.size + 1) (by omega)
  have o3 := h.free (k := w.heap.size + 1 + 1) (by omega)
  obtain ⟨p1, p2, p3, hb, hz⟩ := box3 w (ptrV db) (.string name) (.string x) 25 9 9
  have hd := h.below hb
  have hdoes := fun (hr : usedF s.fs + (bs x).length ≤ s.room) => append_does (mv := mv) (fun k hk => hS k (by omega)) hm name x hn (hbig (by rw [← bs_len]; exact hr)) hr _ _ _ o1 o2 o3 p1 p2 p3
  have hroom : fitE s x.size = 0 → usedF s.fs + (bs x).length ≤ s.room := fun h0 => by
    rw [fitE_append] at h0
    by_cases h : usedF s.fs + (bs x).length > s.room
    · rw [if_pos h] at h0; cases h0
    · omega
  have hc := change_any hd 61 60 60 #[ptrV w.heap.size, ptrV (w.heap.size + 1 + 1)] #[ptrV w.heap.size, ptrV (w.heap.size + 1), ptrV (w.heap.size + 1 + 1)] #[ptrV w.heap.size, ptrV (w.heap.size + 1), ptrV (w.heap.size + 1 + 1)]
    (fitE s x.size) (putF s.fs (bs name) (grown (getF s.fs (bs name)) (bs x))) (putF s.fs (bs name) (grown (getF s.fs (bs name)) (bs x))) (fn_append2 _) (fn_append1 _) (fn_append1 _)
    ((append2_any ⟨own, mv, wv, mo, hd⟩ x (by omega) _ _ p1 p3).mono (fun e w' hh => ⟨hh.1, by obtain ⟨q, rfl⟩ := hh.2; exact below_drewN (Below.refl _ _) q⟩))
    (fun _ h0 _ => hdoes (hroom h0)) (fun _ h0 _ => hdoes (hroom h0))
  have hR : changeS s (fitE s x.size) (putF s.fs (bs name) (grown (getF s.fs (bs name)) (bs x))) (putF s.fs (bs name) (grown (getF s.fs (bs name)) (bs x))) = appendS s (bs name) (bs x) := by rw [fitE_append]; rfl
  rw [hR] at hc
  generalize appendS s (bs name) (bs x) = R at *
  have HC := Lib.hid hc
  have HB := Lib.hid hb
  clear hR h hS hd hdoes hroom hc hb hz p1 p2 p3 o1 o2 o3
  go_enter Try.func31, Try.ntmps31
  go_wp2_with fail
  refine HC.out.mono ?_
  rintro e w4 ⟨rfl, hd4, hk4⟩
  have HD4 := Lib.hid hd4
  have HK4 := Lib.hid ((Kept.of_below HB.out).trans hk4)
  clear hd4 hk4 HC
  go_wp2
  go_ret
  exact ⟨rfl, HD4.out, HK4.out⟩
theorem Append_any {S : Nat → Prop} {w : World} {db : Nat} {s : St} (h : DiskAt S w db s) (hS : ∀ k, w.heap.size ≤ k → S k) (hm : Small s) (name x : ByteArray) (hn : name.size ≤ 281474976710656) (hx : x.size ≤ 1099511627776) (hu : usedF s.fs ≤ 1099511627776 := by decide) :
    Calls Try.prog 31 #[ptrV db, .string name, .string x] w fun e w' => e = .returned (.int .i64 (appendS s (bs name) (bs x)).1) ∧ DiskAt S w' db (appendS s (bs name) (bs x)).2 ∧ Kept S w w' :=
  Append_gen h hS hm name x hn (by omega) (fun _ => by omega)
set_option maxRecDepth 100000 in
set_option maxHeartbeats 2000000 in
theorem Cut_any {S : Nat → Prop} {w : World} {db : Nat} {s : St} (h : DiskAt S w db s) (hS : ∀ k, w.heap.size ≤ k → S k) (hm : Small s) (name : ByteArray) (n : Int) (hn : name.size ≤ 281474976710656) :
    Calls Try.prog 30 #[ptrV db, .string name, .int .i64 n] w fun e w' => e = .returned (.int .i64 (cutS s (bs name) n).1) ∧ DiskAt S w' db (cutS s (bs name) n).2 ∧ Kept S w w' := by
  obtain ⟨own, mv, wv, mo, h⟩ := h
  have o1 := h.free (Nat.le_refl _)
  have o2 := h.free (k := w.heap.size + 1) (by omega)
  have o3 := h.free (k := w.heap.size + 1 + 1) (by omega)
  obtain ⟨p1, p2, p3, hb, hz⟩ := box3 w (ptrV db) (.string name) (.int .i64 n) 25 9 3
  have hd := h.below hb
  have hdoes : cutE s (bs name) n = 0 → Does own S (((w.alloc (.cells #[ptrV db] 25)).alloc (.cells #[.string name] 9)).alloc (.cells #[.int .i64 n] 3)) db s mv 57 #[ptrV w.heap.size, ptrV (w.heap.size + 1), ptrV (w.heap.size + 1 + 1)] (putF s.fs (bs name) (cutF (getF s.fs (bs name)) n.toNat)) := by
    intro h0 w2 wv mo hd2 hb2 hs2
    have hcut : (look s.fs (bs name)).isSome = true ∧ 0 ≤ n ∧ n ≤ (getF s.fs (bs name)).b.length := by
      unfold cutE at h0
      by_cases h1 : (look s.fs (bs name)).isSome = true
      · rw [if_pos h1] at h0
        by_cases h2 : n < 0 ∨ n > (getF s.fs (bs name)).b.length
        · rw [if_pos h2] at h0; cases h0
        · exact ⟨h1, by omega, by omega⟩
      · rw [if_neg h1] at h0; cases h0
    obtain ⟨hc1, hc2, hc3⟩ := hcut
    have hnn : n = (n.toNat : Int) := by omega
    have p3' := p3
    rw [hnn] at p3'
    have hfit : Fit { brkS s with fs := putF (brkS s).fs (bs name) (cutF (getF (brkS s).fs (bs name)) n.toNat) } := by
      refine fit_fs hd2.fit rfl (by rw [bs_len]; omega) ?_ ?_ _ _ _ hd2.fit.moreI
      · have := hd2.fit.get (bs name)
        simp only [cutF, List.length_take]; omega
      · have := hd2.fit.room
        simp only [cutF, List.length_take]; omega
    have := cut2_any hd2 (fun k hk => hS k (by omega)) name n.toNat hn (by rw [brkS_fs]; omega) (by rw [brkS_fs]; exact hm.count) hfit w.heap.size (w.heap.size + 1) (w.heap.size + 1 + 1)
      ((cell_of 0 (hb2 _ o1 (by omega))).trans p1) ((cell_of 0 (hb2 _ o2 (by omega))).trans p2) (by rw [cell_of 0 (hb2 _ o3 (by omega)), p3, ← hnn])
    rw [brkS_fs] at this
    exact this
  have hc := change_any hd 55 57 59 #[ptrV w.heap.size, ptrV (w.heap.size + 1), ptrV (w.heap.size + 1 + 1)] #[ptrV w.heap.size, ptrV (w.heap.size + 1), ptrV (w.heap.size + 1 + 1)] #[]
    (cutE s (bs name) n) (putF s.fs (bs name) (cutF (getF s.fs (bs name)) n.toNat)) s.fs (fn_cut1 _) (fn_cut2 _) (fn_nothing _)
    (cut1_any hd name n hn _ _ _ p1 p2 p3) (fun _ h0 _ => hdoes h0) (fun _ _ _ => does_nothing)
  have hR : changeS s (cutE s (bs name) n) (putF s.fs (bs name) (cutF (getF s.fs (bs name)) n.toNat)) s.fs = cutS s (bs name) n := rfl
  rw [hR] at hc
  generalize cutS s (bs name) n = R at *
  have HC := Lib.hid hc
  have HB := Lib.hid hb
  clear hR h hS hd hdoes hc hb hz p1 p2 p3 o1 o2 o3
  go_enter Try.func30, Try.ntmps30
  go_wp2_with fail
  refine HC.out.mono ?_
  rintro e w4 ⟨rfl, hd4, hk4⟩
  have HD4 := Lib.hid hd4
  have HK4 := Lib.hid ((Kept.of_below HB.out).trans hk4)
  clear hd4 hk4 HC
  go_wp2
  go_ret
  exact ⟨rfl, HD4.out, HK4.out⟩
set_option maxRecDepth 100000 in
set_option maxHeartbeats 2000000 in
theorem Replace_any {S : Nat → Prop} {w : World} {db : Nat} {s : St} (h : DiskAt S w db s) (hS : ∀ k, w.heap.size ≤ k → S k) (hm : Small s) (name x : ByteArray) (hn : name.size ≤ 281474976710656) (hx : x.size ≤ 9223372036854775807) :
    Calls Try.prog 37 #[ptrV db, .string name, .string x] w fun e w' => e = .returned (.int .i64 (replaceS s (bs name) (bs x)).1) ∧ DiskAt S w' db (replaceS s (bs name) (bs x)).2 ∧ Kept S w w' := by
  obtain ⟨own, mv, wv, mo, h⟩ := h
  have o1 := h.free (Nat.le_refl _)
  have o2 := h.free (k := w.heap.size + 1) (by omega)
  have o3 := h.free (k := w.heap.size + 1 + 1) (by omega)
  obtain ⟨p1, p2, p3, hb, hz⟩ := box3 w (ptrV db) (.string name) (.string x) 25 9 9
  have hd := h.below hb
  have hE : fitE s ((x.size : Int) - ((getF s.fs (bs name)).b.length : Int)) = (if usedF s.fs + (bs x).length > s.room + (getF s.fs (bs name)).b.length then 40 else 0) := by
    unfold fitE
    rw [bs_len]
    by_cases h : usedF s.fs + x.size > s.room + (getF s.fs (bs name)).b.length
    · rw [if_pos h, if_pos (by omega)]
    · rw [if_neg h, if_neg (by omega)]
  have hdoes : fitE s ((x.size : Int) - ((getF s.fs (bs name)).b.length : Int)) = 0 → Does own S (((w.alloc (.cells #[ptrV db] 25)).alloc (.cells #[.string name] 9)).alloc (.cells #[.string x] 9)) db s mv 69 #[ptrV w.heap.size, ptrV (w.heap.size + 1), ptrV (w.heap.size + 1 + 1)] (putF s.fs (bs name) ⟨bs x, (bs x).length, true⟩) := by
    intro h0 w2 wv mo hd2 hb2 hs2
    have hr : usedF s.fs + (bs x).length ≤ s.room + (getF s.fs (bs name)).b.length := by
      rw [hE] at h0
      by_cases h : usedF s.fs + (bs x).length > s.room + (getF s.fs (bs name)).b.length
      · rw [if_pos h] at h0; cases h0
      · omega
    have hfit : Fit { brkS s with fs := putF (brkS s).fs (bs name) ⟨bs x, (bs x).length, true⟩ } :=
      fit_fs hd2.fit rfl (by rw [bs_len]; omega) (Nat.le_refl _) (by rw [brkS_fs, brkS_room]; exact hr) _ _ _ hd2.fit.moreI
    have := replace2_any hd2 (fun k hk => hS k (by omega)) name x hn hx (by rw [brkS_fs]; exact hm.count) hfit w.heap.size (w.heap.size + 1) (w.heap.size + 1 + 1)
      ((cell_of 0 (hb2 _ o1 (by omega))).trans p1) ((cell_of 0 (hb2 _ o2 (by omega))).trans p2) ((cell_of 0 (hb2 _ o3 (by omega))).trans p3)
    rw [brkS_fs] at this
    exact this
  have hc := change_any hd 68 69 59 #[ptrV w.heap.size, ptrV (w.heap.size + 1 + 1), ptrV (w.heap.size + 1)] #[ptrV w.heap.size, ptrV (w.heap.size + 1), ptrV (w.heap.size + 1 + 1)] #[]
    (fitE s ((x.size : Int) - ((getF s.fs (bs name)).b.length : Int))) (putF s.fs (bs name) ⟨bs x, (bs x).length, true⟩) s.fs (fn_replace1 _) (fn_replace2 _) (fn_nothing _)
    ((replace1_any hd name x hn (by omega) _ _ _ p1 p3 p2).mono (fun e w' hh => ⟨hh.1, by obtain ⟨q, rfl⟩ := hh.2; exact below_drewN (Below.refl _ _) q⟩)) (fun _ h0 _ => hdoes h0) (fun _ _ _ => does_nothing)
  have hR : changeS s (fitE s ((x.size : Int) - ((getF s.fs (bs name)).b.length : Int))) (putF s.fs (bs name) ⟨bs x, (bs x).length, true⟩) s.fs = replaceS s (bs name) (bs x) := by rw [hE]; rfl
  rw [hR] at hc
  generalize replaceS s (bs name) (bs x) = R at *
  have HC := Lib.hid hc
  have HB := Lib.hid hb
  clear hR h hS hd hdoes hc hb hz p1 p2 p3 o1 o2 o3 hE
  go_enter Try.func37, Try.ntmps37
  go_wp2_with fail
  refine HC.out.mono ?_
  rintro e w4 ⟨rfl, hd4, hk4⟩
  have HD4 := Lib.hid hd4
  have HK4 := Lib.hid ((Kept.of_below HB.out).trans hk4)
  clear hd4 hk4 HC
  go_wp2
  go_ret
  exact ⟨rfl, HD4.out, HK4.out⟩
end Go.Proofs.Ytnffjoflkeagfaa
