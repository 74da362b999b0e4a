/- What a sync, a cut, a replacement and a removal do, and what they need. A change: what it needs, what it does, when the power goes. -/
import Derived.Test.YtnffjoflkeagfaaGreatD2
import Derived.StillTailTactics
import Derived.Deep.RegionWith
namespace Go.Proofs.YtnffjoflkeagfaaGreat
open Go.RowKit Go.Maps

set_option maxRecDepth 100000 in
set_option maxHeartbeats 2000000 in
theorem sync1_any {own : Nat → Own} {S : Nat → Prop} {w : World} {db : Nat} {s : St} {mv : Value} {wv : Bool} {mo : Int} (h : DiskO own S w db s mv wv mo) (hS : ∀ k, w.heap.size ≤ k → S k) (name : ByteArray) (hn : name.size ≤ 281474976710656)
    (hc : s.fs.length ≤ 1099511627776) (hfit : Fit { s with fs := putF s.fs (bs name) (syncedF (getF s.fs (bs name))) })
    (b1 b2 : Nat) (k1 : w.cell? ⟨b1, 0, none⟩ = some (ptrV db)) (k2 : w.cell? ⟨b2, 0, none⟩ = some (.string name)) :
    Calls Tryz.prog 69 #[ptrV b1, ptrV b2] w fun e w' => e = .returned (.tuple #[]) ∧ DiskAt S w' db { s with fs := putF s.fs (bs name) (syncedF (getF s.fs (bs name))) } ∧ Kept S w w' := by
  have hlt := h.lt
  obtain ⟨v, hbf, hl⟩ := h.map.look name (by omega)
  obtain ⟨va, vc, rfl⟩ := hbf.slice
  have l1 := World.block_lt_of_cell? w _ k1
  have l2 := World.block_lt_of_cell? w _ k2
  simp only at l1 l2
  have c0 := h.c0
  have c0a := fun o => (cell_alloc w o 0 hlt).trans c0
  have k1a := fun o => (cell_alloc w o 0 l1).trans k1
  have k2a := fun o => (cell_alloc w o 0 l2).trans k2
  have hl1 := (hl w.drew (fun g _ => rfl)).1
  have hl2 := fun o => (hl (w.alloc o).drew (fun g hg => Below.heap_alloc w o g (h.mine g (by rw [hg]; simp)).2)).1
  have hB : Below w.heap.size w (w.alloc (.cells #[.slice va (getF s.fs (bs name)).b.length vc, .int .i64 ((getF s.fs (bs name)).s : Int), .bool (getF s.fs (bs name)).u] 68)).drew := ((Below.refl _ _).alloc (Nat.le_refl _) _).drew
  have HP := Lib.hid (put_any (f := syncedF (getF s.fs (bs name))) (h.below hB) (fun k hk => hS k (by have := hB.size; omega)) name hn (hbf.kept (own' := own) hB.size (fun g hg hlg => ⟨hB.block g hlg, hg⟩)) hc hfit)
  have HBB := Lib.hid hB
  clear h hl hbf hB hS hfit
  go_enter Tryz.func69, Tryz.ntmps69
  go_wp2
  go_region
  go_wp2_with fail
  refine HP.out.mono ?_
  rintro e w4 ⟨rfl, hd4, hk4⟩
  have HD4 := Lib.hid hd4
  have HK4 := Lib.hid ((Kept.of_below HBB.out).trans hk4)
  clear hd4 hk4
  go_wp2
  go_end0
  exact ⟨rfl, HD4.out, HK4.out⟩
theorem nothing_any (w : World) : Calls Tryz.prog 61 #[] w fun e w' => e = .returned (.tuple #[]) ∧ w = w' := by
  go_enter Tryz.func61, Tryz.ntmps61
  go_wp2
  go_end0
  exact ⟨rfl, rfl⟩
set_option maxHeartbeats 1000000 in
theorem append2_any {S : Nat → Prop} {w : World} {db : Nat} {s : St} (h : DiskAt S w db s) (x : ByteArray) (_hx : x.size ≤ 9223372036854775807) (b1 b2 : Nat) (k1 : w.cell? ⟨b1, 0, none⟩ = some (ptrV db)) (k2 : w.cell? ⟨b2, 0, none⟩ = some (.string x)) :
    Calls Tryz.prog 49 #[ptrV b1, ptrV b2] w fun e w' => e = .returned (.int .i64 (fitE s x.size)) ∧ ∃ q, w' = w.drewN q := by
  have HP := Lib.hid (fits_any h x.size)
  clear h
  go_enter Tryz.func49, Tryz.ntmps49
  go_wp2_with fail
  refine HP.out.mono ?_
  rintro e w4 ⟨rfl, q, hq⟩
  have HQ := Lib.hid hq
  clear hq
  go_wp2
  go_ret
  exact ⟨rfl, q, HQ.out⟩
/-- a text's bytes, made a slice -/
theorem bf_conv (own : Nat → Own) (k : List UInt8) (w : World) (e : TypeId) (s : ByteArray) : Below w.heap.size w (Lib.bytesWorld w e s) ∧ w.heap.size < (Lib.bytesWorld w e s).heap.size ∧
    Bf (own1 own w.heap.size (.file k)) k (Lib.bytesWorld w e s) (.slice (some ⟨w.heap.size, 0, none⟩) s.size (grownCap w s.size 0 e)) (bs s) := by
  have hge := grownCap_ge w s.size 0 e
  have hsz : (Lib.bytesCells w e s).size = grownCap w s.size 0 e := by
    unfold Lib.bytesCells
    simp only [Array.size_append, Array.size_map, Array.size_replicate]
    have : s.data.size = s.size := rfl
    omega
  have hnew := Lib.bytesWorld_at_new w e s
  refine ⟨⟨?_, ?_, ?_, by rw [Lib.bytesWorld_size]; omega, fun k hk => Lib.bytesWorld_at_old w e s k hk⟩, by rw [Lib.bytesWorld_size]; omega, .inr ⟨w.heap.size, _, by rw [← Lib.size_eq], own1_same _ _ _, by rw [Lib.bytesWorld_size]; omega, by rw [← Lib.size_eq]; exact hge, fun j hj => ?_, fun j hj => ⟨?_, ?_⟩⟩⟩
  · simp [Lib.bytesWorld, World.freeze, World.alloc, World.drew, -World.alloc_eq, -World.drew_eq]
  · simp [Lib.bytesWorld, World.freeze, World.alloc, World.drew, -World.alloc_eq, -World.drew_eq]
  · simp [Lib.bytesWorld, World.freeze, World.alloc, World.drew, -World.alloc_eq, -World.drew_eq]
  · rw [Lib.bytesWorld_cell w e s j (by rw [Lib.size_eq]; exact hj)]
    simp [Lib.byteCells, List.getD, List.getElem?_eq_getElem hj]
  · unfold World.cell?
    rw [hnew]
    show (_ : Option Value).isSome = true
    simp [hsz, hj]
  · unfold World.frozen?
    rw [hnew]
    simp [hsz]
    omega
set_option maxRecDepth 100000 in
set_option maxHeartbeats 2000000 in
theorem replace2_any {own : Nat → Own} {S : Nat → Prop} {w : World} {db : Nat} {s : St} {mv : Value} {wv : Bool} {mo : Int} (h : DiskO own S w db s mv wv mo) (hS : ∀ k, w.heap.size ≤ k → S k) (name x : ByteArray) (hn : name.size ≤ 281474976710656)
    (_hx : x.size ≤ 9223372036854775807) (hc : s.fs.length ≤ 1099511627776) (hfit : Fit { s with fs := putF s.fs (bs name) ⟨bs x, (bs x).length, true⟩ })
    (b1 b2 b3 : Nat) (k1 : w.cell? ⟨b1, 0, none⟩ = some (ptrV db)) (k2 : w.cell? ⟨b2, 0, none⟩ = some (.string name)) (k3 : w.cell? ⟨b3, 0, none⟩ = some (.string x)) :
    Calls Tryz.prog 75 #[ptrV b1, ptrV b2, ptrV b3] w fun e w' => e = .returned (.tuple #[]) ∧ DiskAt S w' db { s with fs := putF s.fs (bs name) ⟨bs x, (bs x).length, true⟩ } ∧ Kept S w w' := by
  have l3 := World.block_lt_of_cell? w _ k3
  simp only at l3
  have hcv := Lib.run_convert_string_bytes (P := Tryz.prog) w 9 66 5 x Tryz.underlying9 Tryz.underlying66 Tryz.underlying5
  obtain ⟨hb0, hlt0, hbf⟩ := bf_conv own (bs name) w 5 x
  have m3 : (Lib.bytesWorld w 5 x).cell? ⟨b3, 0, none⟩ = some (.string x) := (hb0.cell (p := ⟨b3, 0, none⟩) l3).trans k3
  have hD : DiskO (own1 own w.heap.size (.file (bs name))) S (Lib.bytesWorld w 5 x) db s mv wv mo := by
    refine ⟨fun j hj => ?_, ?_, (hb0.block db h.lt).trans h.block, h.brk, h.map.kept hb0.size (fun g _ hg _ => ⟨hb0.block g hg, own1_other _ _ _ (by omega)⟩), h.fit⟩
    · by_cases e : j = w.heap.size
      · subst e; exact ⟨hS _ (Nat.le_refl _), hlt0⟩
      · rw [own1_other _ _ _ e] at hj
        have := h.mine j hj
        exact ⟨this.1, by omega⟩
    · rw [own1_other _ _ _ (by have := h.lt; omega)]; exact h.disk
  have HP := Lib.hid (put_any (f := ⟨bs x, (bs x).length, true⟩) hD (fun k hk => hS k (by have := hb0.size; omega)) name hn hbf hc hfit)
  have HB := Lib.hid hb0
  have hxl : (((bs x).length : Nat) : Int) = (x.size : Int) := by rw [bs_len]
  have HXL := Lib.hid hxl
  clear h hS hb0 hlt0 hbf hD hfit hxl
  generalize Lib.bytesWorld w 5 x = w5 at *
  generalize grownCap w x.size 0 5 = vc at *
  have HQ : Hid (Calls Tryz.prog 47 #[ptrV db, .string name, .agg #[.slice (some ⟨w.heap.size, 0, none⟩) x.size vc, .int .i64 (x.size : Int), .bool true]] w5 fun e w' =>
      e = .returned (.tuple #[]) ∧ DiskAt S w' db { s with fs := putF s.fs (bs name) ⟨bs x, (bs x).length, true⟩ } ∧ Kept S w5 w') := by
    show Calls _ _ _ _ _
    rw [← HXL.out]; exact HP.out
  clear HP HXL
  go_enter Tryz.func75, Tryz.ntmps75
  go_wp2_with fail
  refine HQ.out.mono ?_
  rintro e w4 ⟨rfl, hd4, hk4⟩
  have HD4 := Lib.hid hd4
  have HK4 := Lib.hid ((Kept.of_below HB.out).trans hk4)
  clear hd4 hk4
  go_wp2
  go_end0
  exact ⟨rfl, HD4.out, HK4.out⟩
set_option maxRecDepth 100000 in
set_option maxHeartbeats 2000000 in
theorem cut2_any {own : Nat → Own} {S : Nat → Prop} {w : World} {db : Nat} {s : St} {mv : Value} {wv : Bool} {mo : Int} (h : DiskO own S w db s mv wv mo) (hS : ∀ k, w.heap.size ≤ k → S k) (name : ByteArray) (n : Nat) (hn : name.size ≤ 281474976710656)
    (hm : n ≤ (getF s.fs (bs name)).b.length) (hc : s.fs.length ≤ 1099511627776) (hfit : Fit { s with fs := putF s.fs (bs name) (cutF (getF s.fs (bs name)) n) })
    (b1 b2 b3 : Nat) (k1 : w.cell? ⟨b1, 0, none⟩ = some (ptrV db)) (k2 : w.cell? ⟨b2, 0, none⟩ = some (.string name)) (k3 : w.cell? ⟨b3, 0, none⟩ = some (.int .i64 (n : Int))) :
    Calls Tryz.prog 60 #[ptrV b1, ptrV b2, ptrV b3] w fun e w' => e = .returned (.tuple #[]) ∧ DiskAt S w' db { s with fs := putF s.fs (bs name) (cutF (getF s.fs (bs name)) n) } ∧ Kept S w w' := by
  have hlt := h.lt
  obtain ⟨v, hbf, hl⟩ := h.map.look name (by omega)
  obtain ⟨va, vc, rfl⟩ := hbf.slice
  have hvc : (getF s.fs (bs name)).b.length ≤ vc := by
    rcases hbf with ⟨e, e2⟩ | ⟨g, cap, e, _, _, hcap, _⟩
    · rw [e2]; simp
    · cases e; exact hcap
  have l1 := World.block_lt_of_cell? w _ k1
  have l2 := World.block_lt_of_cell? w _ k2
  have l3 := World.block_lt_of_cell? w _ k3
  simp only at l1 l2 l3
  have c0 := h.c0
  have c0a := fun o => (cell_alloc w o 0 hlt).trans c0
  have k1a := fun o => (cell_alloc w o 0 l1).trans k1
  have k2a := fun o => (cell_alloc w o 0 l2).trans k2
  have k3a := fun o => (cell_alloc w o 0 l3).trans k3
  have hl1 := (hl w.drew (fun g _ => rfl)).1
  have hl2 := fun o => (hl (w.alloc o).drew (fun g hg => Below.heap_alloc w o g (h.mine g (by rw [hg]; simp)).2)).1
  have hB : Below w.heap.size w (w.alloc (.cells #[.slice va (getF s.fs (bs name)).b.length vc, .int .i64 ((getF s.fs (bs name)).s : Int), .bool (getF s.fs (bs name)).u] 68)).drew := ((Below.refl _ _).alloc (Nat.le_refl _) _).drew
  have hbl := get_le s.fs (bs name)
  have hri := h.fit.roomI
  have hrr := h.fit.room
  have HX := Lib.hid (hbf.kept (own' := own) hB.size (fun g hg hlg => ⟨hB.block g hlg, hg⟩))
  have HH := Lib.hid (h.below hB)
  have HS := Lib.hid (show ∀ k, (w.alloc (.cells #[.slice va (getF s.fs (bs name)).b.length vc, .int .i64 ((getF s.fs (bs name)).s : Int), .bool (getF s.fs (bs name)).u] 68)).drew.heap.size ≤ k → S k from fun k hk => hS k (by have := hB.size; omega))
  have HF := Lib.hid hfit
  have HBB := Lib.hid hB
  clear h hl hbf hB hS hfit
  go_enter Tryz.func60, Tryz.ntmps60
  go_wp2
  go_region
  go_wp2
  have q0 : ((w.alloc (.cells #[.slice va (getF s.fs (bs name)).b.length vc, .int .i64 ((getF s.fs (bs name)).s : Int), .bool (getF s.fs (bs name)).u] 68)).drew).cell? ⟨w.heap.size, 0, none⟩ = some (.slice va (getF s.fs (bs name)).b.length vc) := by simp
  have q1 : ((w.alloc (.cells #[.slice va (getF s.fs (bs name)).b.length vc, .int .i64 ((getF s.fs (bs name)).s : Int), .bool (getF s.fs (bs name)).u] 68)).drew).cell? ⟨w.heap.size, 1, none⟩ = some (.int .i64 ((getF s.fs (bs name)).s : Int)) := by simp
  have p1 : ((w.alloc (.cells #[.slice va (getF s.fs (bs name)).b.length vc, .int .i64 ((getF s.fs (bs name)).s : Int), .bool (getF s.fs (bs name)).u] 68)).drew).cell? ⟨b1, 0, none⟩ = some (ptrV db) := k1a _
  have p2 : ((w.alloc (.cells #[.slice va (getF s.fs (bs name)).b.length vc, .int .i64 ((getF s.fs (bs name)).s : Int), .bool (getF s.fs (bs name)).u] 68)).drew).cell? ⟨b2, 0, none⟩ = some (.string name) := k2a _
  have p3 : ((w.alloc (.cells #[.slice va (getF s.fs (bs name)).b.length vc, .int .i64 ((getF s.fs (bs name)).s : Int), .bool (getF s.fs (bs name)).u] 68)).drew).cell? ⟨b3, 0, none⟩ = some (.int .i64 (n : Int)) := k3a _
  clear hl1 hl2 c0a k1a k2a k3a
  generalize (w.alloc (.cells #[.slice va (getF s.fs (bs name)).b.length vc, .int .i64 ((getF s.fs (bs name)).s : Int), .bool (getF s.fs (bs name)).u] 68)).drew = w2 at *
  have i1 : (n : Int) ≤ (vc : Int) := by omega
  have i2 : (0 : Int) ≤ (n : Int) := by omega
  have i3 : n ≤ vc := by omega
  have hmin : (((cutF (getF s.fs (bs name)) n).s : Nat) : Int) = min ((getF s.fs (bs name)).s : Int) (n : Int) := by simp only [cutF]; omega
  have HC : Hid (Calls Tryz.prog 47 #[ptrV db, .string name, .agg #[.slice va n vc, .int .i64 (min ((getF s.fs (bs name)).s : Int) (n : Int)), .bool true]] w2.drew fun e w' =>
      e = .returned (.tuple #[]) ∧ DiskAt S w' db { s with fs := putF s.fs (bs name) (cutF (getF s.fs (bs name)) n) } ∧ Kept S w2.drew w') := by
    show Calls _ _ _ _ _
    rw [← hmin]
    exact put_any (f := cutF (getF s.fs (bs name)) n) (HH.out.below ((Below.refl _ _).drew)) HS.out name hn ((HX.out.take rfl n hm).kept (w' := w2.drew) (own' := own) (Nat.le_refl _) (fun g hg _ => ⟨rfl, hg⟩)) hc HF.out
  clear hmin HX HH HS HF
  go_still_tail 11, (by kernel_rfl)
  change wpList _ _ _ _ _ w2.drew
  go_wp2_with fail
  refine HC.out.mono ?_
  rintro e w4 ⟨rfl, hd4, hk4⟩
  have HD4 := Lib.hid hd4
  have HK4 := Lib.hid ((Kept.of_below HBB.out.drew).trans hk4)
  clear hd4 hk4
  go_wp2
  go_end0
  exact ⟨rfl, HD4.out, HK4.out⟩
set_option maxRecDepth 100000 in
set_option maxHeartbeats 2000000 in
theorem cut1_any {own : Nat → Own} {S : Nat → Prop} {w : World} {db : Nat} {s : St} {mv : Value} {wv : Bool} {mo : Int} (h : DiskO own S w db s mv wv mo) (name : ByteArray) (n : Int) (hn : name.size ≤ 281474976710656)
    (b1 b2 b3 : Nat) (k1 : w.cell? ⟨b1, 0, none⟩ = some (ptrV db)) (k2 : w.cell? ⟨b2, 0, none⟩ = some (.string name)) (k3 : w.cell? ⟨b3, 0, none⟩ = some (.int .i64 n)) :
    Calls Tryz.prog 59 #[ptrV b1, ptrV b2, ptrV b3] w fun e w' => e = .returned (.int .i64 (cutE s (bs name) n)) ∧ Below w.heap.size w w' := by
  have hlt := h.lt
  obtain ⟨v, hbf, hl⟩ := h.map.look name (by omega)
  obtain ⟨va, vc, rfl⟩ := hbf.slice
  have l1 := World.block_lt_of_cell? w _ k1
  have l2 := World.block_lt_of_cell? w _ k2
  have l3 := World.block_lt_of_cell? w _ k3
  simp only at l1 l2 l3
  have c0 := h.c0
  have c0a := fun o => (cell_alloc w o 0 hlt).trans c0
  have k1a := fun o => (cell_alloc w o 0 l1).trans k1
  have k2a := fun o => (cell_alloc w o 0 l2).trans k2
  have k3a := fun o => (cell_alloc w o 0 l3).trans k3
  have hl1 := (hl w.drew (fun g _ => rfl)).2
  have hl2 := fun o => (hl (w.alloc o).drew (fun g hg => Below.heap_alloc w o g (h.mine g (by rw [hg]; simp)).2)).2
  have HB : Hid (Below w.heap.size w (w.alloc (.cells #[.slice va (getF s.fs (bs name)).b.length vc, .int .i64 ((getF s.fs (bs name)).s : Int), .bool (getF s.fs (bs name)).u] 68)).drew) := ((Below.refl _ _).alloc (Nat.le_refl _) _).drew
  clear h hl hbf
  by_cases ht : (look s.fs (bs name)).isSome = true
  · by_cases hc1 : n < 0
    · have HE : Hid (cutE s (bs name) n = 1) := by show _ = _; unfold cutE; rw [if_pos ht, if_pos (.inl hc1)]
      rw [ht] at hl1 hl2
      clear ht
      generalize cutE s (bs name) n = E at *
      generalize (getF s.fs (bs name)).b.length = fl at *
      go_enter Tryz.func59, Tryz.ntmps59
      go_wp2
      go_region
      go_wp2
      go_ret
      exact ⟨ret_int HE.out.symm, HB.out⟩
    · by_cases hc2 : n > (getF s.fs (bs name)).b.length
      · have HE : Hid (cutE s (bs name) n = 1) := by show _ = _; unfold cutE; rw [if_pos ht, if_pos (.inr hc2)]
        have hc3 : (((getF s.fs (bs name)).b.length : Nat) : Int) < n := hc2
        rw [ht] at hl1 hl2
        clear ht hc2
        generalize cutE s (bs name) n = E at *
        generalize (getF s.fs (bs name)).b.length = fl at *
        go_enter Tryz.func59, Tryz.ntmps59
        go_wp2
        go_region
        go_wp2
        go_ret
        exact ⟨ret_int HE.out.symm, HB.out⟩
      · have HE : Hid (cutE s (bs name) n = 0) := by show _ = _; unfold cutE; rw [if_pos ht, if_neg (fun h => h.elim hc1 hc2)]
        have hc3 : ¬ (((getF s.fs (bs name)).b.length : Nat) : Int) < n := hc2
        rw [ht] at hl1 hl2
        clear ht hc2
        generalize cutE s (bs name) n = E at *
        generalize (getF s.fs (bs name)).b.length = fl at *
        go_enter Tryz.func59, Tryz.ntmps59
        go_wp2
        go_region
        go_wp2
        go_ret
        exact ⟨ret_int HE.out.symm, HB.out⟩
  · have HE : Hid (cutE s (bs name) n = 42) := by show _ = _; unfold cutE; rw [if_neg ht]
    have ht : (look s.fs (bs name)).isSome = false := by simpa using ht
    rw [ht] at hl1 hl2
    clear ht
    generalize cutE s (bs name) n = E at *
    generalize (getF s.fs (bs name)).b.length = fl at *
    go_enter Tryz.func59, Tryz.ntmps59
    go_wp2
    go_region
    go_wp2
    go_ret
    exact ⟨ret_int HE.out.symm, HB.out⟩
end Go.Proofs.YtnffjoflkeagfaaGreat
namespace Go.Proofs.YtnffjoflkeagfaaGreat
open Go.RowKit Go.Maps

set_option maxRecDepth 100000 in
set_option maxHeartbeats 2000000 in
theorem replace1_any {own : Nat → Own} {S : Nat → Prop} {w : World} {db : Nat} {s : St} {mv : Value} {wv : Bool} {mo : Int} (h : DiskO own S w db s mv wv mo) (name x : ByteArray) (hn : name.size ≤ 281474976710656) (hx : x.size ≤ 9223372036854775807)
    (b1 b2 b3 : Nat) (k1 : w.cell? ⟨b1, 0, none⟩ = some (ptrV db)) (k2 : w.cell? ⟨b2, 0, none⟩ = some (.string x)) (k3 : w.cell? ⟨b3, 0, none⟩ = some (.string name)) :
    Calls Tryz.prog 74 #[ptrV b1, ptrV b2, ptrV b3] w fun e w' => e = .returned (.int .i64 (fitE s ((x.size : Int) - ((getF s.fs (bs name)).b.length : Int)))) ∧ ∃ q, w' = w.drewN q := by
  have hlt := h.lt
  obtain ⟨v, hbf, hl⟩ := h.map.look name (by omega)
  obtain ⟨va, vc, rfl⟩ := hbf.slice
  have c0 := h.c0
  have hl1 : ∀ q, (Instr.lookup 51 mv (.string name) false).run Tryz.prog (w.drewN q) = .ok (.agg #[.slice va (getF s.fs (bs name)).b.length vc, .int .i64 ((getF s.fs (bs name)).s : Int), .bool (getF s.fs (bs name)).u]) (w.drewN q) := fun q => (hl (w.drewN q) (fun g _ => by rw [heap_drewN])).1
  have hfl : ∀ (w : World) (a : Option Addr) (n c : Nat) (x y : Value), (Instr.field 68 (.agg #[.slice a n c, x, y]) 0).run Tryz.prog w = .ok (.slice a n c) w := fun w a n c x y => by kernel_rfl
  have hbl := get_le s.fs (bs name)
  have hri := h.fit.roomI
  have hrr := h.fit.room
  have HP := Lib.hid (fun q => fits_any (w := w.drewN q) (s := s) ⟨own, mv, wv, mo, h.below (below_drewN (Below.refl _ _) q)⟩ ((x.size : Int) - ((getF s.fs (bs name)).b.length : Int)))
  clear h hl hbf
  go_enter Tryz.func74, Tryz.ntmps74
  go_wp2
  go_quiet ((go_at_call 50; exact Calls.quiet_of (HP.out _)))
  go_wp2
  go_ret
  exact ⟨rfl, _, rfl⟩
theorem changeS_down {s : St} (h : s.down = true) (e : Int) (f1 f2 : Fs) : changeS s e f1 f2 = (41, s) := by unfold changeS; rw [if_pos h]
theorem changeS_err {s : St} (h : s.down = false) {e : Int} (he : e ≠ 0) (f1 f2 : Fs) : changeS s e f1 f2 = (e, s) := by unfold changeS; rw [if_neg (by rw [h]; simp), if_pos he]
theorem changeS_torn {s : St} (h : s.down = false) {e : Int} (he : e = 0) (hb : brkB s = true) (f1 f2 : Fs) : changeS s e f1 f2 = (41, { brkS s with fs := f2 }) := by
  unfold changeS
  rw [if_neg (by rw [h]; simp), if_neg (by simp [he])]
  unfold brkB at hb
  simp only [Bool.and_eq_true, beq_iff_eq] at hb
  unfold brkS
  simp only [if_pos hb.1, if_pos hb.2]
theorem changeS_whole {s : St} (h : s.down = false) {e : Int} (he : e = 0) (hb : brkB s = false) (f1 f2 : Fs) : changeS s e f1 f2 = (0, { brkS s with fs := f1 }) := by
  unfold changeS
  rw [if_neg (by rw [h]; simp), if_neg (by simp [he])]
  unfold brkS
  by_cases hw : s.waits = true
  · have hm : ¬ s.more = 0 := fun hm => by unfold brkB at hb; simp [hw, hm] at hb
    simp only [if_pos hw, if_neg hm]
  · simp only [if_neg hw]
theorem brkS_fs (s : St) : (brkS s).fs = s.fs := by unfold brkS; split <;> (try split) <;> rfl
theorem brkS_room (s : St) : (brkS s).room = s.room := by unfold brkS; split <;> (try split) <;> rfl
theorem brkS_more (s : St) : (brkS s).more ≤ s.more := by unfold brkS; split <;> (try split) <;> simp
/-- a function that is called through its value -/
theorem enter_val {f : FuncId} {fn : Func} {c : Code} (hf : Tryz.prog.funcs[f]? = some fn) (hname : (fn.name == "runtime.NumGoroutine") = false) (hb : fn.body = some c) (args : Array Value) (w : World) :
    (callFunc f args).run Tryz.prog w = .ok (.enter f args) w := by
  have h1 : ¬ fn.name = "runtime.NumGoroutine" := by simpa using hname
  simp [callFunc, hf, h1, hb]
/-- what a change does when nothing is against it -/
def Does (own : Nat → Own) (S : Nat → Prop) (w : World) (db : Nat) (s : St) (mv : Value) (n : Nat) (c : Array Value) (fs : Fs) : Prop :=
  ∀ w2 wv mo, DiskO own S w2 db (brkS s) mv wv mo → (∀ j, own j = .no → j < w.heap.size → w2.heap[j]? = w.heap[j]?) → w.heap.size ≤ w2.heap.size →
    Calls Tryz.prog n c w2 fun e w' => e = .returned (.tuple #[]) ∧ DiskAt S w' db { brkS s with fs := fs } ∧ Kept S w2 w'
set_option maxRecDepth 100000 in
set_option maxHeartbeats 2000000 in
/-- a change that is down, needs what is missing, breaks, or is done -/
theorem change_any {own : Nat → Own} {S : Nat → Prop} {w : World} {db : Nat} {s : St} {mv : Value} {wv : Bool} {mo : Int} (h : DiskO own S w db s mv wv mo) (n1 n2 n3 : Nat) (c1 c2 c3 : Array Value) (er : Int) (fs1 fs2 : Fs)
    (he1 : ∀ w, (callFunc n1 c1).run Tryz.prog w = .ok (.enter n1 c1) w) (he2 : ∀ w, (callFunc n2 c2).run Tryz.prog w = .ok (.enter n2 c2) w) (he3 : ∀ w, (callFunc n3 c3).run Tryz.prog w = .ok (.enter n3 c3) w)
    (hneed : Calls Tryz.prog n1 c1 w fun e w' => e = .returned (.int .i64 er) ∧ Below w.heap.size w w')
    (hwhole : s.down = false → er = 0 → brkB s = false → Does own S w db s mv n2 c2 fs1) (htorn : s.down = false → er = 0 → brkB s = true → Does own S w db s mv n3 c3 fs2) :
    Calls Tryz.prog 48 #[ptrV db, .func (.func n1) #[] c1, .func (.func n2) #[] c2, .func (.func n3) #[] c3] w fun e w' => e = .returned (.int .i64 (changeS s er fs1 fs2).1) ∧ DiskAt S w' db (changeS s er fs1 fs2).2 ∧ Kept S w w' := by
  have hd := Down_any ⟨own, mv, wv, mo, h⟩
  have H := Lib.hid h
  have HN := Lib.hid hneed
  have HW := Lib.hid hwhole
  have HT := Lib.hid htorn
  clear h hneed hwhole htorn
  by_cases hdn : s.down = true
  · have HE := Lib.hid (changeS_down hdn er fs1 fs2)
    rw [hdn] at hd
    generalize changeS s er fs1 fs2 = R at *
    go_enter Tryz.func48, Tryz.ntmps48
    go_wp2_with fail
    refine hd.mono ?_
    rintro e w1 ⟨rfl, rfl⟩
    go_wp2
    go_ret
    rw [HE.out]
    exact ⟨rfl, ⟨own, mv, wv, mo, H.out⟩, Kept.refl _ _⟩
  · have hdn' : s.down = false := by simpa using hdn
    rw [hdn'] at hd
    have hdb : S db := (H.out.mine db (by rw [H.out.disk]; simp)).1
    have hdl := H.out.lt
    by_cases her : er = 0
    · have hb1 := fun w1 (b1 : Below w.heap.size w w1) => breaks_own (H.out.below b1) hdn'
      have HB1 := Lib.hid hb1
      clear hb1
      cases hB : brkB s with
      | true =>
        have HE := Lib.hid (changeS_torn hdn' her hB fs1 fs2)
        have HBt := Lib.hid hB
        clear hB hdn
        subst her
        generalize changeS s 0 fs1 fs2 = R at *
        go_enter Tryz.func48, Tryz.ntmps48
        go_wp2_with fail
        refine hd.mono ?_
        rintro e w1 ⟨rfl, rfl⟩
        go_wp2_with fail
        refine HN.out.mono ?_
        rintro e w1 ⟨rfl, b1⟩
        have hb2 := HB1.out w1 b1
        rw [HBt.out] at hb2
        have B1 := Lib.hid b1
        clear b1
        go_wp2_with fail
        refine hb2.mono ?_
        rintro e w2 ⟨rfl, ⟨wv', mo', hd2⟩, hg2⟩
        have hs2 : w.heap.size ≤ w2.heap.size := Nat.le_trans B1.out.size hg2.size
        have hc := HT.out hdn' (by first | trivial | rfl) HBt.out w2 wv' mo' hd2 (fun j hj hlj => (hg2.block j (Nat.lt_of_lt_of_le hlj B1.out.size) (fun e => by have := Option.some.inj e; subst this; rw [H.out.disk] at hj; cases hj)).trans (B1.out.block j hlj)) hs2
        have HC := Lib.hid hc
        have G2 := Lib.hid hg2
        clear hd2 hg2 hc
        go_wp2_with fail
        refine HC.out.mono ?_
        rintro e w3 ⟨rfl, hd3, hk3⟩
        have HD3 := Lib.hid hd3
        have HK3 := Lib.hid (((Kept.of_below B1.out).trans (Kept.of_but G2.out hdb)).trans hk3)
        clear hd3 hk3
        go_wp2
        go_ret
        rw [HE.out]
        exact ⟨rfl, HD3.out, HK3.out⟩
      | false =>
        have HE := Lib.hid (changeS_whole hdn' her hB fs1 fs2)
        have HBt := Lib.hid hB
        clear hB hdn
        subst her
        generalize changeS s 0 fs1 fs2 = R at *
        go_enter Tryz.func48, Tryz.ntmps48
        go_wp2_with fail
        refine hd.mono ?_
        rintro e w1 ⟨rfl, rfl⟩
        go_wp2_with fail
        refine HN.out.mono ?_
        rintro e w1 ⟨rfl, b1⟩
        have hb2 := HB1.out w1 b1
        rw [HBt.out] at hb2
        have B1 := Lib.hid b1
        clear b1
        go_wp2_with fail
        refine hb2.mono ?_
        rintro e w2 ⟨rfl, ⟨wv', mo', hd2⟩, hg2⟩
        have hs2 : w.heap.size ≤ w2.heap.size := Nat.le_trans B1.out.size hg2.size
        have hc := HW.out hdn' (by first | trivial | rfl) HBt.out w2 wv' mo' hd2 (fun j hj hlj => (hg2.block j (Nat.lt_of_lt_of_le hlj B1.out.size) (fun e => by have := Option.some.inj e; subst this; rw [H.out.disk] at hj; cases hj)).trans (B1.out.block j hlj)) hs2
        have HC := Lib.hid hc
        have G2 := Lib.hid hg2
        clear hd2 hg2 hc
        go_wp2_with fail
        refine HC.out.mono ?_
        rintro e w3 ⟨rfl, hd3, hk3⟩
        have HD3 := Lib.hid hd3
        have HK3 := Lib.hid (((Kept.of_below B1.out).trans (Kept.of_but G2.out hdb)).trans hk3)
        clear hd3 hk3
        go_wp2
        go_ret
        rw [HE.out]
        exact ⟨rfl, HD3.out, HK3.out⟩
    · have HE := Lib.hid (changeS_err hdn' her fs1 fs2)
      have hei : (er != 0) = true := by simpa using her
      clear hdn her
      generalize changeS s er fs1 fs2 = R at *
      go_enter Tryz.func48, Tryz.ntmps48
      go_wp2_with fail
      refine hd.mono ?_
      rintro e w1 ⟨rfl, rfl⟩
      go_wp2_with fail
      refine HN.out.mono ?_
      rintro e w1 ⟨rfl, b1⟩
      have B1 := Lib.hid b1
      clear b1
      go_wp2
      go_ret
      rw [HE.out]
      exact ⟨rfl, ⟨own, mv, wv, mo, H.out.below B1.out⟩, Kept.of_below B1.out⟩
end Go.Proofs.YtnffjoflkeagfaaGreat
