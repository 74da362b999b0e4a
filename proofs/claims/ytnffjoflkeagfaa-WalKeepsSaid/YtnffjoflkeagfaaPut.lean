/- A file laid down, a file taken away. -/
import Derived.Test.YtnffjoflkeagfaaOne
import Derived.Test.YtnffjoflkeagfaaShelf
namespace Go.Proofs.Ytnffjoflkeagfaa
open Go.RowKit Go.Maps

theorem clone_any (s : ByteArray) (w : World) (hlim : s.size ≤ 281474976710656) :
    Calls Try.prog 50 #[.string s] w fun e w' => e = .returned (.string s) ∧ Below w.heap.size w w' := by
  go_enter Try.func50, Try.ntmps50
  go_wp2_with fail
  refine (Try.stringslite_Clone s _ hlim).mono ?_
  rintro e w1 ⟨rfl, hb⟩
  go_wp2
  go_ret
  exact ⟨rfl, hb⟩
/-- the files laid down, their bytes counted anew -/
theorem put_done {own : Nat → Own} {S : Nat → Prop} {w1 : World} {db : Nat} {s : St} {mv : Value} {wv : Bool} {mo : Int} {fs : Fs} {z : Int} (mine : ∀ k, own k ≠ .no → S k ∧ k < w1.heap.size) (hd : own db = .disk)
    (hb : w1.heap[db]? = some (diskC mv s wv mo)) (hbrk : s.down = false → wv = s.waits ∧ (s.waits = true → mo = (s.more : Int))) (hm : MapAt own w1 mv fs) (hfit : Fit { s with fs := fs }) (hz : z = (usedF fs : Nat)) :
    DiskAt S ((w1.setCell ⟨db, 2, none⟩ (.int .i64 z)).drew) db { s with fs := fs } := by
  subst hz
  refine ⟨own, mv, wv, mo, fun k hk => ⟨(mine k hk).1, by simp [World.setCell]; exact (mine k hk).2⟩, hd, ?_, hbrk, ?_, hfit⟩
  · show (w1.setCell ⟨db, 2, none⟩ (.int .i64 (usedF fs : Nat))).heap[db]? = _
    simp [World.setCell, Array.getElem?_modify, hb, diskC]
  · exact hm.reblock (by simp [World.setCell]) hd (fun k hk => Below.heap_setCell _ _ _ _ hk)
theorem put_kept {S : Nat → Prop} {w w6 w1 : World} {mb db : Nat} {v : Value} (hb : Kept S w w6) (hg : w6.grownBy w1 (some mb)) (hm : S mb) (hd : S db) : Kept S w ((w1.setCell ⟨db, 2, none⟩ v).drew) :=
  ((hb.trans (Kept.of_but hg hm)).set (.inl hd) _).drewN 1
set_option maxRecDepth 100000 in
set_option maxHeartbeats 2000000 in
theorem put_there {own : Nat → Own} {S : Nat → Prop} {w : World} {db : Nat} {s : St} {mb : Nat} {wv : Bool} {mo : Int} (h : DiskO own S w db s (.map (some mb)) wv mo) (name : ByteArray) (hn : name.size ≤ 281474976710656)
    {v : Value} {f : F} (hv : Bf own (bs name) w v f.b) (hc : s.fs.length ≤ 1099511627776) (hfit : Fit { s with fs := putF s.fs (bs name) f }) (ht : (look s.fs (bs name)).isSome = true) :
    Calls Try.prog 58 #[ptrV db, .string name, fileV v f] w fun e w' => e = .returned (.tuple #[]) ∧ DiskAt S w' db { s with fs := putF s.fs (bs name) f } ∧ Kept S w w' := by
  have hlt := h.lt
  obtain ⟨ov, hof, hl⟩ := h.map.look name (by omega)
  obtain ⟨va, vc, rfl⟩ := hv.slice
  obtain ⟨oa, oc, rfl⟩ := hof.slice
  have c0a := fun o => (cell_alloc w o 0 hlt).trans h.c0
  have c0 := h.c0
  have hl1 := fun o => (hl (w.alloc o) (fun g hg => Below.heap_alloc w o g (h.mine g (by rw [hg]; simp)).2)).2
  rw [ht] at hl1
  have H := Lib.hid h
  have HV := Lib.hid hv
  have HO := Lib.hid hof
  have HF := Lib.hid hfit
  have HT := Lib.hid ht
  clear h hl hof hv hfit ht
  have hmn := fun w => run_eql_map_nil (P := Try.prog) w 66 _ _ (some mb) Try.underlying66
  have c0b := fun o o' => (cell_alloc (w.alloc o) o' 0 (by simp; omega)).trans (c0a o)
  have hB : Below w.heap.size w (((w.alloc (.cells #[.slice va f.b.length vc, .int .i64 (f.s : Int), .bool f.u] 71)).alloc (.cells #[.slice oa (getF s.fs (bs name)).b.length oc, .int .i64 ((getF s.fs (bs name)).s : Int), .bool (getF s.fs (bs name)).u] 71)).drew) :=
    (((Below.refl _ _).alloc (Nat.le_refl _) _).alloc (by simp) _).drew
  have HD := H.out.below hB
  have hV := HV.out.kept (own' := own) hB.size (fun g hg _ => ⟨hB.block g (H.out.mine g (by rw [hg]; simp)).2, hg⟩)
  obtain ⟨w1, r1, m1, g1, ho1, z1⟩ := HD.map.put HD.fit.sorted name (by omega) (by have := hc; show s.fs.length < _; omega) _ f hV
  have hne : db ≠ mb := fun e => by subst e; rw [H.out.disk] at ho1; cases ho1
  have hs6 : (((w.alloc (.cells #[.slice va f.b.length vc, .int .i64 (f.s : Int), .bool f.u] 71)).alloc (.cells #[.slice oa (getF s.fs (bs name)).b.length oc, .int .i64 ((getF s.fs (bs name)).s : Int), .bool (getF s.fs (bs name)).u] 71)).drew).heap.size = w.heap.size + 2 := by simp
  have hml : mb < w.heap.size := (H.out.mine mb (by rw [ho1]; simp)).2
  have hk1 : w.heap.size ≠ mb := by omega
  have hk2 : w.heap.size + 1 ≠ mb := by omega
  have c2 : w1.cell? ⟨db, 2, none⟩ = some (.int .i64 (usedF s.fs : Int)) := (World.cell?_of_block (a := ⟨db, 2, none⟩) (g1.block db (by omega) (by simpa using hne))).trans HD.c2
  have f2 : w1.frozen? ⟨db, 2, none⟩ = false := (World.frozen?_of_block (a := ⟨db, 2, none⟩) (g1.block db (by omega) (by simpa using hne))).trans (HD.f 2)
  have k1 : w1.cell? ⟨w.heap.size, 0, none⟩ = some (.slice va f.b.length vc) := (World.cell?_of_block (a := ⟨w.heap.size, 0, none⟩) (g1.block w.heap.size (by rw [hs6]; omega) (fun e => hk1 (Option.some.inj e)))).trans (by simp)
  have k2 : w1.cell? ⟨w.heap.size + 1, 0, none⟩ = some (.slice oa (getF s.fs (bs name)).b.length oc) := (World.cell?_of_block (a := ⟨w.heap.size + 1, 0, none⟩) (g1.block (w.heap.size + 1) (by rw [hs6]; omega) (fun e => hk2 (Option.some.inj e)))).trans (by simp)
  have hu := used_put H.out.fit.sorted (bs name) f
  have hr := H.out.fit.room
  have hri := H.out.fit.roomI
  have hfr : usedF (putF s.fs (bs name) f) ≤ s.room := HF.out.room
  have hol := get_le s.fs (bs name)
  have HU : Hid ((usedF s.fs : Int) + ((f.b.length : Int) - ((getF s.fs (bs name)).b.length : Int)) = (usedF (putF s.fs (bs name) f) : Nat)) := by show _ = _; omega
  have M1 := Lib.hid m1
  have G1 := Lib.hid g1
  have HDh := Lib.hid HD
  have HB := Lib.hid hB
  have Z1 := Lib.hid (z1.trans hs6)
  clear m1 g1 HD hB hV z1 hs6
  go_enter Try.func58, Try.ntmps58
  go_wp2
  go_region
  go_wp2
  go_region
  go_end0
  refine ⟨rfl, put_done (own := own) (mv := .map (some mb)) (fun k hk => ⟨(H.out.mine k hk).1, ?_⟩) H.out.disk ?_ H.out.brk M1.out HF.out HU.out, put_kept (Kept.of_below HB.out) G1.out (H.out.mine mb (by rw [ho1]; simp)).1 (H.out.mine db (by rw [H.out.disk]; simp)).1⟩
  · rw [Z1.out]; have := (H.out.mine k hk).2; omega
  · exact (G1.out.block db HDh.out.lt (by simpa using hne)).trans HDh.out.block
/-- a new map -/
theorem map_new (own : Nat → Own) (w : World) (db : Nat) (v : Value) (hd : db < w.heap.size) :
    MapAt (own1 own w.heap.size .map) ((w.alloc (.map #[] 0)).setCell ⟨db, 0, none⟩ v) (.map (some w.heap.size)) [] := by
  have h1 := World.ownsMap_made w Try.prog 9 Rv
  have h2 := h1.setCell (a := ⟨db, 0, none⟩) (by simp; omega) v
  exact .inr ⟨w.heap.size, .map [], rfl, own1_same _ _ _, h2, fun k => rfl, fun k f hf => by cases hf⟩
set_option maxRecDepth 100000 in
set_option maxHeartbeats 2000000 in
theorem put_new {own : Nat → Own} {S : Nat → Prop} {w : World} {db : Nat} {s : St} {mb : Nat} {wv : Bool} {mo : Int} (h : DiskO own S w db s (.map (some mb)) wv mo) (name : ByteArray) (hn : name.size ≤ 281474976710656)
    {v : Value} {f : F} (hv : Bf own (bs name) w v f.b) (hc : s.fs.length ≤ 1099511627776) (hfit : Fit { s with fs := putF s.fs (bs name) f }) (ht : (look s.fs (bs name)).isSome = false) :
    Calls Try.prog 58 #[ptrV db, .string name, fileV v f] w fun e w' => e = .returned (.tuple #[]) ∧ DiskAt S w' db { s with fs := putF s.fs (bs name) f } ∧ Kept S w w' := by
  have hlt := h.lt
  obtain ⟨ov, hof, hl⟩ := h.map.look name (by omega)
  obtain ⟨va, vc, rfl⟩ := hv.slice
  obtain ⟨oa, oc, rfl⟩ := hof.slice
  have c0a := fun o => (cell_alloc w o 0 hlt).trans h.c0
  have c0 := h.c0
  have hl1 := fun o => (hl (w.alloc o) (fun g hg => Below.heap_alloc w o g (h.mine g (by rw [hg]; simp)).2)).2
  rw [ht] at hl1
  have H := Lib.hid h
  have HV := Lib.hid hv
  have HO := Lib.hid hof
  have HF := Lib.hid hfit
  have HT := Lib.hid ht
  clear h hl hof hv hfit ht
  have hmn := fun w => run_eql_map_nil (P := Try.prog) w 66 _ _ (some mb) Try.underlying66
  have hcl := fun w => clone_any name w hn
  have hu := used_put H.out.fit.sorted (bs name) f
  have hr := H.out.fit.room
  have hri := H.out.fit.roomI
  have hfr : usedF (putF s.fs (bs name) f) ≤ s.room := HF.out.room
  have hol := get_le s.fs (bs name)
  have HU : Hid ((usedF s.fs : Int) + ((f.b.length : Int) - ((getF s.fs (bs name)).b.length : Int)) = (usedF (putF s.fs (bs name) f) : Nat)) := by show _ = _; omega
  go_enter Try.func58, Try.ntmps58
  go_wp2_with fail
  refine (hcl _).mono ?_
  rintro e w5 ⟨rfl, b5⟩
  have hB : Below w.heap.size w w5 := (((Below.refl _ _).alloc (Nat.le_refl _) _).alloc (by simp) _).trans (b5.mono (by simp; omega))
  have hs5 : w.heap.size + 2 ≤ w5.heap.size := by have := b5.size; simpa using this
  have k1 : w5.cell? ⟨w.heap.size, 0, none⟩ = some (.slice va f.b.length vc) := (b5.cell (p := ⟨w.heap.size, 0, none⟩) (by simp; omega)).trans (by simp)
  have k2 : w5.cell? ⟨w.heap.size + 1, 0, none⟩ = some (.slice oa (getF s.fs (bs name)).b.length oc) := (b5.cell (p := ⟨w.heap.size + 1, 0, none⟩) (by simp)).trans (by simp)
  have k3 : w5.cell? ⟨w.heap.size, 1, none⟩ = some (.int .i64 (f.s : Int)) := (b5.cell (p := ⟨w.heap.size, 1, none⟩) (by simp; omega)).trans (by simp)
  have k4 : w5.cell? ⟨w.heap.size, 2, none⟩ = some (.bool f.u) := (b5.cell (p := ⟨w.heap.size, 2, none⟩) (by simp; omega)).trans (by simp)
  have HD := H.out.below hB
  have d0 := HD.c0
  have hV := HV.out.kept (own' := own) hB.size (fun g hg _ => ⟨hB.block g (H.out.mine g (by rw [hg]; simp)).2, hg⟩)
  obtain ⟨w1, r1, m1, g1, ho1, z1⟩ := (HD.below ((Below.refl _ _).drew (w := w5))).map.put HD.fit.sorted name (by omega) (by omega) _ f (hV.kept (w' := w5.drew) (own' := own) (Nat.le_refl _) (fun g hg _ => ⟨rfl, hg⟩))
  have hne : db ≠ mb := fun e => by subst e; rw [H.out.disk] at ho1; cases ho1
  have hml : mb < w.heap.size := (H.out.mine mb (by rw [ho1]; simp)).2
  have hk1 : w.heap.size ≠ mb := by omega
  have hk2 : w.heap.size + 1 ≠ mb := by omega
  have hk3 : ∀ k, k < w5.heap.size → k ≠ mb → w1.heap[k]? = w5.heap[k]? := fun k hk hne => g1.block k hk (fun e => hne (Option.some.inj e))
  have c2 : w1.cell? ⟨db, 2, none⟩ = some (.int .i64 (usedF s.fs : Int)) := (World.cell?_of_block (a := ⟨db, 2, none⟩) (hk3 db (by omega) hne)).trans HD.c2
  have f2 : w1.frozen? ⟨db, 2, none⟩ = false := (World.frozen?_of_block (a := ⟨db, 2, none⟩) (hk3 db (by omega) hne)).trans (HD.f 2)
  have l1 : w1.cell? ⟨w.heap.size, 0, none⟩ = some (.slice va f.b.length vc) := (World.cell?_of_block (a := ⟨w.heap.size, 0, none⟩) (hk3 (w.heap.size) (by omega) hk1)).trans k1
  have l2 : w1.cell? ⟨w.heap.size + 1, 0, none⟩ = some (.slice oa (getF s.fs (bs name)).b.length oc) := (World.cell?_of_block (a := ⟨w.heap.size + 1, 0, none⟩) (hk3 (w.heap.size + 1) (by omega) hk2)).trans k2
  have M1 := Lib.hid m1
  have G1 := Lib.hid g1
  have HDh := Lib.hid HD
  have HB := Lib.hid hB
  have Z1 := Lib.hid (show w1.heap.size = w5.heap.size from z1)
  clear m1 g1 HD hB hV z1 b5 hk3
  go_wp2
  go_region
  go_wp2
  go_region
  go_end0
  refine ⟨rfl, put_done (own := own) (mv := .map (some mb)) (fun k hk => ⟨(H.out.mine k hk).1, ?_⟩) H.out.disk ?_ H.out.brk M1.out HF.out HU.out, put_kept (Kept.of_below HB.out) (show w5.grownBy w1 (some mb) from ⟨G1.out.os, G1.out.tape, G1.out.output, G1.out.size, G1.out.block⟩) (H.out.mine mb (by rw [ho1]; simp)).1 (H.out.mine db (by rw [H.out.disk]; simp)).1⟩
  · rw [Z1.out]; have := (H.out.mine k hk).2; omega
  · exact (G1.out.block db HDh.out.lt (by simpa using hne)).trans HDh.out.block
set_option maxRecDepth 100000 in
set_option maxHeartbeats 2000000 in
theorem put_first {own : Nat → Own} {S : Nat → Prop} {w : World} {db : Nat} {s : St} {wv : Bool} {mo : Int} (h : DiskO own S w db s (.map none) wv mo) (hS : ∀ k, w.heap.size ≤ k → S k) (name : ByteArray) (hn : name.size ≤ 281474976710656)
    {v : Value} {f : F} (hv : Bf own (bs name) w v f.b) (_hc : s.fs.length ≤ 1099511627776) (hfit : Fit { s with fs := putF s.fs (bs name) f }) (ht : (look s.fs (bs name)).isSome = false) :
    Calls Try.prog 58 #[ptrV db, .string name, fileV v f] w fun e w' => e = .returned (.tuple #[]) ∧ DiskAt S w' db { s with fs := putF s.fs (bs name) f } ∧ Kept S w w' := by
  have hlt := h.lt
  obtain ⟨ov, hof, hl⟩ := h.map.look name (by omega)
  obtain ⟨va, vc, rfl⟩ := hv.slice
  obtain ⟨oa, oc, rfl⟩ := hof.slice
  have c0a := fun o => (cell_alloc w o 0 hlt).trans h.c0
  have c0 := h.c0
  have hl1 := fun o => (hl (w.alloc o) (fun g hg => Below.heap_alloc w o g (h.mine g (by rw [hg]; simp)).2)).2
  rw [ht] at hl1
  have H := Lib.hid h
  have HV := Lib.hid hv
  have HO := Lib.hid hof
  have HF := Lib.hid hfit
  have HT := Lib.hid ht
  clear h hl hof hv hfit ht
  have hmn := fun w => run_eql_map_nil (P := Try.prog) w 66 _ _ none Try.underlying66
  have hmm := @run_makeMap Try.prog
  have hcl := fun w => clone_any name w hn
  have hu := used_put H.out.fit.sorted (bs name) f
  have hr := H.out.fit.room
  have hri := H.out.fit.roomI
  have hfr : usedF (putF s.fs (bs name) f) ≤ s.room := HF.out.room
  have hol := get_le s.fs (bs name)
  have HU : Hid ((usedF s.fs : Int) + ((f.b.length : Int) - ((getF s.fs (bs name)).b.length : Int)) = (usedF (putF s.fs (bs name) f) : Nat)) := by show _ = _; omega
  go_enter Try.func58, Try.ntmps58
  go_wp2_with fail
  refine (hcl _).mono ?_
  rintro e w5 ⟨rfl, b5⟩
  have hB : Below w.heap.size w w5 := (((Below.refl _ _).alloc (Nat.le_refl _) _).alloc (by simp) _).trans (b5.mono (by simp; omega))
  have hs5 : w.heap.size + 2 ≤ w5.heap.size := by have := b5.size; simpa using this
  have k1 : w5.cell? ⟨w.heap.size, 0, none⟩ = some (.slice va f.b.length vc) := (b5.cell (p := ⟨w.heap.size, 0, none⟩) (by simp; omega)).trans (by simp)
  have k2 : w5.cell? ⟨w.heap.size + 1, 0, none⟩ = some (.slice oa (getF s.fs (bs name)).b.length oc) := (b5.cell (p := ⟨w.heap.size + 1, 0, none⟩) (by simp)).trans (by simp)
  have k3 : w5.cell? ⟨w.heap.size, 1, none⟩ = some (.int .i64 (f.s : Int)) := (b5.cell (p := ⟨w.heap.size, 1, none⟩) (by simp; omega)).trans (by simp)
  have k4 : w5.cell? ⟨w.heap.size, 2, none⟩ = some (.bool f.u) := (b5.cell (p := ⟨w.heap.size, 2, none⟩) (by simp; omega)).trans (by simp)
  have HD := H.out.below hB
  have d0 := HD.c0
  have f0 := HD.f 0
  have hfs : s.fs = [] := by
    rcases H.out.map with h | ⟨_, _, h, _⟩
    · exact h.2
    · cases h
  have hm0 := map_new own w5 db (.map (some w5.heap.size)) (by omega)
  have hblk : ∀ k, k < w5.heap.size → k ≠ db → (((w5.alloc (.map #[] 0)).setCell ⟨db, 0, none⟩ (.map (some w5.heap.size))).drew).heap[k]? = w5.heap[k]? := fun k hk hne => (Below.heap_setCell _ _ _ _ hne).trans (Below.heap_alloc _ _ _ hk)
  have hsz : (((w5.alloc (.map #[] 0)).setCell ⟨db, 0, none⟩ (.map (some w5.heap.size))).drew).heap.size = w5.heap.size + 1 := by simp [World.setCell]
  have hV : Bf (own1 own w5.heap.size .map) (bs name) (((w5.alloc (.map #[] 0)).setCell ⟨db, 0, none⟩ (.map (some w5.heap.size))).drew) (.slice va f.b.length vc) f.b :=
    HV.out.kept (by rw [hsz]; omega) (fun g hg hlg => ⟨(hblk g (by omega) (fun e => by subst e; rw [H.out.disk] at hg; cases hg)).trans (hB.block g hlg), by rw [own1_other _ _ _ (by omega)]; exact hg⟩)
  obtain ⟨w1, r1, m1, g1, ho1, z1⟩ := (hm0.kept (w' := ((w5.alloc (.map #[] 0)).setCell ⟨db, 0, none⟩ (.map (some w5.heap.size))).drew) (own' := own1 own w5.heap.size .map) (Nat.le_refl _) (fun g _ _ _ => ⟨rfl, rfl⟩)).put (by simp [Sorted]) name (by omega) (by simp) _ f hV
  have hk3 : ∀ k, k < w5.heap.size → k ≠ db → w1.heap[k]? = w5.heap[k]? := fun k hk hne => (g1.block k (by rw [hsz]; omega) (fun e => by have := Option.some.inj e; omega)).trans (hblk k hk hne)
  have hdb : w1.heap[db]? = some (diskC (.map (some w5.heap.size)) s wv mo) := by
    rw [g1.block db (by rw [hsz]; omega) (fun e => by have := Option.some.inj e; omega)]
    show ((w5.alloc (.map #[] 0)).setCell ⟨db, 0, none⟩ (.map (some w5.heap.size))).heap[db]? = _
    have h5 := (Below.heap_alloc w5 (.map #[] 0) db (by omega)).trans HD.block
    simp only [World.setCell, Array.getElem?_modify, h5]
    simp [diskC]
  have c2 : w1.cell? ⟨db, 2, none⟩ = some (.int .i64 (usedF s.fs : Int)) := by rw [Lib.cell_of_heap hdb]; rfl
  have f2 : w1.frozen? ⟨db, 2, none⟩ = false := Lib.frozen_of_heap hdb 2
  have l1 : w1.cell? ⟨w.heap.size, 0, none⟩ = some (.slice va f.b.length vc) := (World.cell?_of_block (a := ⟨w.heap.size, 0, none⟩) (hk3 (w.heap.size) (by omega) (by omega))).trans k1
  have l2 : w1.cell? ⟨w.heap.size + 1, 0, none⟩ = some (.slice oa (getF s.fs (bs name)).b.length oc) := (World.cell?_of_block (a := ⟨w.heap.size + 1, 0, none⟩) (hk3 (w.heap.size + 1) (by omega) (by omega))).trans k2
  have d1 : ((w5.alloc (.map #[] 0)).setCell ⟨db, 0, none⟩ (.map (some w5.heap.size))).cell? ⟨w.heap.size, 0, none⟩ = some (.slice va f.b.length vc) := (World.cell?_of_block (a := ⟨w.heap.size, 0, none⟩) (hblk (w.heap.size) (by omega) (by omega))).trans k1
  have d2 : ((w5.alloc (.map #[] 0)).setCell ⟨db, 0, none⟩ (.map (some w5.heap.size))).cell? ⟨w.heap.size, 1, none⟩ = some (.int .i64 (f.s : Int)) := (World.cell?_of_block (a := ⟨w.heap.size, 1, none⟩) (hblk (w.heap.size) (by omega) (by omega))).trans k3
  have d3 : ((w5.alloc (.map #[] 0)).setCell ⟨db, 0, none⟩ (.map (some w5.heap.size))).cell? ⟨w.heap.size, 2, none⟩ = some (.bool f.u) := (World.cell?_of_block (a := ⟨w.heap.size, 2, none⟩) (hblk (w.heap.size) (by omega) (by omega))).trans k4
  have a0 := fun o => (cell_alloc w5 o 0 (by omega)).trans d0
  have a1 := fun o => (froz_alloc w5 o 0 (by omega)).trans f0
  have hfs2 := Lib.hid hfs
  have M1 := Lib.hid m1
  have G1 := Lib.hid g1
  have HDB := Lib.hid hdb
  have HB := Lib.hid hB
  have Z1 := Lib.hid (z1.trans hsz)
  have HS := Lib.hid hS
  have HBK := Lib.hid hblk
  clear m1 g1 HD hB hV z1 hsz b5 hk3 hfs hm0 hblk hdb hS ho1
  go_wp2
  go_region
  go_wp2
  go_region
  go_end0
  have hfs := hfs2.out
  have hm : MapAt (own1 own w5.heap.size .map) w1 (.map (some w5.heap.size)) (putF s.fs (bs name) f) := by rw [hfs]; exact M1.out
  have hsn := HS.out w5.heap.size (by omega)
  refine ⟨rfl, put_done (own := own1 own w5.heap.size .map) (mv := .map (some w5.heap.size)) (fun k hk => ?_) ?_ HDB.out H.out.brk hm HF.out HU.out, ?_⟩
  · by_cases e : k = w5.heap.size
    · subst e; exact ⟨hsn, by rw [Z1.out]; omega⟩
    · rw [own1_other _ _ _ e] at hk
      have := H.out.mine k hk
      exact ⟨this.1, by rw [Z1.out]; omega⟩
  · rw [own1_other _ _ _ (by omega)]; exact H.out.disk
  · have hdS := (H.out.mine db (by rw [H.out.disk]; simp)).1
    exact ((((Kept.of_below HB.out).alloc _).set (.inl hdS) _).trans (Kept.of_but (show ((w5.alloc (.map #[] 0)).setCell ⟨db, 0, none⟩ (.map (some w5.heap.size))).grownBy w1 (some w5.heap.size) from ⟨G1.out.os, G1.out.tape, G1.out.output, G1.out.size, G1.out.block⟩) hsn) |>.set (.inl hdS) _).drewN 1
/-- a file laid down -/
theorem put_any {own : Nat → Own} {S : Nat → Prop} {w : World} {db : Nat} {s : St} {mv : Value} {wv : Bool} {mo : Int} (h : DiskO own S w db s mv wv mo) (hS : ∀ k, w.heap.size ≤ k → S k) (name : ByteArray) (hn : name.size ≤ 281474976710656)
    {v : Value} {f : F} (hv : Bf own (bs name) w v f.b) (hc : s.fs.length ≤ 1099511627776) (hfit : Fit { s with fs := putF s.fs (bs name) f }) :
    Calls Try.prog 58 #[ptrV db, .string name, fileV v f] w fun e w' => e = .returned (.tuple #[]) ∧ DiskAt S w' db { s with fs := putF s.fs (bs name) f } ∧ Kept S w w' := by
  rcases h.map with ⟨rfl, hf⟩ | ⟨mb, D, rfl, _⟩
  · exact put_first h hS name hn hv hc hfit (by rw [hf]; rfl)
  · by_cases ht : (look s.fs (bs name)).isSome = true
    · exact put_there h name hn hv hc hfit ht
    · exact put_new h name hn hv hc hfit (by simpa using ht)
end Go.Proofs.Ytnffjoflkeagfaa
