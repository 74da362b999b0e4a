/- A file laid down, a file taken away. A file taken away; all files taken away. Bytes written behind a file; what a change does. -/
import Derived.Test.YtnffjoflkeagfaaGreatD1
import Derived.Test.YtnffjoflkeagfaaGreatShelf
namespace Go.Proofs.YtnffjoflkeagfaaGreat
open Go.RowKit Go.Maps

theorem clone_any (s : ByteArray) (w : World) (hlim : s.size ≤ 281474976710656) :
    Calls Tryz.prog 32 #[.string s] w fun e w' => e = .returned (.string s) ∧ Below w.heap.size w w' := by
  go_enter Tryz.func32, Tryz.ntmps32
  go_wp2_with fail
  refine (Tryz.stringslite_Clone s _ hlim).mono ?_
  rintro e w1 ⟨rfl, hb⟩
  go_wp2
  go_ret
  exact ⟨rfl, hb⟩
/-- the files laid down, their bytes counted anew -/
theorem put_done {own : Nat → Own} {S : Nat → Prop} {w1 : World} {db : Nat} {s : St} {mv : Value} {wv : Bool} {mo : Int} {fs : Fs} {z : Int} (mine : ∀ k, own k ≠ .no → S k ∧ k < w1.heap.size) (hd : own db = .disk)
    (hb : w1.heap[db]? = some (diskC mv s wv mo)) (hbrk : s.down = false → wv = s.waits ∧ (s.waits = true → mo = (s.more : Int))) (hm : MapAt own w1 mv fs) (hfit : Fit { s with fs := fs }) (hz : z = (usedF fs : Nat)) :
    DiskAt S ((w1.setCell ⟨db, 2, none⟩ (.int .i64 z)).drew) db { s with fs := fs } := by
  subst hz
  refine ⟨own, mv, wv, mo, fun k hk => ⟨(mine k hk).1, by simp [World.setCell]; exact (mine k hk).2⟩, hd, ?_, hbrk, ?_, hfit⟩
  · show (w1.setCell ⟨db, 2, none⟩ (.int .i64 (usedF fs : Nat))).heap[db]? = _
    simp [World.setCell, Array.getElem?_modify, hb, diskC]
  · exact hm.reblock (by simp [World.setCell]) hd (fun k hk => Below.heap_setCell _ _ _ _ hk)
theorem put_kept {S : Nat → Prop} {w w6 w1 : World} {mb db : Nat} {v : Value} (hb : Kept S w w6) (hg : w6.grownBy w1 (some mb)) (hm : S mb) (hd : S db) : Kept S w ((w1.setCell ⟨db, 2, none⟩ v).drew) :=
  ((hb.trans (Kept.of_but hg hm)).set (.inl hd) _).drewN 1
set_option maxRecDepth 100000 in
set_option maxHeartbeats 2000000 in
theorem put_there {own : Nat → Own} {S : Nat → Prop} {w : World} {db : Nat} {s : St} {mb : Nat} {wv : Bool} {mo : Int} (h : DiskO own S w db s (.map (some mb)) wv mo) (name : ByteArray) (hn : name.size ≤ 281474976710656)
    {v : Value} {f : F} (hv : Bf own (bs name) w v f.b) (hc : s.fs.length ≤ 1099511627776) (hfit : Fit { s with fs := putF s.fs (bs name) f }) (ht : (look s.fs (bs name)).isSome = true) :
    Calls Tryz.prog 47 #[ptrV db, .string name, fileV v f] w fun e w' => e = .returned (.tuple #[]) ∧ DiskAt S w' db { s with fs := putF s.fs (bs name) f } ∧ Kept S w w' := by
  have hlt := h.lt
  obtain ⟨ov, hof, hl⟩ := h.map.look name (by omega)
  obtain ⟨va, vc, rfl⟩ := hv.slice
  obtain ⟨oa, oc, rfl⟩ := hof.slice
  have c0a := fun o => (cell_alloc w o 0 hlt).trans h.c0
  have c0 := h.c0
  have hl1 := fun o => (hl (w.alloc o) (fun g hg => Below.heap_alloc w o g (h.mine g (by rw [hg]; simp)).2)).2
  rw [ht] at hl1
  have H := Lib.hid h
  have HV := Lib.hid hv
  have HO := Lib.hid hof
  have HF := Lib.hid hfit
  have HT := Lib.hid ht
  clear h hl hof hv hfit ht
  have hmn := fun w => run_eql_map_nil (P := Tryz.prog) w 51 _ _ (some mb) Tryz.underlying51
  have c0b := fun o o' => (cell_alloc (w.alloc o) o' 0 (by simp; omega)).trans (c0a o)
  have hB : Below w.heap.size w (((w.alloc (.cells #[.slice va f.b.length vc, .int .i64 (f.s : Int), .bool f.u] 68)).alloc (.cells #[.slice oa (getF s.fs (bs name)).b.length oc, .int .i64 ((getF s.fs (bs name)).s : Int), .bool (getF s.fs (bs name)).u] 68)).drew) :=
    (((Below.refl _ _).alloc (Nat.le_refl _) _).alloc (by simp) _).drew
  have HD := H.out.below hB
  have hV := HV.out.kept (own' := own) hB.size (fun g hg _ => ⟨hB.block g (H.out.mine g (by rw [hg]; simp)).2, hg⟩)
  obtain ⟨w1, r1, m1, g1, ho1, z1⟩ := HD.map.put HD.fit.sorted name (by omega) (by have := hc; show s.fs.length < _; omega) _ f hV
  have hne : db ≠ mb := fun e => by subst e; rw [H.out.disk] at ho1; cases ho1
  have hs6 : (((w.alloc (.cells #[.slice va f.b.length vc, .int .i64 (f.s : Int), .bool f.u] 68)).alloc (.cells #[.slice oa (getF s.fs (bs name)).b.length oc, .int .i64 ((getF s.fs (bs name)).s : Int), .bool (getF s.fs (bs name)).u] 68)).drew).heap.size = w.heap.size + 2 := by simp
  have hml : mb < w.heap.size := (H.out.mine mb (by rw [ho1]; simp)).2
  have hk1 : w.heap.size ≠ mb := by omega
  have hk2 : w.heap.size + 1 ≠ mb := by omega
  have c2 : w1.cell? ⟨db, 2, none⟩ = some (.int .i64 (usedF s.fs : Int)) := (World.cell?_of_block (a := ⟨db, 2, none⟩) (g1.block db (by omega) (by simpa using hne))).trans HD.c2
  have f2 : w1.frozen? ⟨db, 2, none⟩ = false := (World.frozen?_of_block (a := ⟨db, 2, none⟩) (g1.block db (by omega) (by simpa using hne))).trans (HD.f 2)
  have k1 : w1.cell? ⟨w.heap.size, 0, none⟩ = some (.slice va f.b.length vc) := (World.cell?_of_block (a := ⟨w.heap.size, 0, none⟩) (g1.block w.heap.size (by rw [hs6]; omega) (fun e => hk1 (Option.some.inj e)))).trans (by simp)
  have k2 : w1.cell? ⟨w.heap.size + 1, 0, none⟩ = some (.slice oa (getF s.fs (bs name)).b.length oc) := (World.cell?_of_block (a := ⟨w.heap.size + 1, 0, none⟩) (g1.block (w.heap.size + 1) (by rw [hs6]; omega) (fun e => hk2 (Option.some.inj e)))).trans (by simp)
  have hu := used_put H.out.fit.sorted (bs name) f
  have hr := H.out.fit.room
  have hri := H.out.fit.roomI
  have hfr : usedF (putF s.fs (bs name) f) ≤ s.room := HF.out.room
  have hol := get_le s.fs (bs name)
  have HU : Hid ((usedF s.fs : Int) + ((f.b.length : Int) - ((getF s.fs (bs name)).b.length : Int)) = (usedF (putF s.fs (bs name) f) : Nat)) := by show _ = _; omega
  have M1 := Lib.hid m1
  have G1 := Lib.hid g1
  have HDh := Lib.hid HD
  have HB := Lib.hid hB
  have Z1 := Lib.hid (z1.trans hs6)
  clear m1 g1 HD hB hV z1 hs6
  go_enter Tryz.func47, Tryz.ntmps47
  go_wp2
  go_region
  go_wp2
  go_region
  go_end0
  refine ⟨rfl, put_done (own := own) (mv := .map (some mb)) (fun k hk => ⟨(H.out.mine k hk).1, ?_⟩) H.out.disk ?_ H.out.brk M1.out HF.out HU.out, put_kept (Kept.of_below HB.out) G1.out (H.out.mine mb (by rw [ho1]; simp)).1 (H.out.mine db (by rw [H.out.disk]; simp)).1⟩
  · rw [Z1.out]; have := (H.out.mine k hk).2; omega
  · exact (G1.out.block db HDh.out.lt (by simpa using hne)).trans HDh.out.block
/-- a new map -/
theorem map_new (own : Nat → Own) (w : World) (db : Nat) (v : Value) (hd : db < w.heap.size) :
    MapAt (own1 own w.heap.size .map) ((w.alloc (.map #[] 0)).setCell ⟨db, 0, none⟩ v) (.map (some w.heap.size)) [] := by
  have h1 := World.ownsMap_made w Tryz.prog 9 Rv
  have h2 := h1.setCell (a := ⟨db, 0, none⟩) (by simp; omega) v
  exact .inr ⟨w.heap.size, .map [], rfl, own1_same _ _ _, h2, fun k => rfl, fun k f hf => by cases hf⟩
set_option maxRecDepth 100000 in
set_option maxHeartbeats 2000000 in
theorem put_new {own : Nat → Own} {S : Nat → Prop} {w : World} {db : Nat} {s : St} {mb : Nat} {wv : Bool} {mo : Int} (h : DiskO own S w db s (.map (some mb)) wv mo) (name : ByteArray) (hn : name.size ≤ 281474976710656)
    {v : Value} {f : F} (hv : Bf own (bs name) w v f.b) (hc : s.fs.length ≤ 1099511627776) (hfit : Fit { s with fs := putF s.fs (bs name) f }) (ht : (look s.fs (bs name)).isSome = false) :
    Calls Tryz.prog 47 #[ptrV db, .string name, fileV v f] w fun e w' => e = .returned (.tuple #[]) ∧ DiskAt S w' db { s with fs := putF s.fs (bs name) f } ∧ Kept S w w' := by
  have hlt := h.lt
  obtain ⟨ov, hof, hl⟩ := h.map.look name (by omega)
  obtain ⟨va, vc, rfl⟩ := hv.slice
  obtain ⟨oa, oc, rfl⟩ := hof.slice
  have c0a := fun o => (cell_alloc w o 0 hlt).trans h.c0
  have c0 := h.c0
  have hl1 := fun o => (hl (w.alloc o) (fun g hg => Below.heap_alloc w o g (h.mine g (by rw [hg]; simp)).2)).2
  rw [ht] at hl1
  have H := Lib.hid h
  have HV := Lib.hid hv
  have HO := Lib.hid hof
  have HF := Lib.hid hfit
  have HT := Lib.hid ht
  clear h hl hof hv hfit ht
  have hmn := fun w => run_eql_map_nil (P := Tryz.prog) w 51 _ _ (some mb) Tryz.underlying51
  have hcl := fun w => clone_any name w hn
  have hu := used_put H.out.fit.sorted (bs name) f
  have hr := H.out.fit.room
  have hri := H.out.fit.roomI
  have hfr : usedF (putF s.fs (bs name) f) ≤ s.room := HF.out.room
  have hol := get_le s.fs (bs name)
  have HU : Hid ((usedF s.fs : Int) + ((f.b.length : Int) - ((getF s.fs (bs name)).b.length : Int)) = (usedF (putF s.fs (bs name) f) : Nat)) := by show _ = _; omega
  go_enter Tryz.func47, Tryz.ntmps47
  go_wp2_with fail
  refine (hcl _).mono ?_
  rintro e w5 ⟨rfl, b5⟩
  have hB : Below w.heap.size w w5 := (((Below.refl _ _).alloc (Nat.le_refl _) _).alloc (by simp) _).trans (b5.mono (by simp; omega))
  have hs5 : w.heap.size + 2 ≤ w5.heap.size := by have := b5.size; simpa using this
  have k1 : w5.cell? ⟨w.heap.size, 0, none⟩ = some (.slice va f.b.length vc) := (b5.cell (p := ⟨w.heap.size, 0, none⟩) (by simp; omega)).trans (by simp)
  have k2 : w5.cell? ⟨w.heap.size + 1, 0, none⟩ = some (.slice oa (getF s.fs (bs name)).b.length oc) := (b5.cell (p := ⟨w.heap.size + 1, 0, none⟩) (by simp)).trans (by simp)
  have k3 : w5.cell? ⟨w.heap.size, 1, none⟩ = some (.int .i64 (f.s : Int)) := (b5.cell (p := ⟨w.heap.size, 1, none⟩) (by simp; omega)).trans (by simp)
  have k4 : w5.cell? ⟨w.heap.size, 2, none⟩ = some (.bool f.u) := (b5.cell (p := ⟨w.heap.size, 2, none⟩) (by simp; omega)).trans (by simp)
  have HD := H.out.below hB
  have d0 := HD.c0
  have hV := HV.out.kept (own' := own) hB.size (fun g hg _ => ⟨hB.block g (H.out.mine g (by rw [hg]; simp)).2, hg⟩)
  obtain ⟨w1, r1, m1, g1, ho1, z1⟩ := (HD.below ((Below.refl _ _).drew (w := w5))).map.put HD.fit.sorted name (by omega) (by omega) _ f (hV.kept (w' := w5.drew) (own' := own) (Nat.le_refl _) (fun g hg _ => ⟨rfl, hg⟩))
  have hne : db ≠ mb := fun e => by subst e; rw [H.out.disk] at ho1; cases ho1
  have hml : mb < w.heap.size := (H.out.mine mb (by rw [ho1]; simp)).2
  have hk1 : w.heap.size ≠ mb := by omega
  have hk2 : w.heap.size + 1 ≠ mb := by omega
  have hk3 : ∀ k, k < w5.heap.size → k ≠ mb → w1.heap[k]? = w5.heap[k]? := fun k hk hne => g1.block k hk (fun e => hne (Option.some.inj e))
  have c2 : w1.cell? ⟨db, 2, none⟩ = some (.int .i64 (usedF s.fs : Int)) := (World.cell?_of_block (a := ⟨db, 2, none⟩) (hk3 db (by omega) hne)).trans HD.c2
  have f2 : w1.frozen? ⟨db, 2, none⟩ = false := (World.frozen?_of_block (a := ⟨db, 2, none⟩) (hk3 db (by omega) hne)).trans (HD.f 2)
  have l1 : w1.cell? ⟨w.heap.size, 0, none⟩ = some (.slice va f.b.length vc) := (World.cell?_of_block (a := ⟨w.heap.size, 0, none⟩) (hk3 (w.heap.size) (by omega) hk1)).trans k1
  have l2 : w1.cell? ⟨w.heap.size + 1, 0, none⟩ = some (.slice oa (getF s.fs (bs name)).b.length oc) := (World.cell?_of_block (a := ⟨w.heap.size + 1, 0, none⟩) (hk3 (w.heap.size + 1) (by omega) hk2)).trans k2
  have M1 := Lib.hid m1
  have G1 := Lib.hid g1
  have HDh := Lib.hid HD
  have HB := Lib.hid hB
  have Z1 := Lib.hid (show w1.heap.size = w5.heap.size from z1)
  clear m1 g1 HD hB hV z1 b5 hk3
  go_wp2
  go_region
  go_wp2
  go_region
  go_end0
  refine ⟨rfl, put_done (own := own) (mv := .map (some mb)) (fun k hk => ⟨(H.out.mine k hk).1, ?_⟩) H.out.disk ?_ H.out.brk M1.out HF.out HU.out, put_kept (Kept.of_below HB.out) (show w5.grownBy w1 (some mb) from ⟨G1.out.os, G1.out.tape, G1.out.output, G1.out.size, G1.out.block⟩) (H.out.mine mb (by rw [ho1]; simp)).1 (H.out.mine db (by rw [H.out.disk]; simp)).1⟩
  · rw [Z1.out]; have := (H.out.mine k hk).2; omega
  · exact (G1.out.block db HDh.out.lt (by simpa using hne)).trans HDh.out.block
set_option maxRecDepth 100000 in
set_option maxHeartbeats 2000000 in
theorem put_first {own : Nat → Own} {S : Nat → Prop} {w : World} {db : Nat} {s : St} {wv : Bool} {mo : Int} (h : DiskO own S w db s (.map none) wv mo) (hS : ∀ k, w.heap.size ≤ k → S k) (name : ByteArray) (hn : name.size ≤ 281474976710656)
    {v : Value} {f : F} (hv : Bf own (bs name) w v f.b) (_hc : s.fs.length ≤ 1099511627776) (hfit : Fit { s with fs := putF s.fs (bs name) f }) (ht : (look s.fs (bs name)).isSome = false) :
    Calls Tryz.prog 47 #[ptrV db, .string name, fileV v f] w fun e w' => e = .returned (.tuple #[]) ∧ DiskAt S w' db { s with fs := putF s.fs (bs name) f } ∧ Kept S w w' := by
  have hlt := h.lt
  obtain ⟨ov, hof, hl⟩ := h.map.look name (by omega)
  obtain ⟨va, vc, rfl⟩ := hv.slice
  obtain ⟨oa, oc, rfl⟩ := hof.slice
  have c0a := fun o => (cell_alloc w o 0 hlt).trans h.c0
  have c0 := h.c0
  have hl1 := fun o => (hl (w.alloc o) (fun g hg => Below.heap_alloc w o g (h.mine g (by rw [hg]; simp)).2)).2
  rw [ht] at hl1
  have H := Lib.hid h
  have HV := Lib.hid hv
  have HO := Lib.hid hof
  have HF := Lib.hid hfit
  have HT := Lib.hid ht
  clear h hl hof hv hfit ht
  have hmn := fun w => run_eql_map_nil (P := Tryz.prog) w 51 _ _ none Tryz.underlying51
  have hmm := @run_makeMap Tryz.prog
  have hcl := fun w => clone_any name w hn
  have hu := used_put H.out.fit.sorted (bs name) f
  have hr := H.out.fit.room
  have hri := H.out.fit.roomI
  have hfr : usedF (putF s.fs (bs name) f) ≤ s.room := HF.out.room
  have hol := get_le s.fs (bs name)
  have HU : Hid ((usedF s.fs : Int) + ((f.b.length : Int) - ((getF s.fs (bs name)).b.length : Int)) = (usedF (putF s.fs (bs name) f) : Nat)) := by show _ = _; omega
  go_enter Tryz.func47, Tryz.ntmps47
  go_wp2_with fail
  refine (hcl _).mono ?_
  rintro e w5 ⟨rfl, b5⟩
  have hB : Below w.heap.size w w5 := (((Below.refl _ _).alloc (Nat.le_refl _) _).alloc (by simp) _).trans (b5.mono (by simp; omega))
  have hs5 : w.heap.size + 2 ≤ w5.heap.size := by have := b5.size; simpa using this
  have k1 : w5.cell? ⟨w.heap.size, 0, none⟩ = some (.slice va f.b.length vc) := (b5.cell (p := ⟨w.heap.size, 0, none⟩) (by simp; omega)).trans (by simp)
  have k2 : w5.cell? ⟨w.heap.size + 1, 0, none⟩ = some (.slice oa (getF s.fs (bs name)).b.length oc) := (b5.cell (p := ⟨w.heap.size + 1, 0, none⟩) (by simp)).trans (by simp)
  have k3 : w5.cell? ⟨w.heap.size, 1, none⟩ = some (.int .i64 (f.s : Int)) := (b5.cell (p := ⟨w.heap.size, 1, none⟩) (by simp; omega)).trans (by simp)
  have k4 : w5.cell? ⟨w.heap.size, 2, none⟩ = some (.bool f.u) := (b5.cell (p := ⟨w.heap.size, 2, none⟩) (by simp; omega)).trans (by simp)
  have HD := H.out.below hB
  have d0 := HD.c0
  have f0 := HD.f 0
  have hfs : s.fs = [] := by
    rcases H.out.map with h | ⟨_, _, h, _⟩
    · exact h.2
    · cases h
  have hm0 := map_new own w5 db (.map (some w5.heap.size)) (by omega)
  have hblk : ∀ k, k < w5.heap.size → k ≠ db → (((w5.alloc (.map #[] 0)).setCell ⟨db, 0, none⟩ (.map (some w5.heap.size))).drew).heap[k]? = w5.heap[k]? := fun k hk hne => (Below.heap_setCell _ _ _ _ hne).trans (Below.heap_alloc _ _ _ hk)
  have hsz : (((w5.alloc (.map #[] 0)).setCell ⟨db, 0, none⟩ (.map (some w5.heap.size))).drew).heap.size = w5.heap.size + 1 := by simp [World.setCell]
  have hV : Bf (own1 own w5.heap.size .map) (bs name) (((w5.alloc (.map #[] 0)).setCell ⟨db, 0, none⟩ (.map (some w5.heap.size))).drew) (.slice va f.b.length vc) f.b :=
    HV.out.kept (by rw [hsz]; omega) (fun g hg hlg => ⟨(hblk g (by omega) (fun e => by subst e; rw [H.out.disk] at hg; cases hg)).trans (hB.block g hlg), by rw [own1_other _ _ _ (by omega)]; exact hg⟩)
  obtain ⟨w1, r1, m1, g1, ho1, z1⟩ := (hm0.kept (w' := ((w5.alloc (.map #[] 0)).setCell ⟨db, 0, none⟩ (.map (some w5.heap.size))).drew) (own' := own1 own w5.heap.size .map) (Nat.le_refl _) (fun g _ _ _ => ⟨rfl, rfl⟩)).put (by simp [Sorted]) name (by omega) (by simp) _ f hV
  have hk3 : ∀ k, k < w5.heap.size → k ≠ db → w1.heap[k]? = w5.heap[k]? := fun k hk hne => (g1.block k (by rw [hsz]; omega) (fun e => by have := Option.some.inj e; omega)).trans (hblk k hk hne)
  have hdb : w1.heap[db]? = some (diskC (.map (some w5.heap.size)) s wv mo) := by
    rw [g1.block db (by rw [hsz]; omega) (fun e => by have := Option.some.inj e; omega)]
    show ((w5.alloc (.map #[] 0)).setCell ⟨db, 0, none⟩ (.map (some w5.heap.size))).heap[db]? = _
    have h5 := (Below.heap_alloc w5 (.map #[] 0) db (by omega)).trans HD.block
    simp only [World.setCell, Array.getElem?_modify, h5]
    simp [diskC]
  have c2 : w1.cell? ⟨db, 2, none⟩ = some (.int .i64 (usedF s.fs : Int)) := by rw [Lib.cell_of_heap hdb]; rfl
  have f2 : w1.frozen? ⟨db, 2, none⟩ = false := Lib.frozen_of_heap hdb 2
  have l1 : w1.cell? ⟨w.heap.size, 0, none⟩ = some (.slice va f.b.length vc) := (World.cell?_of_block (a := ⟨w.heap.size, 0, none⟩) (hk3 (w.heap.size) (by omega) (by omega))).trans k1
  have l2 : w1.cell? ⟨w.heap.size + 1, 0, none⟩ = some (.slice oa (getF s.fs (bs name)).b.length oc) := (World.cell?_of_block (a := ⟨w.heap.size + 1, 0, none⟩) (hk3 (w.heap.size + 1) (by omega) (by omega))).trans k2
  have d1 : ((w5.alloc (.map #[] 0)).setCell ⟨db, 0, none⟩ (.map (some w5.heap.size))).cell? ⟨w.heap.size, 0, none⟩ = some (.slice va f.b.length vc) := (World.cell?_of_block (a := ⟨w.heap.size, 0, none⟩) (hblk (w.heap.size) (by omega) (by omega))).trans k1
  have d2 : ((w5.alloc (.map #[] 0)).setCell ⟨db, 0, none⟩ (.map (some w5.heap.size))).cell? ⟨w.heap.size, 1, none⟩ = some (.int .i64 (f.s : Int)) := (World.cell?_of_block (a := ⟨w.heap.size, 1, none⟩) (hblk (w.heap.size) (by omega) (by omega))).trans k3
  have d3 : ((w5.alloc (.map #[] 0)).setCell ⟨db, 0, none⟩ (.map (some w5.heap.size))).cell? ⟨w.heap.size, 2, none⟩ = some (.bool f.u) := (World.cell?_of_block (a := ⟨w.heap.size, 2, none⟩) (hblk (w.heap.size) (by omega) (by omega))).trans k4
  have a0 := fun o => (cell_alloc w5 o 0 (by omega)).trans d0
  have a1 := fun o => (froz_alloc w5 o 0 (by omega)).trans f0
  have hfs2 := Lib.hid hfs
  have M1 := Lib.hid m1
  have G1 := Lib.hid g1
  have HDB := Lib.hid hdb
  have HB := Lib.hid hB
  have Z1 := Lib.hid (z1.trans hsz)
  have HS := Lib.hid hS
  have HBK := Lib.hid hblk
  clear m1 g1 HD hB hV z1 hsz b5 hk3 hfs hm0 hblk hdb hS ho1
  go_wp2
  go_region
  go_wp2
  go_region
  go_end0
  have hfs := hfs2.out
  have hm : MapAt (own1 own w5.heap.size .map) w1 (.map (some w5.heap.size)) (putF s.fs (bs name) f) := by rw [hfs]; exact M1.out
  have hsn := HS.out w5.heap.size (by omega)
  refine ⟨rfl, put_done (own := own1 own w5.heap.size .map) (mv := .map (some w5.heap.size)) (fun k hk => ?_) ?_ HDB.out H.out.brk hm HF.out HU.out, ?_⟩
  · by_cases e : k = w5.heap.size
    · subst e; exact ⟨hsn, by rw [Z1.out]; omega⟩
    · rw [own1_other _ _ _ e] at hk
      have := H.out.mine k hk
      exact ⟨this.1, by rw [Z1.out]; omega⟩
  · rw [own1_other _ _ _ (by omega)]; exact H.out.disk
  · have hdS := (H.out.mine db (by rw [H.out.disk]; simp)).1
    exact ((((Kept.of_below HB.out).alloc _).set (.inl hdS) _).trans (Kept.of_but (show ((w5.alloc (.map #[] 0)).setCell ⟨db, 0, none⟩ (.map (some w5.heap.size))).grownBy w1 (some w5.heap.size) from ⟨G1.out.os, G1.out.tape, G1.out.output, G1.out.size, G1.out.block⟩) hsn) |>.set (.inl hdS) _).drewN 1
/-- a file laid down -/
theorem put_any {own : Nat → Own} {S : Nat → Prop} {w : World} {db : Nat} {s : St} {mv : Value} {wv : Bool} {mo : Int} (h : DiskO own S w db s mv wv mo) (hS : ∀ k, w.heap.size ≤ k → S k) (name : ByteArray) (hn : name.size ≤ 281474976710656)
    {v : Value} {f : F} (hv : Bf own (bs name) w v f.b) (hc : s.fs.length ≤ 1099511627776) (hfit : Fit { s with fs := putF s.fs (bs name) f }) :
    Calls Tryz.prog 47 #[ptrV db, .string name, fileV v f] w fun e w' => e = .returned (.tuple #[]) ∧ DiskAt S w' db { s with fs := putF s.fs (bs name) f } ∧ Kept S w w' := by
  rcases h.map with ⟨rfl, hf⟩ | ⟨mb, D, rfl, _⟩
  · exact put_first h hS name hn hv hc hfit (by rw [hf]; rfl)
  · by_cases ht : (look s.fs (bs name)).isSome = true
    · exact put_there h name hn hv hc hfit ht
    · exact put_new h name hn hv hc hfit (by simpa using ht)
end Go.Proofs.YtnffjoflkeagfaaGreat
namespace Go.Proofs.YtnffjoflkeagfaaGreat
open Go.RowKit Go.Maps Go.ChangeMaps Go.MapKept

set_option maxRecDepth 100000 in
set_option maxHeartbeats 2000000 in
theorem remove_any {own : Nat → Own} {S : Nat → Prop} {w : World} {db : Nat} {s : St} {mv : Value} {wv : Bool} {mo : Int} (h : DiskO own S w db s mv wv mo) (name : ByteArray) (hn : name.size ≤ 281474976710656) :
    Calls Tryz.prog 70 #[ptrV db, .string name] w fun e w' => e = .returned (.tuple #[]) ∧ DiskAt S w' db { s with fs := delF s.fs (bs name) } ∧ Kept S w w' := by
  have hlt := h.lt
  obtain ⟨ov, hof, hl⟩ := h.map.look name (by omega)
  obtain ⟨oa, oc, rfl⟩ := hof.slice
  have c0 := h.c0
  have c2 := h.c2
  have f2 := h.f 2
  have hl1 : (Instr.lookup 51 mv (.string name) false).run Tryz.prog w.drew = .ok (.agg #[.slice oa (getF s.fs (bs name)).b.length oc, .int .i64 ((getF s.fs (bs name)).s : Int), .bool (getF s.fs (bs name)).u]) w.drew := (hl w.drew (fun g _ => rfl)).1
  have hfl : ∀ (w : World) (a : Option Addr) (n c : Nat) (x y : Value), (Instr.field 68 (.agg #[.slice a n c, x, y]) 0).run Tryz.prog w = .ok (.slice a n c) w := fun w a n c x y => by kernel_rfl
  have hu := used_del h.fit.sorted (bs name)
  have hr := h.fit.room
  have hri := h.fit.roomI
  have hol := get_le s.fs (bs name)
  have HU : Hid ((usedF s.fs : Int) - ((getF s.fs (bs name)).b.length : Int) = (usedF (delF s.fs (bs name)) : Nat)) := by show _ = _; omega
  have hblk : ∀ k, k ≠ db → ((w.setCell ⟨db, 2, none⟩ (.int .i64 ((usedF s.fs : Int) - ((getF s.fs (bs name)).b.length : Int)))).drew).heap[k]? = w.heap[k]? := fun k hne => Below.heap_setCell _ _ _ _ hne
  have hsz : ((w.setCell ⟨db, 2, none⟩ (.int .i64 ((usedF s.fs : Int) - ((getF s.fs (bs name)).b.length : Int)))).drew).heap.size = w.heap.size := by show (w.setCell _ _).heap.size = _; simp [World.setCell]
  obtain ⟨w2, r2, m2, z2, os2, tp2, ou2, b2⟩ := (h.map.reblock hsz h.disk hblk).del h.fit.sorted name (by omega) 0
  have M2 := Lib.hid m2
  have H := Lib.hid h
  have HB := Lib.hid b2
  have HK := Lib.hid hblk
  have HX := Lib.hid (And.intro (z2.trans hsz) (And.intro os2 (And.intro tp2 ou2)))
  clear h hl hof m2 b2 hblk z2 hsz os2 tp2 ou2
  go_enter Tryz.func70, Tryz.ntmps70
  go_wp2
  go_region
  go_wp2
  go_end0
  obtain ⟨hz, ho, htp, hou⟩ := HX.out
  refine ⟨rfl, ⟨own, mv, wv, mo, fun k hk => ⟨(H.out.mine k hk).1, by rw [hz]; exact (H.out.mine k hk).2⟩, H.out.disk, ?_, H.out.brk, M2.out, fit_del H.out.fit rfl _ _ _ H.out.fit.moreI⟩, ⟨ho, htp, hou, by omega, fun k hk hns => ?_⟩⟩
  · rw [HB.out db (by rw [H.out.disk]; simp)]
    show (w.setCell ⟨db, 2, none⟩ _).heap[db]? = _
    have hb := H.out.block
    rw [HU.out]
    simp [World.setCell, Array.getElem?_modify, hb, diskC]
  · have hko : own k = .no := by
      cases e : own k <;> first | rfl | exact absurd (H.out.mine k (by rw [e]; simp)).1 hns
    rw [HB.out k (by rw [hko]; simp)]
    exact HK.out k (fun e => by subst e; rw [H.out.disk] at hko; cases hko)
/-- all files gone from the map -/
theorem MapAt.clear {own : Nat → Own} {w : World} {mv : Value} {fs : Fs} (h : MapAt own w mv fs) (ty : TypeId) :
    ∃ w', (Builtin.clear_ #[51] ty #[mv]).run Tryz.prog w = .ok (.tuple #[]) w' ∧ MapAt own w' mv [] ∧ w'.heap.size = w.heap.size ∧
      w'.os = w.os ∧ w'.tape = w.tape ∧ w'.output = w.output ∧ ∀ k, own k ≠ .map → w'.heap[k]? = w.heap[k]? := by
  rcases h with ⟨rfl, rfl⟩ | ⟨mb, D, rfl, h1, h2, h3, h4⟩
  · exact ⟨w, by simp [Builtin.clear_, run_underlying Tryz.underlying51, Result.andThen], .inl ⟨rfl, rfl⟩, rfl, rfl, rfl, rfl, fun _ _ => rfl⟩
  · obtain ⟨es, clock, hb, F, hs, rfl⟩ := h2
    refine ⟨ChangeMaps.setBlock w mb (.map #[] clock), ?_, .inr ⟨mb, .map [], rfl, h1, ⟨#[], clock, heap_setBlock_same hb _, ⟨by simp, stamped_empty clock, by simp⟩, by simp, rfl⟩, fun k => rfl, fun k f hf => by cases hf⟩, by simp [ChangeMaps.setBlock], rfl, rfl, rfl, fun k hk => heap_setBlock_other hb _ (fun e => hk (by rw [e]; exact h1))⟩
    simp [Builtin.clear_, run_underlying Tryz.underlying51, MapKept.run_getObj_map hb, MapKept.run_setObj_map _ hb, Result.andThen]
    rfl
end Go.Proofs.YtnffjoflkeagfaaGreat
namespace Go.Proofs.YtnffjoflkeagfaaGreat
open Go.RowKit Go.Maps

theorem Bf.behind {own : Nat → Own} {k k' : List UInt8} {w w' : World} {v : Value} {l : List UInt8} {g n : Nat} (h : Bf own k w v l) (hb : Behind g n w w') (hg : own g = .file k') (hk : k ≠ k' ∨ l.length ≤ n) : Bf own k w' v l := by
  obtain ⟨_, _, _, hs, hblk, hin, hcell⟩ := hb
  rcases h with h | ⟨g', cap, rfl, h1, h2, h3, h4, h5⟩
  · exact .inl h
  · by_cases e : g' = g
    · subst e
      have hkk : k = k' := by rw [h1] at hg; injection hg
      have hn : l.length ≤ n := hk.resolve_left (fun h => h hkk)
      refine .inr ⟨g', cap, rfl, h1, by omega, h3, fun j hj => ?_, fun j hj => ?_⟩
      · rw [hin j (by omega)]; exact h4 j hj
      · have := hcell j (h5 j hj).1
        exact ⟨this.1, this.2.trans (h5 j hj).2⟩
    · have e1 := hblk g' h2 e
      refine .inr ⟨g', cap, rfl, h1, by omega, h3, fun j hj => ?_, fun j hj => ?_⟩
      · rw [World.cell?_of_block (a := ⟨g', j, none⟩) e1]; exact h4 j hj
      · rw [World.cell?_of_block (a := ⟨g', j, none⟩) e1, World.frozen?_of_block (a := ⟨g', j, none⟩) e1]; exact h5 j hj
/-- more bytes behind a file's, ahead of its being laid down -/
theorem append_disk {own : Nat → Own} {S : Nat → Prop} {w : World} {db : Nat} {s : St} {mv : Value} {wv : Bool} {mo : Int} (h : DiskO own S w db s mv wv mo) (hS : ∀ k, w.heap.size ≤ k → S k) (k : List UInt8) {v : Value}
    (hv : Bf own k w v (getF s.fs k).b) (x : ByteArray) (hlim : (getF s.fs k).b.length + x.size ≤ 140737488355328) :
    ∃ v' w' own', (Builtin.append_ #[66, 9] 66 #[v, .string x]).run Tryz.prog w = .ok v' w' ∧ DiskO own' S w' db s mv wv mo ∧ Bf own' k w' v' ((getF s.fs k).b ++ bs x) ∧ Kept S w w' ∧
      ∀ j, own j = .no → j < w.heap.size → own' j = .no ∧ w'.heap[j]? = w.heap[j]? := by
  obtain ⟨i0, hi, hz0, hz1, hz2⟩ := info_parts (show (Tryz.prog.info? 5).map (fun i => (i.zero, i.size, i.bytes)) = some (some (.int .u8 0), 1, 1) by kernel_rfl)
  obtain ⟨v', w', hrun, hc⟩ := run_append_bf (P := Tryz.prog) 66 9 66 5 i0 Tryz.underlying66 Tryz.underlying9 hi hz0 hz1 hz2 hv x hlim
  rcases hc with ⟨hb, hlt, hbf⟩ | ⟨rfl, hbf⟩ | ⟨g, hg, hb, hsz, hbf, cap, rfl⟩
  · refine ⟨v', w', _, hrun, ?_, hbf, Kept.of_below hb, fun j hj hlj => ⟨by rw [own1_other _ _ _ (by omega)]; exact hj, hb.block j hlj⟩⟩
    refine ⟨fun j hj => ?_, ?_, (hb.block db h.lt).trans h.block, h.brk, h.map.kept hb.size (fun g _ hg _ => ⟨hb.block g hg, own1_other _ _ _ (by omega)⟩), h.fit⟩
    · by_cases e : j = w.heap.size
      · subst e; exact ⟨hS _ (Nat.le_refl _), hlt⟩
      · rw [own1_other _ _ _ e] at hj
        have := h.mine j hj
        exact ⟨this.1, by omega⟩
    · rw [own1_other _ _ _ (by have := h.lt; omega)]; exact h.disk
  · exact ⟨v', w', own, hrun, h, hbf, Kept.refl _ _, fun j hj _ => ⟨hj, rfl⟩⟩
  · have hb' := hb
    obtain ⟨h1, h2, h3, h4, hblk, _, _⟩ := hb'
    have hgs := (h.mine g (by rw [hg]; simp)).1
    refine ⟨v', w', own, hrun, ⟨fun j hj => ⟨(h.mine j hj).1, by rw [hsz]; exact (h.mine j hj).2⟩, h.disk, (hblk db h.lt (fun e => by rw [← e, h.disk] at hg; cases hg)).trans h.block, h.brk, ?_, h.fit⟩, hbf,
      ⟨h1, h2, h3, h4, fun j hj hn => hblk j hj (fun e => hn (by rw [e]; exact hgs))⟩, fun j hj hlj => ⟨hj, hblk j hlj (fun e => by rw [e, hg] at hj; cases hj)⟩⟩
    rcases h.map with hm | ⟨mb, D, rfl, m1, m2, m3, m4⟩
    · exact .inl hm
    · refine .inr ⟨mb, D, rfl, m1, ?_, m3, fun k' f hf => ?_⟩
      · have hmb := hblk mb m2.lt (fun e => by rw [← e, m1] at hg; cases hg)
        obtain ⟨es, clock, hb, F, hs, rfl⟩ := m2
        exact ⟨es, clock, hmb.trans hb, F, hs, rfl⟩
      · obtain ⟨u, hu, hbu⟩ := m4 k' f hf
        refine ⟨u, hu, hbu.behind hb hg ?_⟩
        by_cases e : k' = k
        · subst e; rw [getF_look hf]; exact .inr (Nat.le_refl _)
        · exact .inl e
/-- an append whose run is known, for the walk -/
theorem wpList_append_run {P : Program} {w : World} {ops : Array Oper} {rest : List Oper} {o : Oper} {a : Act} {Q : Exit → Act → World → Prop} (hgd : o.guard = none) (s x : Operand) (t tx : TypeId)
    (ho : o.op = Op.call { callee := Callee.builtin Builtin.append, args := #[s, x], argTypes := #[t, tx] }) (v xv : Value) (hs : a.eval s = v) (hx : a.eval x = xv) (v' : Value) (w' : World)
    (hrun : (Builtin.append_ #[t, tx] o.type #[v, xv]).run P w = .ok v' w') (hK : wpList P ops Q rest (a.put o.dst v') w') : wpList P ops Q (o :: rest) a w := by
  refine wpList_plain hgd fun K hK' => ?_
  unfold Oper.wp
  simp [execOp, ho, resolve, invoke, builtin, hs, hx, hrun, Result.andThen]
  exact hK' _ _ hK
/-- two blocks told by the same cells -/
theorem cell_of {w w' : World} {b : Nat} (j : Nat) (h : w'.heap[b]? = w.heap[b]?) : w'.cell? ⟨b, j, none⟩ = w.cell? ⟨b, j, none⟩ := World.cell?_of_block (a := ⟨b, j, none⟩) h
theorem froz_of {w w' : World} {b : Nat} (j : Nat) (h : w'.heap[b]? = w.heap[b]?) : w'.frozen? ⟨b, j, none⟩ = w.frozen? ⟨b, j, none⟩ := World.frozen?_of_block (a := ⟨b, j, none⟩) h
theorem DiskO.free {own : Nat → Own} {S : Nat → Prop} {w : World} {db : Nat} {s : St} {mv : Value} {wv : Bool} {mo : Int} (h : DiskO own S w db s mv wv mo) {k : Nat} (hk : w.heap.size ≤ k) : own k = .no := by
  cases e : own k <;> first | rfl | (have := (h.mine k (by rw [e]; simp)).2; omega)
set_option maxRecDepth 100000 in
set_option maxHeartbeats 2000000 in
theorem append1_any {own : Nat → Own} {S : Nat → Prop} {w : World} {db : Nat} {s : St} {mv : Value} {wv : Bool} {mo : Int} (h : DiskO own S w db s mv wv mo) (hS : ∀ k, w.heap.size ≤ k → S k) (name x : ByteArray) (hn : name.size ≤ 281474976710656)
    (hx : (getF s.fs (bs name)).b.length + x.size ≤ 140737488355328) (hc : s.fs.length ≤ 1099511627776) (hfit : Fit { s with fs := putF s.fs (bs name) (grown (getF s.fs (bs name)) (bs x)) })
    (b1 b2 b3 : Nat) (o1 : own b1 = .no) (o2 : own b2 = .no) (k1 : w.cell? ⟨b1, 0, none⟩ = some (ptrV db)) (k2 : w.cell? ⟨b2, 0, none⟩ = some (.string name)) (k3 : w.cell? ⟨b3, 0, none⟩ = some (.string x)) :
    Calls Tryz.prog 46 #[ptrV b1, ptrV b2, ptrV b3] w fun e w' => e = .returned (.tuple #[]) ∧ DiskAt S w' db { s with fs := putF s.fs (bs name) (grown (getF s.fs (bs name)) (bs x)) } ∧ Kept S w w' := by
  have hlt := h.lt
  obtain ⟨v, hbf, hl⟩ := h.map.look name (by omega)
  obtain ⟨va, vc, rfl⟩ := hbf.slice
  have l1 := World.block_lt_of_cell? w _ k1
  have l2 := World.block_lt_of_cell? w _ k2
  have l3 := World.block_lt_of_cell? w _ k3
  simp only at l1 l2 l3
  have c0 := h.c0
  have c0a := fun o => (cell_alloc w o 0 hlt).trans c0
  have k1a := fun o => (cell_alloc w o 0 l1).trans k1
  have k2a := fun o => (cell_alloc w o 0 l2).trans k2
  have k3a := fun o => (cell_alloc w o 0 l3).trans k3
  have hl1 := (hl w.drew (fun g _ => rfl)).1
  have hl2 := fun o => (hl (w.alloc o).drew (fun g hg => Below.heap_alloc w o g (h.mine g (by rw [hg]; simp)).2)).1
  have hB : Below w.heap.size w (w.alloc (.cells #[.slice va (getF s.fs (bs name)).b.length vc, .int .i64 ((getF s.fs (bs name)).s : Int), .bool (getF s.fs (bs name)).u] 68)).drew := ((Below.refl _ _).alloc (Nat.le_refl _) _).drew
  obtain ⟨v', w2, own', r2, hd2, hb2, hk2, hf2⟩ := append_disk (h.below hB) (fun k hk => hS k (by have := hB.size; omega)) (bs name) (hbf.kept (own' := own) hB.size (fun g hg hlg => ⟨hB.block g hlg, hg⟩)) x hx
  obtain ⟨va', vc', rfl⟩ := hb2.slice
  have hfw := (hf2 w.heap.size (h.free (Nat.le_refl _)) (by simp)).2
  have hf1 := (hf2 b1 o1 (by simp; omega)).2
  have hfb2 := (hf2 b2 o2 (by simp; omega)).2
  have m0 : w2.cell? ⟨w.heap.size, 0, none⟩ = some (.slice va (getF s.fs (bs name)).b.length vc) := (cell_of 0 hfw).trans (by simp)
  have m1 : w2.cell? ⟨w.heap.size, 1, none⟩ = some (.int .i64 ((getF s.fs (bs name)).s : Int)) := (cell_of 1 hfw).trans (by simp)
  have m2 : w2.cell? ⟨w.heap.size, 2, none⟩ = some (.bool (getF s.fs (bs name)).u) := (cell_of 2 hfw).trans (by simp)
  have mf : w2.frozen? ⟨w.heap.size, 0, none⟩ = false := (froz_of 0 hfw).trans (by simp)
  have n1 : w2.cell? ⟨b1, 0, none⟩ = some (ptrV db) := (cell_of 0 hf1).trans (k1a _)
  have n2 : w2.cell? ⟨b2, 0, none⟩ = some (.string name) := (cell_of 0 hfb2).trans (k2a _)
  have H := Lib.hid h
  have HD2 := Lib.hid hd2
  have HB2 := Lib.hid hb2
  have HK2 := Lib.hid hk2
  have HF2 := Lib.hid hf2
  have HBB := Lib.hid hB
  have HS := Lib.hid hS
  have HF := Lib.hid hfit
  clear h hl hbf hd2 hb2 hk2 hf2 hB hS hfit hfw hf1 hfb2
  go_enter Tryz.func46, Tryz.ntmps46
  go_wp2
  go_region
  go_wp2_with (at_builtin; refine wpList_append_run rfl _ _ _ _ rfl _ _ rfl rfl _ _ r2 ?_)
  have hlen : ((getF s.fs (bs name)).b ++ bs x).length = (getF s.fs (bs name)).b.length + x.size := by rw [List.length_append, bs_len]
  have hsb : Below w2.heap.size w2 w2 := Below.refl _ _
  have hw2 : w.heap.size < w2.heap.size := World.block_lt_of_cell? w2 _ m0
  have hset : ∀ k, k ≠ w.heap.size → (w2.setCell ⟨w.heap.size, 0, none⟩ (.slice va' ((getF s.fs (bs name)).b.length + x.size) vc')).heap[k]? = w2.heap[k]? := fun k hk => Below.heap_setCell _ _ _ _ hk
  have hsz : (w2.setCell ⟨w.heap.size, 0, none⟩ (.slice va' ((getF s.fs (bs name)).b.length + x.size) vc')).heap.size = w2.heap.size := by simp [World.setCell]
  have hno := (HF2.out w.heap.size (H.out.free (Nat.le_refl _)) (by simp)).1
  have hD3 : DiskO own' S (w2.setCell ⟨w.heap.size, 0, none⟩ (.slice va' ((getF s.fs (bs name)).b.length + x.size) vc')) db s mv wv mo := HD2.out.kept (by rw [hsz]; exact Nat.le_refl _) (fun g hg _ => hset g (fun e => hg (by rw [e]; exact hno)))
  have hB3 : Bf own' (bs name) (w2.setCell ⟨w.heap.size, 0, none⟩ (.slice va' ((getF s.fs (bs name)).b.length + x.size) vc')) (.slice va' ((getF s.fs (bs name)).b.length + x.size) vc') (grown (getF s.fs (bs name)) (bs x)).b := by
    have := HB2.out.kept (own' := own') (w' := w2.setCell ⟨w.heap.size, 0, none⟩ (.slice va' ((getF s.fs (bs name)).b.length + x.size) vc')) (by rw [hsz]; exact Nat.le_refl _) (fun g hg _ => ⟨hset g (fun e => by rw [e, hno] at hg; cases hg), hg⟩)
    rw [hlen] at this
    exact this
  have hwS := HS.out w.heap.size (Nat.le_refl _)
  refine (put_any (f := grown (getF s.fs (bs name)) (bs x)) hD3 (fun k hk => HS.out k (by rw [hsz] at hk; omega)) name hn hB3 hc HF.out).mono ?_
  rintro e w4 ⟨rfl, hd4, hk4⟩
  have HD4 := Lib.hid hd4
  have HK4 := Lib.hid ((((Kept.of_below HBB.out).trans HK2.out).set (.inl hwS) _).trans hk4)
  clear hd4 hk4 hD3 hB3 hset hsz hlen
  go_wp2
  go_end0
  exact ⟨rfl, HD4.out, HK4.out⟩
end Go.Proofs.YtnffjoflkeagfaaGreat
