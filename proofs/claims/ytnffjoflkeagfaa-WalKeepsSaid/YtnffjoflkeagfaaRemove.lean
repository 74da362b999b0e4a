/- A file taken away; all files taken away. -/
import Derived.Test.YtnffjoflkeagfaaPut
namespace Go.Proofs.Ytnffjoflkeagfaa
open Go.RowKit Go.Maps Go.ChangeMaps Go.MapKept

set_option maxRecDepth 100000 in
set_option maxHeartbeats 2000000 in
theorem remove_any {own : Nat → Own} {S : Nat → Prop} {w : World} {db : Nat} {s : St} {mv : Value} {wv : Bool} {mo : Int} (h : DiskO own S w db s mv wv mo) (name : ByteArray) (hn : name.size ≤ 281474976710656) :
    Calls Try.prog 72 #[ptrV db, .string name] w fun e w' => e = .returned (.tuple #[]) ∧ DiskAt S w' db { s with fs := delF s.fs (bs name) } ∧ Kept S w w' := by
  have hlt := h.lt
  obtain ⟨ov, hof, hl⟩ := h.map.look name (by omega)
  obtain ⟨oa, oc, rfl⟩ := hof.slice
  have c0 := h.c0
  have c2 := h.c2
  have f2 := h.f 2
  have hl1 : (Instr.lookup 66 mv (.string name) false).run Try.prog w.drew = .ok (.agg #[.slice oa (getF s.fs (bs name)).b.length oc, .int .i64 ((getF s.fs (bs name)).s : Int), .bool (getF s.fs (bs name)).u]) w.drew := (hl w.drew (fun g _ => rfl)).1
  have hfl : ∀ (w : World) (a : Option Addr) (n c : Nat) (x y : Value), (Instr.field 71 (.agg #[.slice a n c, x, y]) 0).run Try.prog w = .ok (.slice a n c) w := fun w a n c x y => by kernel_rfl
  have hu := used_del h.fit.sorted (bs name)
  have hr := h.fit.room
  have hri := h.fit.roomI
  have hol := get_le s.fs (bs name)
  have HU : Hid ((usedF s.fs : Int) - ((getF s.fs (bs name)).b.length : Int) = (usedF (delF s.fs (bs name)) : Nat)) := by show _ = _; omega
  have hblk : ∀ k, k ≠ db → ((w.setCell ⟨db, 2, none⟩ (.int .i64 ((usedF s.fs : Int) - ((getF s.fs (bs name)).b.length : Int)))).drew).heap[k]? = w.heap[k]? := fun k hne => Below.heap_setCell _ _ _ _ hne
  have hsz : ((w.setCell ⟨db, 2, none⟩ (.int .i64 ((usedF s.fs : Int) - ((getF s.fs (bs name)).b.length : Int)))).drew).heap.size = w.heap.size := by show (w.setCell _ _).heap.size = _; simp [World.setCell]
  obtain ⟨w2, r2, m2, z2, os2, tp2, ou2, b2⟩ := (h.map.reblock hsz h.disk hblk).del h.fit.sorted name (by omega) 0
  have M2 := Lib.hid m2
  have H := Lib.hid h
  have HB := Lib.hid b2
  have HK := Lib.hid hblk
  have HX := Lib.hid (And.intro (z2.trans hsz) (And.intro os2 (And.intro tp2 ou2)))
  clear h hl hof m2 b2 hblk z2 hsz os2 tp2 ou2
  go_enter Try.func72, Try.ntmps72
  go_wp2
  go_region
  go_wp2
  go_end0
  obtain ⟨hz, ho, htp, hou⟩ := HX.out
  refine ⟨rfl, ⟨own, mv, wv, mo, fun k hk => ⟨(H.out.mine k hk).1, by rw [hz]; exact (H.out.mine k hk).2⟩, H.out.disk, ?_, H.out.brk, M2.out, fit_del H.out.fit rfl _ _ _ H.out.fit.moreI⟩, ⟨ho, htp, hou, by omega, fun k hk hns => ?_⟩⟩
  · rw [HB.out db (by rw [H.out.disk]; simp)]
    show (w.setCell ⟨db, 2, none⟩ _).heap[db]? = _
    have hb := H.out.block
    rw [HU.out]
    simp [World.setCell, Array.getElem?_modify, hb, diskC]
  · have hko : own k = .no := by
      cases e : own k <;> first | rfl | exact absurd (H.out.mine k (by rw [e]; simp)).1 hns
    rw [HB.out k (by rw [hko]; simp)]
    exact HK.out k (fun e => by subst e; rw [H.out.disk] at hko; cases hko)
/-- all files gone from the map -/
theorem MapAt.clear {own : Nat → Own} {w : World} {mv : Value} {fs : Fs} (h : MapAt own w mv fs) (ty : TypeId) :
    ∃ w', (Builtin.clear_ #[66] ty #[mv]).run Try.prog w = .ok (.tuple #[]) w' ∧ MapAt own w' mv [] ∧ w'.heap.size = w.heap.size ∧
      w'.os = w.os ∧ w'.tape = w.tape ∧ w'.output = w.output ∧ ∀ k, own k ≠ .map → w'.heap[k]? = w.heap[k]? := by
  rcases h with ⟨rfl, rfl⟩ | ⟨mb, D, rfl, h1, h2, h3, h4⟩
  · exact ⟨w, by simp [Builtin.clear_, run_underlying Try.underlying66, Result.andThen], .inl ⟨rfl, rfl⟩, rfl, rfl, rfl, rfl, fun _ _ => rfl⟩
  · obtain ⟨es, clock, hb, F, hs, rfl⟩ := h2
    refine ⟨ChangeMaps.setBlock w mb (.map #[] clock), ?_, .inr ⟨mb, .map [], rfl, h1, ⟨#[], clock, heap_setBlock_same hb _, ⟨by simp, stamped_empty clock, by simp⟩, by simp, rfl⟩, fun k => rfl, fun k f hf => by cases hf⟩, by simp [ChangeMaps.setBlock], rfl, rfl, rfl, fun k hk => heap_setBlock_other hb _ (fun e => hk (by rw [e]; exact h1))⟩
    simp [Builtin.clear_, run_underlying Try.underlying66, MapKept.run_getObj_map hb, MapKept.run_setObj_map _ hb, Result.andThen]
    rfl
set_option maxRecDepth 100000 in
set_option maxHeartbeats 2000000 in
theorem Wipe_any {S : Nat → Prop} {w : World} {db : Nat} {s : St} (h : DiskAt S w db s) :
    Calls Try.prog 44 #[ptrV db] w fun e w' => e = .returned (.tuple #[]) ∧ DiskAt S w' db (wipeS s) ∧ Kept S w w' := by
  obtain ⟨own, mv, wv, mo, h⟩ := h
  have hlt := h.lt
  have c0 := h.c0
  obtain ⟨w2, r2, m2, z2, os2, tp2, ou2, b2⟩ := h.map.clear 0
  have hdb : w2.heap[db]? = some (diskC mv s wv mo) := (b2 db (by rw [h.disk]; simp)).trans h.block
  have c2 : w2.cell? ⟨db, 2, none⟩ = some (.int .i64 (usedF s.fs : Int)) := by rw [Lib.cell_of_heap hdb]; rfl
  have f2 : w2.frozen? ⟨db, 2, none⟩ = false := Lib.frozen_of_heap hdb 2
  have M2 := Lib.hid m2
  have H := Lib.hid h
  have HB := Lib.hid b2
  have HD := Lib.hid hdb
  have HX := Lib.hid (And.intro z2 (And.intro os2 (And.intro tp2 ou2)))
  clear h m2 b2 z2 os2 tp2 ou2 hdb
  go_enter Try.func44, Try.ntmps44
  go_wp2
  go_end0
  obtain ⟨hz, ho, htp, hou⟩ := HX.out
  have hw : w2.heap.size = (w2.setCell ⟨db, 2, none⟩ (.int .i64 0)).heap.size := by simp [World.setCell]
  refine ⟨rfl, ⟨own, mv, wv, mo, fun k hk => ⟨(H.out.mine k hk).1, by rw [← hw, hz]; exact (H.out.mine k hk).2⟩, H.out.disk, ?_, H.out.brk, M2.out.reblock hw.symm H.out.disk (fun k hk => Below.heap_setCell _ _ _ _ hk), ⟨by simp [wipeS, Sorted], by simp [wipeS, usedF], H.out.fit.roomI, H.out.fit.moreI, by simp [wipeS], by simp [wipeS]⟩⟩, ⟨ho, htp, hou, by omega, fun k hk hns => ?_⟩⟩
  · have hb := HD.out
    simp [World.setCell, Array.getElem?_modify, hb, diskC, wipeS, usedF]
  · have hko : own k = .no := by
      cases e : own k <;> first | rfl | exact absurd (H.out.mine k (by rw [e]; simp)).1 hns
    refine (Below.heap_setCell _ _ _ _ (fun e => by subst e; rw [H.out.disk] at hko; cases hko)).trans (HB.out k (by rw [hko]; simp))
end Go.Proofs.Ytnffjoflkeagfaa
