/- A disk in memory. -/
import Derived.Test.YtnffjoflkeagfaaKit
namespace Go.Proofs.Ytnffjoflkeagfaa
open Go.RowKit Go.Maps

/-- an element of the map, read as itself -/
def Rv (v : Value) : Option (DataW Value × List MemPlace) := some (.held v, [])
abbrev fileV (v : Value) (f : F) : Value := .agg #[v, .int .i64 (f.s : Int), .bool f.u]
theorem law : Keyed Try.prog 9 := string_keyed Try.underlying9
theorem hkey (s : ByteArray) (h : s.size ≤ 9223372036854775807) : keyOf Try.prog 9 (.string s) = some (.string (bs s)) := WideMaps.keyOf_string_mk Try.underlying9 (by unfold maxLen; omega)
theorem zeroFile (w : World) : (zeroValue 71).run Try.prog w = .ok (fileV (.slice none 0 0) F.zero) w := by kernel_rfl
theorem isKey (k : List UInt8) : WideAt.IsKeyLit (.string k) := by first | trivial | exact .string _ | simp [WideAt.IsKeyLit]

/-- the map tells these files -/
def MapAt (own : Nat → Own) (w : World) (mv : Value) (fs : Fs) : Prop :=
  (mv = .map none ∧ fs = []) ∨ ∃ mb D, mv = .map (some mb) ∧ own mb = .map ∧ w.ownsMap Try.prog 9 Rv mb (Maps.size D) D ∧
    (∀ k, Maps.has D (.string k) = (look fs k).isSome) ∧ ∀ k f, look fs k = some f → ∃ v, (∀ z, D.atKey (.string k) z = .held (fileV v f)) ∧ Bf own k w v f.b
theorem tight {w : World} {b n : Nat} {D : DataW Value} (h : w.ownsMap Try.prog 9 Rv b n D) : w.ownsMap Try.prog 9 Rv b (Maps.size D) D := by
  obtain ⟨es, clock, hb, F, hs, rfl⟩ := h
  exact ⟨es, clock, hb, F, by simp [Maps.size, length_sorted], rfl⟩
theorem keys_perm {w : World} {b n : Nat} {D : DataW Value} {fs : Fs} (h : w.ownsMap Try.prog 9 Rv b n D) (hs : Sorted fs) (hh : ∀ k, Maps.has D (.string k) = (look fs k).isSome) : (fs.map (·.1)).Perm (strKeys D) := by
  obtain ⟨es, rfl, hk⟩ := h.keysOf
  obtain ⟨es', e, hp⟩ := h.tidy law
  cases e
  refine perm_strKeys hp (fun p hp => ?_) (sorted_keys hs).1 (fun x => ?_)
  · obtain ⟨v, hv⟩ := hk p hp
    obtain ⟨x, _, e, _⟩ := Maps.keyOf_str Try.underlying9 hv
    exact ⟨x, e⟩
  · rw [hh x]; exact length_mem_look.symm
theorem size_keys (D : DataW Value) : (strKeys D).length = Maps.size D := by cases D <;> simp [strKeys, Maps.size]
theorem map_size {w : World} {b n : Nat} {D : DataW Value} {fs : Fs} (h : w.ownsMap Try.prog 9 Rv b n D) (hs : Sorted fs) (hh : ∀ k, Maps.has D (.string k) = (look fs k).isSome) : Maps.size D = fs.length := by
  rw [← size_keys, ← (keys_perm h hs hh).length_eq, List.length_map]

theorem MapAt.kept {own own' : Nat → Own} {w w' : World} {mv : Value} {fs : Fs} (h : MapAt own w mv fs) (hs : w.heap.size ≤ w'.heap.size)
    (hb : ∀ g, own g ≠ .no → g < w.heap.size → own g ≠ .disk → w'.heap[g]? = w.heap[g]? ∧ own' g = own g) : MapAt own' w' mv fs := by
  rcases h with h | ⟨mb, D, rfl, h1, h2, h3, h4⟩
  · exact .inl h
  · have e := hb mb (by rw [h1]; simp) h2.lt (by rw [h1]; simp)
    refine .inr ⟨mb, D, rfl, by rw [e.2]; exact h1, ?_, h3, fun k f hf => ?_⟩
    · obtain ⟨es, clock, hb, F, hs, rfl⟩ := h2
      exact ⟨es, clock, e.1.trans hb, F, hs, rfl⟩
    · obtain ⟨v, hv, hbf⟩ := h4 k f hf
      exact ⟨v, hv, hbf.kept hs (fun g hg hlt => by have := hb g (by rw [hg]; simp) hlt (by rw [hg]; simp); exact ⟨this.1, by rw [this.2]; exact hg⟩)⟩

/-- what the map holds at a name -/
theorem MapAt.look {own : Nat → Own} {w : World} {mv : Value} {fs : Fs} (h : MapAt own w mv fs) (s : ByteArray) (hs : s.size ≤ 9223372036854775807) :
    ∃ v, Bf own (bs s) w v (getF fs (bs s)).b ∧ ∀ w' : World, (∀ g, own g = .map → w'.heap[g]? = w.heap[g]?) →
      (Instr.lookup 66 mv (.string s) false).run Try.prog w' = .ok (fileV v (getF fs (bs s))) w' ∧
      (Instr.lookup 66 mv (.string s) true).run Try.prog w' = .ok (.tuple #[fileV v (getF fs (bs s)), .bool (Go.Proofs.Ytnffjoflkeagfaa.look fs (bs s)).isSome]) w' := by
  rcases h with ⟨rfl, rfl⟩ | ⟨mb, D, rfl, h1, h2, h3, h4⟩
  · refine ⟨.slice none 0 0, Bf.nil _ _ _, fun w' _ => ⟨?_, ?_⟩⟩
    · have := Maps.look_nil (P := Try.prog) (w := w') (t := 66) false law Try.underlying66 (zeroFile w') (hkey s hs)
      exact this
    · have := Maps.look_nil (P := Try.prog) (w := w') (t := 66) true law Try.underlying66 (zeroFile w') (hkey s hs)
      exact this
  · have key : ∃ v, Bf own (bs s) w v (getF fs (bs s)).b ∧ D.atKey (.string (bs s)) (.held (fileV (.slice none 0 0) F.zero)) = .held (fileV v (getF fs (bs s))) := by
      cases e : Go.Proofs.Ytnffjoflkeagfaa.look fs (bs s) with
      | none =>
        have hn : Maps.has D (.string (bs s)) = false := by rw [h3, e]; rfl
        have e2 : getF fs (bs s) = F.zero := by unfold getF; rw [e]; rfl
        rw [e2]
        exact ⟨_, Bf.nil _ _ _, Maps.atKey_of_not_has hn _⟩
      | some f =>
        obtain ⟨v, hv, hbf⟩ := h4 _ _ e
        rw [getF_look e]
        exact ⟨v, hbf, hv _⟩
    obtain ⟨v, hbf, hat⟩ := key
    refine ⟨v, hbf, fun w' hw => ?_⟩
    have h2' : w'.ownsMap Try.prog 9 Rv mb (Maps.size D) D := by
      obtain ⟨es, clock, hb, F, hs, rfl⟩ := h2
      exact ⟨es, clock, (hw mb h1).trans hb, F, hs, rfl⟩
    obtain ⟨v1, _, r1, e1⟩ := h2'.lookup (t := 66) law Try.underlying66 (zeroFile w') (zd := .held (fileV (.slice none 0 0) F.zero)) (zp := []) rfl (hkey s hs)
    obtain ⟨v2, _, r2, e2⟩ := h2'.look_ok (t := 66) law Try.underlying66 (zeroFile w') (zd := .held (fileV (.slice none 0 0) F.zero)) (zp := []) rfl (hkey s hs)
    rw [hat] at e1 e2
    simp only [Rv, Option.some.injEq, Prod.mk.injEq, DataW.held.injEq] at e1 e2
    rw [e1.1] at r1
    rw [e2.1, h3] at r2
    exact ⟨r1, r2⟩

/-- a name's file laid into the map -/
theorem MapAt.put {own : Nat → Own} {w : World} {mb : Nat} {fs : Fs} (h : MapAt own w (.map (some mb)) fs) (hso : Sorted fs) (s : ByteArray) (hs : s.size ≤ 9223372036854775807) (hn : fs.length < 9223372036854775807)
    (v : Value) (f : F) (hbf : Bf own (bs s) w v f.b) :
    ∃ w', (Instr.mapUpdate 66 (.map (some mb)) (.string s) (fileV v f)).run Try.prog w = .ok () w' ∧ MapAt own w' (.map (some mb)) (putF fs (bs s) f) ∧ w.grownBy w' (some mb) ∧ own mb = .map ∧ w'.heap.size = w.heap.size := by
  rcases h with ⟨h, _⟩ | ⟨mb', D, e, h1, h2, h3, h4⟩
  · cases h
  cases e
  have hsz := map_size h2 hso h3
  obtain ⟨w', r, h2', ht⟩ := h2.store (t := 66) law Try.underlying66 (by rw [hsz]; unfold maxLen; omega) (hkey s hs) (val := fileV v f) (d := .held (fileV v f)) (ps := []) rfl
  have hg := ht.grown
  have hsize : w'.heap.size = w.heap.size := by
    obtain ⟨es, clock, es', clock', hb, rfl⟩ := ht
    simp [ChangeMaps.setBlock]
  have hk : ∀ (k : List UInt8) (u : Value) (l : List UInt8), Bf own k w u l → Bf own k w' u l := fun k u l hb => hb.kept (by omega) (fun g hg' hlt => ⟨hg.block g hlt (fun e => by cases e; rw [h1] at hg'; cases hg'), hg'⟩)
  refine ⟨w', r, .inr ⟨mb, _, rfl, h1, tight h2', fun k => ?_, fun k f' hf => ?_⟩, hg, h1, hsize⟩
  · by_cases e : k = bs s
    · subst e
      rw [Maps.has_put_same h2.isMap (isKey _), look_put_same]; rfl
    · rw [Maps.has_put_other (by simpa using e), look_put_other _ _ _ _ e, h3]
  · by_cases e : k = bs s
    · subst e
      rw [look_put_same] at hf
      cases hf
      exact ⟨v, fun z => Maps.atKey_put_same h2.isMap (isKey _) _ _, hk _ _ _ hbf⟩
    · rw [look_put_other _ _ _ _ e] at hf
      obtain ⟨u, hu, hb⟩ := h4 k f' hf
      exact ⟨u, fun z => by rw [Maps.atKey_put_other (by simpa using e)]; exact hu z, hk _ _ _ hb⟩

/-- .. taken away -/
theorem MapAt.del {own : Nat → Own} {w : World} {mv : Value} {fs : Fs} (h : MapAt own w mv fs) (hso : Sorted fs) (s : ByteArray) (hs : s.size ≤ 9223372036854775807) (ty : TypeId) :
    ∃ w', (Builtin.delete_ #[66, 9] ty #[mv, .string s]).run Try.prog w = .ok (.tuple #[]) w' ∧ MapAt own w' mv (delF fs (bs s)) ∧ w'.heap.size = w.heap.size ∧
      w'.os = w.os ∧ w'.tape = w.tape ∧ w'.output = w.output ∧ ∀ k, own k ≠ .map → w'.heap[k]? = w.heap[k]? := by
  rcases h with ⟨rfl, rfl⟩ | ⟨mb, D, rfl, h1, h2, h3, h4⟩
  · exact ⟨w, Maps.drop_nil law Try.underlying66 (hkey s hs) ty, .inl ⟨rfl, rfl⟩, rfl, rfl, rfl, rfl, fun _ _ => rfl⟩
  obtain ⟨w', r, h2', ht⟩ := h2.drop (t := 66) law Try.underlying66 (hkey s hs) ty
  have hg := ht.grown
  have hsize : w'.heap.size = w.heap.size := by
    obtain ⟨es, clock, es', clock', hb, rfl⟩ := ht
    simp [ChangeMaps.setBlock]
  have hblk : ∀ k, own k ≠ .map → w'.heap[k]? = w.heap[k]? := fun k hk => by
    by_cases hlt : k < w.heap.size
    · exact hg.block k hlt (fun e => by cases e; exact hk h1)
    · rw [Array.getElem?_eq_none (by omega), Array.getElem?_eq_none (by omega)]
  refine ⟨w', r, .inr ⟨mb, _, rfl, h1, tight h2', fun k => ?_, fun k f' hf => ?_⟩, hsize, hg.os, hg.tape, hg.output, hblk⟩
  · by_cases e : k = bs s
    · subst e
      rw [Maps.has_del_same, look_del_same hso]; rfl
    · rw [Maps.has_del_other (by simpa using e), look_del_other _ _ _ e, h3]
  · by_cases e : k = bs s
    · subst e
      rw [look_del_same hso] at hf; cases hf
    · rw [look_del_other _ _ _ e] at hf
      obtain ⟨u, hu, hb⟩ := h4 k f' hf
      exact ⟨u, fun z => by rw [Maps.atKey_del_other (by simpa using e)]; exact hu z, hb.kept (by omega) (fun g hg' hlt => ⟨hblk g (by rw [hg']; simp), hg'⟩)⟩

/-- the disk's block: its cells -/
abbrev diskC (mv : Value) (s : St) (wv : Bool) (mo : Int) : Obj :=
  .cells #[mv, .int .i64 (s.room : Int), .int .i64 (usedF s.fs : Int), .bool s.down, .bool wv, .int .i64 mo] 68 (0, 0)
/-- the block db is a disk that stands as s; its blocks lie in S -/
structure DiskO (own : Nat → Own) (S : Nat → Prop) (w : World) (db : Nat) (s : St) (mv : Value) (wv : Bool) (mo : Int) : Prop where
  mine : ∀ k, own k ≠ .no → S k ∧ k < w.heap.size
  disk : own db = .disk
  block : w.heap[db]? = some (diskC mv s wv mo)
  brk : s.down = false → wv = s.waits ∧ (s.waits = true → mo = (s.more : Int))
  map : MapAt own w mv s.fs
  fit : Fit s
def DiskAt (S : Nat → Prop) (w : World) (db : Nat) (s : St) : Prop := ∃ own mv wv mo, DiskO own S w db s mv wv mo
section
variable {own : Nat → Own} {S : Nat → Prop} {w w' : World} {db : Nat} {s : St} {mv : Value} {wv : Bool} {mo : Int}
theorem DiskO.lt (h : DiskO own S w db s mv wv mo) : db < w.heap.size := (Array.getElem?_eq_some_iff.1 h.block).1
theorem DiskO.c0 (h : DiskO own S w db s mv wv mo) : w.cell? ⟨db, 0, none⟩ = some mv := by rw [Lib.cell_of_heap h.block]; rfl
theorem DiskO.c1 (h : DiskO own S w db s mv wv mo) : w.cell? ⟨db, 1, none⟩ = some (.int .i64 (s.room : Int)) := by rw [Lib.cell_of_heap h.block]; rfl
theorem DiskO.c2 (h : DiskO own S w db s mv wv mo) : w.cell? ⟨db, 2, none⟩ = some (.int .i64 (usedF s.fs : Int)) := by rw [Lib.cell_of_heap h.block]; rfl
theorem DiskO.c3 (h : DiskO own S w db s mv wv mo) : w.cell? ⟨db, 3, none⟩ = some (.bool s.down) := by rw [Lib.cell_of_heap h.block]; rfl
theorem DiskO.c4 (h : DiskO own S w db s mv wv mo) : w.cell? ⟨db, 4, none⟩ = some (.bool wv) := by rw [Lib.cell_of_heap h.block]; rfl
theorem DiskO.c5 (h : DiskO own S w db s mv wv mo) : w.cell? ⟨db, 5, none⟩ = some (.int .i64 mo) := by rw [Lib.cell_of_heap h.block]; rfl
theorem DiskO.f (h : DiskO own S w db s mv wv mo) (j : Nat) : w.frozen? ⟨db, j, none⟩ = false := Lib.frozen_of_heap h.block j
/-- what leaves the disk's blocks as they are -/
theorem DiskO.kept (h : DiskO own S w db s mv wv mo) (hs : w.heap.size ≤ w'.heap.size) (hb : ∀ g, own g ≠ .no → g < w.heap.size → w'.heap[g]? = w.heap[g]?) : DiskO own S w' db s mv wv mo :=
  ⟨fun k hk => ⟨(h.mine k hk).1, Nat.lt_of_lt_of_le (h.mine k hk).2 hs⟩, h.disk, (hb db (by rw [h.disk]; simp) h.lt).trans h.block, h.brk, h.map.kept hs (fun g h1 h2 _ => ⟨hb g h1 h2, rfl⟩), h.fit⟩
theorem DiskO.below (h : DiskO own S w db s mv wv mo) (hb : Below w.heap.size w w') : DiskO own S w' db s mv wv mo := h.kept hb.size (fun g _ hg => hb.block g hg)
theorem DiskAt.below (h : DiskAt S w db s) (hb : Below w.heap.size w w') : DiskAt S w' db s := by
  obtain ⟨own, mv, wv, mo, h⟩ := h
  exact ⟨own, mv, wv, mo, h.below hb⟩
theorem DiskAt.mono {S' : Nat → Prop} (h : DiskAt S w db s) (hS : ∀ k, k < w.heap.size → S k → S' k) : DiskAt S' w db s := by
  obtain ⟨own, mv, wv, mo, h⟩ := h
  exact ⟨own, mv, wv, mo, fun k hk => ⟨hS k (h.mine k hk).2 (h.mine k hk).1, (h.mine k hk).2⟩, h.disk, h.block, h.brk, h.map, h.fit⟩
theorem DiskAt.other {S' : Nat → Prop} (h : DiskAt S w db s) (hk : Kept S' w w') (hS : ∀ k, k < w.heap.size → S k → ¬ S' k) : DiskAt S w' db s := by
  obtain ⟨own, mv, wv, mo, h⟩ := h
  exact ⟨own, mv, wv, mo, h.kept hk.size (fun g h1 h2 => hk.block g h2 (hS g h2 (h.mine g h1).1))⟩
theorem DiskAt.fit (h : DiskAt S w db s) : Fit s := by obtain ⟨own, mv, wv, mo, h⟩ := h; exact h.fit
theorem DiskAt.lt (h : DiskAt S w db s) : db < w.heap.size ∧ S db := by obtain ⟨own, mv, wv, mo, h⟩ := h; exact ⟨h.lt, (h.mine db (by rw [h.disk]; simp)).1⟩
theorem DiskAt.drewN (h : DiskAt S w db s) (q : Nat) : DiskAt S (w.drewN q) db s := h.below (below_drewN (Below.refl _ _) q)
theorem MapAt.reblock {fs : Fs} (h : MapAt own w mv fs) (hs : w'.heap.size = w.heap.size) (hd : own db = .disk) (hb : ∀ k, k ≠ db → w'.heap[k]? = w.heap[k]?) : MapAt own w' mv fs :=
  h.kept (by omega) (fun g _ _ hg => ⟨hb g (fun e => hg (by rw [e]; exact hd)), rfl⟩)
/-- the disk's own block anew -/
theorem DiskO.reblock {s' : St} {wv' : Bool} {mo' : Int} (h : DiskO own S w db s mv wv mo) (hs : w'.heap.size = w.heap.size) (hb : ∀ k, k ≠ db → w'.heap[k]? = w.heap[k]?) (hblk : w'.heap[db]? = some (diskC mv s' wv' mo')) (hfs : s'.fs = s.fs)
    (hbrk : s'.down = false → wv' = s'.waits ∧ (s'.waits = true → mo' = (s'.more : Int))) (hfit : Fit s') : DiskO own S w' db s' mv wv' mo' :=
  ⟨fun k hk => ⟨(h.mine k hk).1, by rw [hs]; exact (h.mine k hk).2⟩, h.disk, hblk, hbrk, by rw [hfs]; exact h.map.reblock hs h.disk hb, hfit⟩
end
theorem cell_alloc (w : World) (o : Obj) {b : Nat} (j : Nat) (h : b < w.heap.size) : (w.alloc o).cell? ⟨b, j, none⟩ = w.cell? ⟨b, j, none⟩ := World.cell?_of_block (a := ⟨b, j, none⟩) (Below.heap_alloc w o b h)
theorem froz_alloc (w : World) (o : Obj) {b : Nat} (j : Nat) (h : b < w.heap.size) : (w.alloc o).frozen? ⟨b, j, none⟩ = w.frozen? ⟨b, j, none⟩ := World.frozen?_of_block (a := ⟨b, j, none⟩) (Below.heap_alloc w o b h)
theorem but_refl (p : Nat) (w : World) : w.grownBy w (some p) := ⟨rfl, rfl, rfl, Nat.le_refl _, fun _ _ _ => rfl⟩
theorem but_set {p : Nat} {w w' : World} (h : w.grownBy w' (some p)) (j : Nat) (v : Value) : w.grownBy (w'.setCell ⟨p, j, none⟩ v) (some p) :=
  ⟨h.os, h.tape, h.output, by simp [World.setCell]; exact h.size, fun k hk hne => (Below.heap_setCell _ _ _ _ (fun e => hne (by rw [e]))).trans (h.block k hk hne)⟩
theorem but_drewN {p : Nat} {w w' : World} (h : w.grownBy w' (some p)) : ∀ q, w.grownBy (w'.drewN q) (some p)
  | 0 => h
  | q + 1 => by
    have := but_drewN h q
    exact ⟨this.os, this.tape, this.output, this.size, this.block⟩
end Go.Proofs.Ytnffjoflkeagfaa
