/- Copies: of lists, of a message. -/
import Derived.Test.YtheldpdckgoniaaKit
namespace Go.Proofs.Ytheldpdckgoniaa
open Go.RowKit

theorem info_int : (Try.prog.info? 3).map (fun i => (i.zero, i.size, i.bytes)) = some (some (.int .i64 0), 1, 8) := by kernel_rfl
theorem info_ent : (Try.prog.info? 52).map (fun i => (i.zero, i.size, i.bytes)) = some (some (.agg #[.int .i64 0, .string ⟨#[]⟩]), 2, 24) := by kernel_rfl
/-- a block that may be written anywhere -/
def Soft (w : World) (k : Nat) : Prop := ∃ cur t, w.heap[k]? = some (.cells cur t (0, 0))
theorem Soft.lt {w : World} {k : Nat} (h : Soft w k) : k < w.heap.size := by obtain ⟨_, _, h⟩ := h; exact (Array.getElem?_eq_some_iff.1 h).1
theorem Soft.eq {w w' : World} {k : Nat} (h : Soft w k) (e : w'.heap[k]? = w.heap[k]?) : Soft w' k := by obtain ⟨c, t, h⟩ := h; exact ⟨c, t, e.trans h⟩
theorem own_soft {w : World} {base : Nat} {e : TypeId} {size : Nat} {v : Value} {n : Nat} {cells : List Value} (h : w.ownsRow base e size v n cells) (hsz : 0 < size) : Run (fun k => base ≤ k ∧ Soft w k) w v n cells := by
  have hr := Run.of_own h hsz
  rcases h.2 with ⟨rfl, rfl⟩ | ⟨g, cap, cur, rfl, _, hg, _⟩
  · exact Run.nil _ _ _
  · obtain ⟨a, c, e1, h1, h2, h3⟩ := hr
    refine ⟨a, c, e1, h1, h2, ?_⟩
    rcases h3 with h3 | ⟨b, off, e2, hb, hlt, hc⟩
    · exact .inl h3
    · have : b = g := by
        injection e1 with e3
        rw [e2] at e3
        injection e3 with e3
        injection e3 with e3
        exact e3.symm
      subst this
      exact .inr ⟨b, off, e2, ⟨hb, _, _, hg⟩, hlt, hc⟩
set_option maxHeartbeats 2000000 in
set_option maxRecDepth 100000 in
theorem cloneI_any {B : Nat → Prop} {w : World} {v : Value} {l : List Int} (h : Run B w v l.length (intsC l)) (hl : l.length ≤ 1048576) :
    Calls Try.prog 37 #[v] w fun e w' => ∃ v', e = .returned v' ∧ Run (fun k => w.heap.size ≤ k ∧ Soft w' k) w' v' l.length (intsC l) ∧ Below w.heap.size w w' := by
  obtain ⟨i0, hi, hz0, hz1, hz2⟩ := info_parts info_int
  obtain ⟨va, vc, rfl, hvc⟩ := h.slice
  have hsrc := h.src (fun e => by rw [List.length_eq_zero_iff.1 e]; rfl)
  cases va with
  | none =>
    obtain ⟨_, _, e, _, h2, _⟩ := h
    cases e
    obtain ⟨e1, e2⟩ := h2 rfl
    have e3 := List.length_eq_zero_iff.1 e1
    subst e3 e2
    have hnil := fun w' => Lib.run_eql_slice_nil (P := Try.prog) w' 35 3 none 0 0 0 0 Try.underlying35
    clear h2
    go_enter Try.func37, Try.ntmps37
    go_wp2
    go_ret
    exact ⟨_, rfl, Run.nil _ _ _, Below.refl _ _⟩
  | some ad =>
    have HL := Lib.hid ((h.below ((Below.refl _ w).alloc (Nat.le_refl _) (.cells #[] 3))).src (fun e => by rw [List.length_eq_zero_iff.1 e]; rfl))
    clear hsrc h
    have hnil := fun w' => Lib.run_eql_slice_nil (P := Try.prog) w' 35 3 (some ad) l.length vc 0 0 Try.underlying35
    go_enter Try.func37, Try.ntmps37
    go_wp2_with (at_builtin; go_loud (refine wpList_append_row rfl _ _ 35 rfl w.heap.size 3 i0 (.int .i64 0) 1 8 Try.underlying35 hi hz0 hz1 hz2 rfl (by decide) _ 0 [] rfl (World.ownsRow_lit w #[] 0 (Nat.le_refl _) (by decide) rfl) _ l.length (intsC l) rfl HL.out (by simp [intsC]) (ints_one l) (by unfold maxLen; omega) (by omega) (by simp) ?_))
    intro v' w2 ho hg _
    have HO := Lib.hid ho
    have HB : Hid (Below w.heap.size w w2) := ((Below.refl _ w).alloc (Nat.le_refl _) _).grown hg (by simp) (fun k hk => by simp [Value.ownBlock] at hk; omega)
    obtain ⟨a', c', rfl⟩ := row_slice ho
    clear ho hg
    go_wp2
    go_ret
    exact ⟨_, rfl, by have := own_soft HO.out (by decide); simpa using this, HB.out⟩
set_option maxHeartbeats 2000000 in
set_option maxRecDepth 100000 in
theorem cloneE_any {B : Nat → Prop} {w : World} {v : Value} {l : List (Int × ByteArray)} (h : Run B w v l.length (entC l)) (hl : l.length ≤ 1048576) :
    Calls Try.prog 38 #[v] w fun e w' => ∃ v', e = .returned v' ∧ w'.ownsRow w.heap.size 52 2 v' l.length (entC l) ∧ Below w.heap.size w w' := by
  obtain ⟨i0, hi, hz0, hz1, hz2⟩ := info_parts info_ent
  obtain ⟨va, vc, rfl, hvc⟩ := h.slice
  have hsrc := h.src (fun e => by rw [List.length_eq_zero_iff.1 e]; rfl)
  cases va with
  | none =>
    obtain ⟨_, _, e, _, h2, _⟩ := h
    cases e
    obtain ⟨e1, e2⟩ := h2 rfl
    have e3 := List.length_eq_zero_iff.1 e1
    subst e3 e2
    have hnil := fun w' => Lib.run_eql_slice_nil (P := Try.prog) w' 36 52 none 0 0 0 0 Try.underlying36
    clear h2
    go_enter Try.func38, Try.ntmps38
    go_wp2
    go_ret
    exact ⟨_, rfl, World.ownsRow_nil _ _ _ _, Below.refl _ _⟩
  | some ad =>
    have HL := Lib.hid ((h.below ((Below.refl _ w).alloc (Nat.le_refl _) (.cells #[] 52))).src (fun e => by rw [List.length_eq_zero_iff.1 e]; rfl))
    clear hsrc h
    have hnil := fun w' => Lib.run_eql_slice_nil (P := Try.prog) w' 36 52 (some ad) l.length vc 0 0 Try.underlying36
    go_enter Try.func38, Try.ntmps38
    go_wp2_with (at_builtin; go_loud (refine wpList_append_row rfl _ _ 36 rfl w.heap.size 52 i0 (.agg #[.int .i64 0, .string ⟨#[]⟩]) 2 24 Try.underlying36 hi hz0 hz1 hz2 rfl (by decide) _ 0 [] rfl (World.ownsRow_lit w #[] 0 (Nat.le_refl _) (by decide) rfl) _ l.length (entC l) rfl HL.out (entC_len l) (ent_one l) (by unfold maxLen; omega) (by omega) (by simp) ?_))
    intro v' w2 ho hg _
    have HO := Lib.hid ho
    have HB : Hid (Below w.heap.size w w2) := ((Below.refl _ w).alloc (Nat.le_refl _) _).grown hg (by simp) (fun k hk => by simp [Value.ownBlock] at hk; omega)
    obtain ⟨a', c', rfl⟩ := row_slice ho
    clear ho hg
    go_wp2
    go_ret
    exact ⟨_, rfl, by simpa using HO.out, HB.out⟩
/-- new entries: a row of one's own -/
def EntN (base : Nat) (w : World) (v : Value) (l : List (Int × ByteArray)) : Prop := w.ownsRow base 52 2 v l.length (entC l)
theorem entN_run {base : Nat} {w : World} {v : Value} {l : List (Int × ByteArray)} (h : EntN base w v l) : Run (fun k => base ≤ k) w v l.length (entC l) := Run.of_own h (by decide)
theorem heap_set {w : World} {b j : Nat} {cur : Array Value} {t : TypeId} {k : Nat × Nat} {u : Value} (h : w.heap[b]? = some (.cells cur t k)) : (w.setCell ⟨b, j, none⟩ u).heap[b]? = some (.cells (cur.setIfInBounds j u) t k) := by
  obtain ⟨hlt, hk⟩ := Array.getElem?_eq_some_iff.1 h
  show (w.heap.modify b _)[b]? = _
  rw [Array.getElem?_eq_getElem (by rw [Array.size_modify]; exact hlt), Array.getElem_modify_self, hk]
  rfl
/-- a message in a box of its own -/
abbrev msgO (m : Msg) (lv ev : Value) : Obj := .cells (m.arr lv ev) 38 (0, 0)
theorem box_cells {w : World} {b : Nat} {m : Msg} {lv ev : Value} (h : w.heap[b]? = some (msgO m lv ev)) :
    w.cell? ⟨b, 0, none⟩ = some (.int .u8 m.k) ∧ w.cell? ⟨b, 1, none⟩ = some (.int .i64 m.f) ∧ w.cell? ⟨b, 2, none⟩ = some (.int .i64 m.t) ∧ w.cell? ⟨b, 3, none⟩ = some (.int .i64 m.tm) ∧ w.cell? ⟨b, 4, none⟩ = some (.int .i64 m.a) ∧
    w.cell? ⟨b, 5, none⟩ = some (.int .i64 m.b) ∧ w.cell? ⟨b, 6, none⟩ = some (.int .i64 m.c) ∧ w.cell? ⟨b, 7, none⟩ = some (.bool m.ok) ∧ w.cell? ⟨b, 8, none⟩ = some lv ∧ w.cell? ⟨b, 9, none⟩ = some ev ∧ w.cell? ⟨b, 10, none⟩ = some (.string m.d) ∧ ∀ j, w.frozen? ⟨b, j, none⟩ = false := by
  have e := fun j => Lib.cell_of_heap (j := j) h
  exact ⟨e 0, e 1, e 2, e 3, e 4, e 5, e 6, e 7, e 8, e 9, e 10, fun j => Lib.frozen_of_heap h j⟩
theorem box_below {w w' : World} {b : Nat} {o : Obj} (h : w.heap[b]? = some o) (hb : Below w.heap.size w w') : w'.heap[b]? = some o := (hb.block b (Array.getElem?_eq_some_iff.1 h).1).trans h
theorem msg_one (m : Msg) (a b : Option Addr) (n c n' c' : Nat) : (m.arr (.slice a n c) (.slice b n' c')).all (·.oneCell') = true := by simp [Value.oneCell']
theorem infoMsg : (Try.prog.info? 38).map (·.size) = some 11 := by kernel_rfl
theorem below_setRow {B g : Nat} {w w' : World} (h : Below B w w') (hB : B ≤ g) (cs : Array Value) : Below B w (w'.setRow g cs) :=
  ⟨h.os, h.tape, h.output, by simp [World.setRow]; exact h.size, fun k hk => (setRow_other w' g k cs (by omega)).trans (h.block k hk)⟩
set_option maxHeartbeats 4000000 in
set_option maxRecDepth 100000 in
theorem told_own {B : Nat → Prop} {w : World} {m : Msg} {lv ev : Value} (h : LI B w m lv ev) (hm : Sm m) :
    Calls Try.prog 33 #[m.agg lv ev] w fun e w' => ∃ lv' ev', e = .returned (m.agg lv' ev') ∧ LI (fun k => w.heap.size ≤ k ∧ Soft w' k) w' m lv' ev' ∧ EntN w.heap.size w' ev' m.es ∧ Below w.heap.size w w' := by
  have HM := Lib.hid hm
  have H := Lib.hid h
  obtain ⟨la, lc, rfl, _⟩ := h.1.slice
  obtain ⟨ea, ec, rfl, _⟩ := h.2.slice
  clear h hm
  go_enter Try.func33, Try.ntmps33
  go_wp2_with fail
  have B1 : Hid (Below w.heap.size w ((w.alloc (.cells (m.arr (.slice la m.l.length lc) (.slice ea m.es.length ec)) 38)).alloc (.cells #[.int .u8 0, .int .i64 0, .int .i64 0, .int .i64 0, .int .i64 0, .int .i64 0, .int .i64 0, .bool false, .slice none 0 0, .slice none 0 0, .string ⟨#[]⟩] 38))) := ((Below.refl _ _).alloc (Nat.le_refl _) _).alloc (by simp) _
  have X1 : ((w.alloc (.cells (m.arr (.slice la m.l.length lc) (.slice ea m.es.length ec)) 38)).alloc (.cells #[.int .u8 0, .int .i64 0, .int .i64 0, .int .i64 0, .int .i64 0, .int .i64 0, .int .i64 0, .bool false, .slice none 0 0, .slice none 0 0, .string ⟨#[]⟩] 38)).heap[w.heap.size]? = some (msgO m (.slice la m.l.length lc) (.slice ea m.es.length ec)) := (Below.heap_alloc _ _ _ (by simp)).trans (heap_alloc_new w _)
  have Y1 : ((w.alloc (.cells (m.arr (.slice la m.l.length lc) (.slice ea m.es.length ec)) 38)).alloc (.cells #[.int .u8 0, .int .i64 0, .int .i64 0, .int .i64 0, .int .i64 0, .int .i64 0, .int .i64 0, .bool false, .slice none 0 0, .slice none 0 0, .string ⟨#[]⟩] 38)).heap[w.heap.size + 1]? = some (.cells #[.int .u8 0, .int .i64 0, .int .i64 0, .int .i64 0, .int .i64 0, .int .i64 0, .int .i64 0, .bool false, .slice none 0 0, .slice none 0 0, .string ⟨#[]⟩] 38) := by have := heap_alloc_new (w.alloc (.cells (m.arr (.slice la m.l.length lc) (.slice ea m.es.length ec)) 38)) (.cells #[.int .u8 0, .int .i64 0, .int .i64 0, .int .i64 0, .int .i64 0, .int .i64 0, .int .i64 0, .bool false, .slice none 0 0, .slice none 0 0, .string ⟨#[]⟩] 38); rwa [World.size_alloc] at this
  have S1 : ((w.alloc (.cells (m.arr (.slice la m.l.length lc) (.slice ea m.es.length ec)) 38)).alloc (.cells #[.int .u8 0, .int .i64 0, .int .i64 0, .int .i64 0, .int .i64 0, .int .i64 0, .int .i64 0, .bool false, .slice none 0 0, .slice none 0 0, .string ⟨#[]⟩] 38)).heap.size = w.heap.size + 2 := by simp
  generalize (w.alloc (.cells (m.arr (.slice la m.l.length lc) (.slice ea m.es.length ec)) 38)).alloc (.cells #[.int .u8 0, .int .i64 0, .int .i64 0, .int .i64 0, .int .i64 0, .int .i64 0, .int .i64 0, .bool false, .slice none 0 0, .slice none 0 0, .string ⟨#[]⟩] 38) = w1 at *
  refine (cloneI_any (H.out.1.below B1.out) HM.out.l).mono ?_
  rintro e w2 ⟨lv', rfl, r2, b2⟩
  have X2 := box_below X1 b2
  have Y2 := box_below Y1 b2
  have B2 : Hid (Below w.heap.size w w2) := B1.out.trans (b2.mono B1.out.size)
  obtain ⟨la', lc', rfl, _⟩ := r2.slice
  have S2 : w.heap.size + 2 ≤ w2.heap.size := by have := b2.size; omega
  have R2 : Hid (Run (fun k => w.heap.size + 2 ≤ k ∧ Soft w2 k) w2 (.slice la' m.l.length lc') m.l.length (intsC m.l)) := r2.mono (fun k _ hk => ⟨by have := hk.1; omega, hk.2⟩)
  clear r2 b2 X1 Y1
  have c8 := Lib.cell_of_heap X2 8
  have c9 := Lib.cell_of_heap X2 9
  have cf := fun j => Lib.frozen_of_heap X2 j
  have Y2h := Lib.hid Y2
  clear Y2
  go_wp2_with fail
  have X3 : (w2.setCell ⟨w.heap.size, 8, none⟩ (.slice la' m.l.length lc')).heap[w.heap.size]? = some (msgO m (.slice la' m.l.length lc') (.slice ea m.es.length ec)) := heap_set X2
  have Y3 : (w2.setCell ⟨w.heap.size, 8, none⟩ (.slice la' m.l.length lc')).heap[w.heap.size + 1]? = _ := (Below.heap_setCell _ _ _ _ (by simp)).trans Y2h.out
  have B3 : Hid (Below w.heap.size w (w2.setCell ⟨w.heap.size, 8, none⟩ (.slice la' m.l.length lc'))) := B2.out.setCell (p := ⟨w.heap.size, 8, none⟩) (Nat.le_refl _) _
  have HW2 : Hid (∀ k, w.heap.size + 2 ≤ k → (w2.setCell ⟨w.heap.size, 8, none⟩ (.slice la' m.l.length lc')).heap[k]? = w2.heap[k]?) := fun k hk => Below.heap_setCell _ _ _ _ (by show k ≠ w.heap.size; omega)
  have HZ2 : Hid ((w2.setCell ⟨w.heap.size, 8, none⟩ (.slice la' m.l.length lc')).heap.size = w2.heap.size) := by show _ = _; simp [World.setCell]
  have R3 : Hid (Run (fun k => w.heap.size + 2 ≤ k ∧ Soft w2 k) (w2.setCell ⟨w.heap.size, 8, none⟩ (.slice la' m.l.length lc')) (.slice la' m.l.length lc') m.l.length (intsC m.l)) := R2.out.keep (by simp [World.setCell]) (fun g hg _ => Below.heap_setCell _ _ _ _ (by show g ≠ w.heap.size; have := hg.1; omega))
  have S3 : w.heap.size + 2 ≤ (w2.setCell ⟨w.heap.size, 8, none⟩ (.slice la' m.l.length lc')).heap.size := by simp [World.setCell]; exact S2
  clear X2 Y2h B2 R2
  generalize w2.setCell ⟨w.heap.size, 8, none⟩ (.slice la' m.l.length lc') = w3 at *
  refine (cloneE_any (H.out.2.below B3.out) HM.out.e).mono ?_
  rintro e w4 ⟨ev', rfl, r4, b4⟩
  have X4 := box_below X3 b4
  have Y4 := Lib.hid (box_below Y3 b4)
  have B4 : Hid (Below w.heap.size w w4) := B3.out.trans (b4.mono B3.out.size)
  have R4 := Lib.hid (R3.out.below b4)
  have HW4 : Hid (∀ k, w.heap.size + 2 ≤ k → k < w2.heap.size → w4.heap[k]? = w2.heap[k]?) := fun k hk hl => (b4.block k (by rw [HZ2.out]; exact hl)).trans (HW2.out k hk)
  have S4 : w.heap.size + 2 ≤ w4.heap.size := Nat.le_trans S3 b4.size
  obtain ⟨ea', ec', rfl⟩ := row_slice r4
  have E4 : Hid (EntN (w.heap.size + 2) w4 (.slice ea' m.es.length ec') m.es) := own_base r4 S3
  clear r4 b4 X3 Y3 B3 R3 c8 c9 cf
  have c9 := Lib.cell_of_heap X4 9
  have cf := fun j => Lib.frozen_of_heap X4 j
  have X5 := Lib.hid (heap_set (j := 9) (u := .slice ea' m.es.length ec') X4)
  have Y5 := Lib.hid ((Below.heap_setCell w4 ⟨w.heap.size, 9, none⟩ (.slice ea' m.es.length ec') (w.heap.size + 1) (by simp)).trans Y4.out)
  have HI : Hid ((Try.prog.info? 38).map (·.size) = some 11) := infoMsg
  go_wp2_with (first
    | (refine wpList_load_row rfl 38 _ rfl w.heap.size rfl 38 (m.arr (.slice la' m.l.length lc') (.slice ea' m.es.length ec')) (0, 0) _ X5.out Try.underlying38 rfl HI.out ?_)
    | (go_loud (refine wpList_store_row rfl 38 _ _ rfl (w.heap.size + 1) (m.arr (.slice la' m.l.length lc') (.slice ea' m.es.length ec')) rfl rfl 38 _ Y5.out HI.out rfl (msg_one m _ _ _ _ _ _) ?_)))
  have k6 : ∀ g, w.heap.size + 2 ≤ g → ((w4.setCell ⟨w.heap.size, 9, none⟩ (.slice ea' m.es.length ec')).setRow (w.heap.size + 1) (m.arr (.slice la' m.l.length lc') (.slice ea' m.es.length ec'))).heap[g]? = w4.heap[g]? := fun g hg =>
    (setRow_other _ _ g _ (by omega)).trans (Below.heap_setCell _ _ _ _ (by show g ≠ w.heap.size; omega))
  have s6 : w4.heap.size ≤ ((w4.setCell ⟨w.heap.size, 9, none⟩ (.slice ea' m.es.length ec')).setRow (w.heap.size + 1) (m.arr (.slice la' m.l.length lc') (.slice ea' m.es.length ec'))).heap.size := by simp [World.setRow, World.setCell]
  have E6 := own_keep E4.out (fun g _ hg _ => k6 g hg)
  refine bodyPost_ret (v := m.agg (.slice la' m.l.length lc') (.slice ea' m.es.length ec')) (results_cell_row rfl _ _ (w.heap.size + 1) 38 (m.arr (.slice la' m.l.length lc') (.slice ea' m.es.length ec')) (0, 0) _ rfl (setRow_heap _ _ _ _ _ _ Y5.out) Try.underlying38 rfl HI.out) rfl ?_
  exact ⟨_, _, rfl, ⟨(R4.out.keep s6 (fun g hg _ => k6 g hg.1)).mono (fun k _ hk => ⟨by have := hk.1; omega, hk.2.eq ((k6 k hk.1).trans (HW4.out k hk.1 hk.2.lt))⟩), (own_soft E6 (by decide)).mono (fun k _ hk => ⟨by have := hk.1; omega, hk.2⟩)⟩, own_base E6 (by omega), below_setRow (B4.out.setCell (p := ⟨w.heap.size, 9, none⟩) (Nat.le_refl _) _) (by omega) _⟩
/-- a copy of a message, that may be written over -/
theorem told_soft {B : Nat → Prop} {w : World} {m : Msg} {lv ev : Value} (h : LI B w m lv ev) (hm : Sm m) :
    Calls Try.prog 33 #[m.agg lv ev] w fun e w' => ∃ lv' ev', e = .returned (m.agg lv' ev') ∧ LI (fun k => w.heap.size ≤ k ∧ Soft w' k) w' m lv' ev' ∧ Below w.heap.size w w' :=
  (told_own h hm).mono (fun _ _ ⟨lv', ev', h1, h2, _, h3⟩ => ⟨lv', ev', h1, h2, h3⟩)
/-- a copy of a message -/
theorem told_any {B : Nat → Prop} {w : World} {m : Msg} {lv ev : Value} (h : LI B w m lv ev) (hm : Sm m) :
    Calls Try.prog 33 #[m.agg lv ev] w fun e w' => ∃ lv' ev', e = .returned (m.agg lv' ev') ∧ LI (fun k => w.heap.size ≤ k) w' m lv' ev' ∧ Below w.heap.size w w' :=
  (told_own h hm).mono (fun _ _ ⟨lv', ev', h1, h2, _, h3⟩ => ⟨lv', ev', h1, h2.mono (fun _ _ hk => hk.1), h3⟩)
end Go.Proofs.Ytheldpdckgoniaa
