/- The document's copy of a message. -/
import Derived.Test.YtheldpdckgoniaaTold
namespace Go.Proofs.Ytheldpdckgoniaa
open Go.RowKit

set_option maxHeartbeats 4000000 in
set_option maxRecDepth 100000 in
theorem copied_any {B : Nat → Prop} {w : World} {m : Msg} {lv ev : Value} (h : LI B w m lv ev) (hm : Sm m) :
    Calls Try.prog 26 #[m.agg lv ev] w fun e w' => ∃ lv' ev', e = .returned (m.agg lv' ev') ∧ LI (fun k => w.heap.size ≤ k) w' m lv' ev' ∧ Below w.heap.size w w' := by
  have HM := Lib.hid hm
  have H := Lib.hid h
  have hml := hm.l
  have hme := hm.e
  obtain ⟨la, lc, rfl, _⟩ := h.1.slice
  obtain ⟨ea, ec, rfl, _⟩ := h.2.slice
  clear h hm
  obtain ⟨i0, hi, hz0, hz1, hz2⟩ := info_parts info_int
  obtain ⟨j0, hj, hy0, hy1, hy2⟩ := info_parts info_ent
  have HI : Hid ((Try.prog.info? 38).map (·.size) = some 11) := infoMsg
  obtain ⟨w1, hw1⟩ : ∃ w1, w1 = (w.alloc (.cells (m.arr (.slice la m.l.length lc) (.slice ea m.es.length ec)) 38)).alloc (.cells #[.int .u8 0, .int .i64 0, .int .i64 0, .int .i64 0, .int .i64 0, .int .i64 0, .int .i64 0, .bool false, .slice none 0 0, .slice none 0 0, .string ⟨#[]⟩] 38) := ⟨_, rfl⟩
  have B1 : Hid (Below w.heap.size w w1) := by rw [hw1]; exact ((Below.refl _ _).alloc (Nat.le_refl _) _).alloc (by simp) _
  have X1 : w1.heap[w.heap.size]? = some (msgO m (.slice la m.l.length lc) (.slice ea m.es.length ec)) := by rw [hw1]; exact (Below.heap_alloc _ _ _ (by simp)).trans (heap_alloc_new w _)
  have Y1 : w1.heap[w.heap.size + 1]? = some (.cells #[.int .u8 0, .int .i64 0, .int .i64 0, .int .i64 0, .int .i64 0, .int .i64 0, .int .i64 0, .bool false, .slice none 0 0, .slice none 0 0, .string ⟨#[]⟩] 38 (0, 0)) := by rw [hw1]; have := heap_alloc_new (w.alloc (.cells (m.arr (.slice la m.l.length lc) (.slice ea m.es.length ec)) 38)) (.cells #[.int .u8 0, .int .i64 0, .int .i64 0, .int .i64 0, .int .i64 0, .int .i64 0, .int .i64 0, .bool false, .slice none 0 0, .slice none 0 0, .string ⟨#[]⟩] 38); rwa [World.size_alloc] at this
  have S1 : w1.heap.size = w.heap.size + 2 := by rw [hw1]; simp
  have L1 : Hid (LI B w1 m (.slice la m.l.length lc) (.slice ea m.es.length ec)) := H.out.below B1.out
  have HS1 : Hid (Src w1 (.slice la m.l.length lc) m.l.length (intsC m.l)) := L1.out.1.src (fun e => by rw [List.length_eq_zero_iff.1 e]; rfl)
  have HW := Lib.hid hw1
  clear hw1
  have c8 : w1.cell? ⟨w.heap.size, 8, none⟩ = some (.slice la m.l.length lc) := Lib.cell_of_heap X1 8
  go_enter Try.func26, Try.ntmps26
  go_wp2_with (at_builtin; go_loud (rw [← HW.out]; refine wpList_append_row rfl _ _ 35 rfl w1.heap.size 3 i0 (.int .i64 0) 1 8 Try.underlying35 hi hz0 hz1 hz2 rfl (by decide) _ 0 [] rfl (World.ownsRow_nil _ _ _ _) _ m.l.length (intsC m.l) rfl HS1.out (by simp [intsC]) (ints_one m.l) (by unfold maxLen; omega) (by omega) (Nat.le_refl _) ?_))
  intro v' w2 ho hg _
  have b2 : Below w1.heap.size w1 w2 := ⟨hg.os, hg.tape, hg.output, hg.size, fun k hk => hg.block k hk (by simp [Value.ownBlock])⟩
  have X2 := box_below X1 b2
  have Y2 := Lib.hid (box_below Y1 b2)
  have B2 : Hid (Below w.heap.size w w2) := B1.out.trans (b2.mono B1.out.size)
  have R2 : Hid (Run (fun k => w.heap.size + 2 ≤ k) w2 v' m.l.length (intsC m.l)) := Lib.hid (by have := Run.of_own ho (by decide); simpa using this)
  have S2 : w.heap.size + 2 ≤ w2.heap.size := by have := b2.size; omega
  have c8' := Lib.cell_of_heap X2 8
  have c9 := Lib.cell_of_heap X2 9
  have cf := fun j => Lib.frozen_of_heap X2 j
  obtain ⟨la', lc', rfl⟩ := row_slice ho
  obtain ⟨w3, hw3⟩ : ∃ w3, w3 = w2.setCell ⟨w.heap.size, 8, none⟩ (.slice la' m.l.length lc') := ⟨_, rfl⟩
  have X3 : w3.heap[w.heap.size]? = some (msgO m (.slice la' m.l.length lc') (.slice ea m.es.length ec)) := by rw [hw3]; exact heap_set X2
  have Y3 : Hid (w3.heap[w.heap.size + 1]? = some (.cells #[.int .u8 0, .int .i64 0, .int .i64 0, .int .i64 0, .int .i64 0, .int .i64 0, .int .i64 0, .bool false, .slice none 0 0, .slice none 0 0, .string ⟨#[]⟩] 38 (0, 0))) := by rw [hw3]; exact (Below.heap_setCell _ _ _ _ (by simp)).trans Y2.out
  have B3 : Hid (Below w.heap.size w w3) := by rw [hw3]; exact B2.out.setCell (p := ⟨w.heap.size, 8, none⟩) (Nat.le_refl _) _
  have R3 : Hid (Run (fun k => w.heap.size + 2 ≤ k) w3 (.slice la' m.l.length lc') m.l.length (intsC m.l)) := by
    rw [hw3]; exact R2.out.keep (by simp [World.setCell]) (fun g hg _ => Below.heap_setCell _ _ _ _ (by show g ≠ w.heap.size; omega))
  have S3 : w.heap.size + 2 ≤ w3.heap.size := by rw [hw3]; simp [World.setCell]; exact S2
  have HW3 := Lib.hid hw3
  have HS3 : Hid (Src w3 (.slice ea m.es.length ec) m.es.length (entC m.es)) := (H.out.2.below B3.out).src (fun e => by rw [List.length_eq_zero_iff.1 e]; rfl)
  clear ho hg b2 X2 Y2 B2 R2 S2 hw3 X1 Y1 L1 HS1 c8 HW
  go_wp2_with (at_builtin; go_loud (rw [← HW3.out]; refine wpList_append_row rfl _ _ 36 rfl w3.heap.size 52 j0 (.agg #[.int .i64 0, .string ⟨#[]⟩]) 2 24 Try.underlying36 hj hy0 hy1 hy2 rfl (by decide) _ 0 [] rfl (World.ownsRow_nil _ _ _ _) _ m.es.length (entC m.es) rfl HS3.out (entC_len m.es) (ent_one m.es) (by unfold maxLen; omega) (by omega) (Nat.le_refl _) ?_))
  intro v' w4 ho hg _
  have b4 : Below w3.heap.size w3 w4 := ⟨hg.os, hg.tape, hg.output, hg.size, fun k hk => hg.block k hk (by simp [Value.ownBlock])⟩
  have X4 := box_below X3 b4
  have Y4 := Lib.hid (box_below Y3.out b4)
  have B4 : Hid (Below w.heap.size w w4) := B3.out.trans (b4.mono B3.out.size)
  have R4 := Lib.hid (R3.out.below b4)
  have E4 : Hid (EntN (w.heap.size + 2) w4 v' m.es) := Lib.hid (own_base (by simpa using ho) S3)
  obtain ⟨ea', ec', rfl⟩ := row_slice ho
  have c9' := Lib.cell_of_heap X4 9
  have cf' := fun j => Lib.frozen_of_heap X4 j
  have X5 := Lib.hid (heap_set (j := 9) (u := .slice ea' m.es.length ec') X4)
  have Y5 := Lib.hid ((Below.heap_setCell w4 ⟨w.heap.size, 9, none⟩ (.slice ea' m.es.length ec') (w.heap.size + 1) (by simp)).trans Y4.out)
  have S4 : w.heap.size + 2 ≤ w4.heap.size := Nat.le_trans S3 b4.size
  clear ho hg b4 X3 Y3 B3 R3 S3 c9 HW3 HS3 c8' cf
  go_wp2_with (first
    | (refine wpList_load_row rfl 38 _ rfl w.heap.size rfl 38 (m.arr (.slice la' m.l.length lc') (.slice ea' m.es.length ec')) (0, 0) _ X5.out Try.underlying38 rfl HI.out ?_)
    | (refine wpList_store_row rfl 38 _ _ rfl (w.heap.size + 1) (m.arr (.slice la' m.l.length lc') (.slice ea' m.es.length ec')) rfl rfl 38 _ Y5.out HI.out rfl (msg_one m _ _ _ _ _ _) ?_))
  have k6 : ∀ g, w.heap.size + 2 ≤ g → ((w4.setCell ⟨w.heap.size, 9, none⟩ (.slice ea' m.es.length ec')).setRow (w.heap.size + 1) (m.arr (.slice la' m.l.length lc') (.slice ea' m.es.length ec'))).heap[g]? = w4.heap[g]? := fun g hg =>
    (setRow_other _ _ g _ (by omega)).trans (Below.heap_setCell _ _ _ _ (by show g ≠ w.heap.size; omega))
  have s6 : w4.heap.size ≤ ((w4.setCell ⟨w.heap.size, 9, none⟩ (.slice ea' m.es.length ec')).setRow (w.heap.size + 1) (m.arr (.slice la' m.l.length lc') (.slice ea' m.es.length ec'))).heap.size := by simp [World.setRow, World.setCell]
  have E6 := own_keep E4.out (fun g _ hg _ => k6 g hg)
  refine bodyPost_ret (v := m.agg (.slice la' m.l.length lc') (.slice ea' m.es.length ec')) (results_cell_row rfl _ _ (w.heap.size + 1) 38 (m.arr (.slice la' m.l.length lc') (.slice ea' m.es.length ec')) (0, 0) _ rfl (setRow_heap _ _ _ _ _ _ Y5.out) Try.underlying38 rfl HI.out) rfl ?_
  exact ⟨_, _, rfl, ⟨(R4.out.keep s6 (fun g hg _ => k6 g hg)).mono (fun k _ hk => by omega), (entN_run E6).mono (fun k _ hk => by omega)⟩, below_setRow (B4.out.setCell (p := ⟨w.heap.size, 9, none⟩) (Nat.le_refl _) _) (by omega) _⟩
end Go.Proofs.Ytheldpdckgoniaa
