/- The document's table: Note, Drop. -/
import Derived.Test.YtckbbakajabhmaaRTab3
namespace Go.Proofs.Ytckbbakajabhmaa
open Go.RowKit Go.Maps

theorem elem_pair : Try.prog.elem 37 = 64 := by kernel_rfl
theorem under_pair : Try.prog.underlying 37 = some (.slice (Try.prog.elem 37)) := by rw [elem_pair]; exact Try.underlying37
set_option maxRecDepth 100000 in
set_option maxHeartbeats 2000000 in
theorem rNote_any {S : Nat → Prop} {w : World} {rb n : Nat} {g : G} (h : RTab S w rb n g) (hS : ∀ k, w.heap.size ≤ k → S k) (hc : n ≤ 1048576) (k u : Int) :
    Calls Try.prog 27 #[ptrV rb, .int .i64 k, .int .i64 u] w fun e w' => e = .returned (.tuple #[]) ∧ RTab S w' rb (n + 1) (noteG g k u) ∧ Kept S w w' := by
  obtain ⟨L, v, h, hd, rfl, hl⟩ := h
  obtain ⟨i0, hi0, hz0, hz1, hz2⟩ := info_parts info_pair
  have HF := Lib.hid (rFind_any h (by omega) k)
  have H := Lib.hid h
  have HD := Lib.hid hd
  obtain ⟨a, c, rfl⟩ := h.slice
  have c0 : w.cell? ⟨rb, 0, none⟩ = some (.slice a L.length c) := by rw [Lib.cell_of_heap h.block]; rfl
  cases e : lookL L k with
  | none =>
    have HG : Hid (lookL (L ++ [(k, u)]) = noteG (lookL L) k u) := by show _ = _; rw [look_snoc e]; unfold noteG; rw [e]
    have HK := Lib.hid (keys_snoc hd e u)
    have hlt := heap_lt h.block
    have c0a := fun o => (cell_alloc w o 0 hlt).trans c0
    have hsrc : Src (w.alloc (.cells #[.int .i64 k, .int .i64 u] 64)) (.slice (some ⟨w.heap.size, 0, none⟩) 1 1) 1 [.int .i64 k, .int .i64 u] :=
      .inr ⟨_, _, rfl, fun j x hx => by
        rw [add_zero_off, Lib.cell_of_heap (heap_alloc_new w _)]
        have := (List.getElem?_eq_some_iff.1 hx).1
        simp only [List.length_cons, List.length_nil] at this
        rcases j with _ | _ | j
        · exact hx
        · exact hx
        · omega⟩
    have HR := Lib.hid (h.row.alloc (.cells #[.int .i64 k, .int .i64 u] 64))
    rw [find_none L 0 k e] at HF
    clear h e hd
    go_enter Try.func27, Try.ntmps27
    go_wp2_with fail
    refine HF.out.mono ?_
    rintro e w1 ⟨rfl, rfl⟩
    go_wp2_with (at_builtin; go_loud (refine wpList_append_row rfl _ _ 37 rfl 0 64 i0 (.agg #[.int .i64 0, .int .i64 0]) 2 16 Try.underlying37 hi0 hz0 hz1 hz2 rfl (by decide) _ L.length (pairL L) rfl HR.out _ 1 [.int .i64 k, .int .i64 u] rfl hsrc rfl (by intro x hx; simp only [List.mem_cons, List.not_mem_nil, or_false] at hx; rcases hx with rfl | rfl <;> rfl) (by unfold maxLen; omega) (by omega) (Nat.zero_le _) ?_))
    intro v' w2 ho hg hw
    have hrlt := H.out.row.lt
    have hown := H.out.own
    have hne : some rb ≠ (Value.slice a L.length c).ownBlock := fun e => (hown rb e.symm).2 rfl
    have hb2 : w2.heap[rb]? = w.heap[rb]? := (hg.block rb (by simp; omega) hne).trans (Below.heap_alloc _ _ _ hlt)
    have c2 : w2.cell? ⟨rb, 0, none⟩ = some (.slice a L.length c) := (World.cell?_of_block (a := ⟨rb, 0, none⟩) hb2).trans c0
    have f2 : w2.frozen? ⟨rb, 0, none⟩ = false := Lib.frozen_of_heap (hb2.trans H.out.block) 0
    have HB := Lib.hid hb2
    have hK : Kept S w w2 := ((Kept.refl S w).alloc _).trans (Kept.of_grown hg (fun p hp => (hown p hp).1))
    have HKK := Lib.hid hK
    have HW : Hid (∀ g, v'.ownBlock = some g → S g ∧ g ≠ rb) := fun g hg' => by
      rcases hw with hw | hw
      · exact hown g (hw.symm.trans hg')
      · rw [hw] at hg'; cases hg'; exact ⟨hS _ (by omega), by omega⟩
    have HO := Lib.hid ho
    obtain ⟨va, vc, rfl⟩ := row_slice ho
    clear ho hg hw hK hb2 hrlt hown hne hsrc c0a
    go_wp2
    go_end0
    have ho2 : w2.ownsRow 0 64 2 (.slice va (L.length + 1) vc) (L ++ [(k, u)]).length (pairL (L ++ [(k, u)])) := by rw [pairL_append, List.length_append]; exact HO.out
    have hr := H.out.relay HKK.out HB.out ho2 HW.out
    exact ⟨rfl, ⟨_, _, hr.1, HK.out, HG.out, by simp; omega⟩, hr.2⟩
  | some x =>
    obtain ⟨i, e1, _, _⟩ := find_some L 0 k x e
    rw [e1, Nat.zero_add] at HF
    have HG : Hid (lookL L = noteG (lookL L) k u) := by show _ = _; unfold noteG; rw [e]
    clear h e e1
    go_enter Try.func27, Try.ntmps27
    go_wp2_with fail
    refine HF.out.mono ?_
    rintro e w1 ⟨rfl, rfl⟩
    go_wp2
    go_end0
    exact ⟨rfl, ⟨_, _, H.out, HD.out, HG.out, by omega⟩, Kept.refl _ _⟩
set_option maxRecDepth 100000 in
set_option maxHeartbeats 2000000 in
theorem rDrop_any {S : Nat → Prop} {w : World} {rb n : Nat} {g : G} (h : RTab S w rb n g) (hS : ∀ k, w.heap.size ≤ k → S k) (hc : n ≤ 1048576) (k : Int) :
    Calls Try.prog 21 #[ptrV rb, .int .i64 k] w fun e w' => e = .returned (.tuple #[]) ∧ RTab S w' rb n (dropG g k) ∧ Kept S w w' := by
  obtain ⟨L, v, h, hd, rfl, hl⟩ := h
  obtain ⟨i0, hi0, hz0, hz1, hz2⟩ := info_parts info_pair
  have HF := Lib.hid (rFind_any h (by omega) k)
  have H := Lib.hid h
  have HD := Lib.hid hd
  obtain ⟨a, c, rfl⟩ := h.slice
  have c0 : w.cell? ⟨rb, 0, none⟩ = some (.slice a L.length c) := by rw [Lib.cell_of_heap h.block]; rfl
  cases e : lookL L k with
  | none =>
    have HG : Hid (lookL L = dropG (lookL L) k) := by
      funext y
      unfold dropG upd
      split
      · rename_i c; rw [c, e]
      · rfl
    rw [find_none L 0 k e] at HF
    clear h e
    go_enter Try.func21, Try.ntmps21
    go_wp2_with fail
    refine HF.out.mono ?_
    rintro e w1 ⟨rfl, rfl⟩
    go_wp2
    go_end0
    exact ⟨rfl, ⟨_, _, H.out, HD.out, HG.out, by omega⟩, Kept.refl _ _⟩
  | some x =>
    obtain ⟨i, e1, e2, e3⟩ := find_some L 0 k x e
    rw [e1, Nat.zero_add] at HF
    have hi := (List.getElem?_eq_some_iff.1 e2).1
    obtain ⟨g, rfl, _, hcap, hgr, hSg, hgl, _, _, _⟩ := h.get e2
    have hrow := h.row
    have hcm : c ≤ 9223372036854775807 := by
      rcases hrow.2 with ⟨e, _⟩ | ⟨g', cap, cur, e, _, _, _, hm, _⟩
      · cases e
      · cases e; unfold maxLen at hm; omega
    have HL : Hid (lookL (L.take i ++ L.drop (i + 1)) = dropG (lookL L) k ∧ Keys (L.take i ++ L.drop (i + 1))) := ⟨look_erase hd e2 e3, keys_erase hd e2⟩
    have hlt := heap_lt h.block
    have hcell : ∀ j u, (pairL L)[j]? = some u → w.cell? ⟨g, j, none⟩ = some u := fun j u hu => by
      have := hrow.cells (g := g) rfl j u hu
      rwa [add_zero_off] at this
    have hsl : ∀ (lo hi mx : Option Value) (V : Value), (∀ w', (Instr.slice 37 (.slice (some ⟨g, 0, none⟩) L.length c) lo hi mx).run Try.prog w' = .ok V w') → ∀ w', (Instr.sliceAt 37 (.slice (some ⟨g, 0, none⟩) L.length c) lo hi mx).run Try.prog w' = .ok V w' := fun lo hi mx V h w' => by rw [run_sliceAt_slice w' _ _ _ _ _ under_pair]; exact h w'
    -- l[:i]
    have r2 : ∀ w', (Instr.slice 37 (.slice (some ⟨g, 0, none⟩) L.length c) none (some (.int .i64 (i : Int))) none).run Try.prog w' = .ok (.slice (some ⟨g, 0, none⟩) i c) w' := fun w' => by
      rw [run_slice_h w' 37 (some ⟨g, 0, none⟩) L.length c under_pair .i64 (i : Int) (by omega) (by omega), elem_pair, Try.sizeOf64]
      simp [sliced, Result.andThen, add_zero_off]
    have s2 : Src w (.slice (some ⟨g, 0, none⟩) i c) i (pairL (L.take i)) := .inr ⟨_, _, rfl, fun j u hu => by
      rw [add_zero_off]
      rw [pairL_take, List.getElem?_take] at hu
      split at hu
      · exact hcell j u hu
      · cases hu⟩
    -- l[i+1:]
    obtain ⟨A, r3, s3⟩ : ∃ A : Addr, (∀ w', (Instr.slice 37 (.slice (some ⟨g, 0, none⟩) L.length c) (some (.int .i64 ((i : Int) + 1))) none none).run Try.prog w' = .ok (.slice (some A) (L.length - (i + 1)) (c - (i + 1))) w') ∧
        A.block = g ∧ ∀ t u, (pairL (L.drop (i + 1)))[t]? = some u → w.cell? (A.add t) = some u ∧ (A.add t).block = g := by
      have hr : ∀ w', (Instr.slice 37 (.slice (some ⟨g, 0, none⟩) L.length c) (some (.int .i64 ((i : Int) + 1))) none none).run Try.prog w' = .ok (sliced (some ⟨g, 0, none⟩) (i + 1) L.length c 2) w' := fun w' => by
        rw [run_slice_l w' 37 (some ⟨g, 0, none⟩) L.length c under_pair .i64 ((i : Int) + 1) (by omega) (by omega), elem_pair, Try.sizeOf64]
        rfl
      by_cases h0 : c = i + 1
      · refine ⟨⟨g, 0, none⟩, fun w' => by rw [hr]; unfold sliced; rw [if_pos h0], rfl, fun t u hu => ?_⟩
        rw [List.drop_eq_nil_of_le (by omega)] at hu
        simp [pairL] at hu
      · refine ⟨⟨g, (i + 1) * 2, none⟩, fun w' => by rw [hr]; unfold sliced; rw [if_neg h0]; simp [add_zero_off], rfl, fun t u hu => ?_⟩
        rw [add_off]
        rw [pairL_drop, List.getElem?_drop] at hu
        exact ⟨hcell _ _ hu, rfl⟩
    have r2' := hsl _ _ _ _ r2
    have r3' := hsl _ _ _ _ r3
    have hii : (i : Int) < (L.length : Int) := by omega
    have hib : (i : Int) + 1 ≤ 1048577 := by omega
    have hli : L.length ≤ 1048576 := by omega
    have HBK := Lib.hid h.block
    have HS3 := Lib.hid s3
    have HI := Lib.hid hi
    have hrb := h.mine
    clear h e e1 e2 e3 hd hcell hrow hsl s3
    obtain ⟨m, hm⟩ : ∃ m, m = L.length - (i + 1) := ⟨_, rfl⟩
    obtain ⟨c3, hc3⟩ : ∃ c3, c3 = c - (i + 1) := ⟨_, rfl⟩
    rw [← hm, ← hc3] at r3 r3'
    have HM := Lib.hid hm
    clear hm hc3
    go_enter Try.func21, Try.ntmps21
    go_wp2_with fail
    refine HF.out.mono ?_
    rintro e w1 ⟨rfl, rfl⟩
    go_wp2_with (at_builtin; go_loud (refine wpList_append_row rfl _ _ 37 rfl 0 64 i0 (.agg #[.int .i64 0, .int .i64 0]) 2 16 Try.underlying37 hi0 hz0 hz1 hz2 rfl (by decide) _ 0 [] rfl (World.ownsRow_nil _ _ _ _) _ i (pairL (L.take i)) rfl s2 (by rw [pairL_len, List.length_take, Nat.min_eq_left (Nat.le_of_lt HI.out)]) (pairL_one _) (by unfold maxLen; omega) (by omega) (Nat.zero_le _) ?_))
    intro v1 w2 ho hg hw
    have hb2 : ∀ j, j < w.heap.size → w2.heap[j]? = w.heap[j]? := fun j hj => hg.block j hj (by simp [Value.ownBlock])
    have c2 : w2.cell? ⟨rb, 0, none⟩ = some (.slice (some ⟨g, 0, none⟩) L.length c) := (World.cell?_of_block (a := ⟨rb, 0, none⟩) (hb2 rb hlt)).trans c0
    have hv1 : ∀ j, v1.ownBlock = some j → w.heap.size ≤ j := fun j hj => by
      rcases hw with hw | hw
      · rw [hw] at hj; simp [Value.ownBlock] at hj
      · rw [hw] at hj; cases hj; exact Nat.le_refl _
    have s4 : Src w2 (.slice (some A) m c3) m (pairL (L.drop (i + 1))) := .inr ⟨_, _, rfl, fun t u hu => by
      obtain ⟨x1, x2⟩ := HS3.out.2 t u hu
      exact (World.cell?_of_block (a := A.add t) (by rw [x2]; exact hb2 g hgl)).trans x1⟩
    have HB2 := Lib.hid hb2
    have HV1 := Lib.hid hv1
    have hK2 : Hid (Kept S w w2) := Kept.of_grown hg (fun p hp => by simp [Value.ownBlock] at hp)
    have ho1 : Hid (w2.ownsRow 0 64 2 v1 i (pairL (L.take i))) := by show w2.ownsRow _ _ _ _ _ _; simpa using ho
    obtain ⟨va, vc, rfl⟩ := row_slice ho1.out
    have hs2 := hg.size
    clear ho hg hw hb2 hv1
    go_wp2_with (at_builtin; go_loud (refine wpList_append_row rfl _ _ 37 rfl 0 64 i0 (.agg #[.int .i64 0, .int .i64 0]) 2 16 Try.underlying37 hi0 hz0 hz1 hz2 rfl (by decide) _ i (pairL (L.take i)) rfl ho1.out _ m (pairL (L.drop (i + 1))) rfl s4 (by rw [pairL_len, List.length_drop, HM.out]) (pairL_one _) (by have := HM.out; unfold maxLen; omega) (by have := HM.out; omega) (Nat.zero_le _) ?_))
    intro v2 w3 ho hg hw
    have hrne : some rb ≠ (Value.slice va i vc).ownBlock := fun e => by have := HV1.out rb e.symm; omega
    have hb3 : w3.heap[rb]? = w.heap[rb]? := (hg.block rb (by omega) hrne).trans (HB2.out rb hlt)
    have c4 : w3.cell? ⟨rb, 0, none⟩ = some (.slice (some ⟨g, 0, none⟩) L.length c) := (World.cell?_of_block (a := ⟨rb, 0, none⟩) hb3).trans c0
    have f4 : w3.frozen? ⟨rb, 0, none⟩ = false := Lib.frozen_of_heap (hb3.trans HBK.out) 0
    have HB3 := Lib.hid hb3
    have HKK : Hid (Kept S w w3) := hK2.out.trans (Kept.of_grown hg (fun p hp => hS p (HV1.out p hp)))
    have HW : Hid (∀ g, v2.ownBlock = some g → S g ∧ g ≠ rb) := fun g hg' => by
      rcases hw with hw | hw
      · rw [hw] at hg'; have := HV1.out g hg'; exact ⟨hS _ this, by omega⟩
      · rw [hw] at hg'; cases hg'; exact ⟨hS _ hs2, by omega⟩
    have HO := Lib.hid ho
    obtain ⟨va2, vc2, rfl⟩ := row_slice ho
    clear ho hg hw hb3 s4 hrne
    go_wp2
    go_end0
    have e9 : (L.take i ++ L.drop (i + 1)).length = i + m := by rw [List.length_append, List.length_take, List.length_drop, Nat.min_eq_left (Nat.le_of_lt HI.out), HM.out]
    have ho2 : w3.ownsRow 0 64 2 (.slice va2 (i + m) vc2) (L.take i ++ L.drop (i + 1)).length (pairL (L.take i ++ L.drop (i + 1))) := by rw [pairL_append, e9]; exact HO.out
    have hr := H.out.relay HKK.out HB3.out ho2 HW.out
    exact ⟨rfl, ⟨_, _, hr.1, HL.out.2, HL.out.1, by have := HM.out; rw [e9]; omega⟩, hr.2⟩
end Go.Proofs.Ytckbbakajabhmaa
