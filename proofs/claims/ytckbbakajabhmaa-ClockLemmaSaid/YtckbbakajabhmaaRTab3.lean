/- The document's table: Grant, Note, Drop. -/
import Derived.Test.YtckbbakajabhmaaRTab2
import Derived.Laws.Rows
namespace Go.Proofs.Ytckbbakajabhmaa
open Go.RowKit Go.Maps

theorem info_pair : (Try.prog.info? 64).map (fun i => (i.zero, i.size, i.bytes)) = some (some (.agg #[.int .i64 0, .int .i64 0]), 2, 16) := by kernel_rfl
/-- a new row laid into the table -/
theorem RO.relay {S : Nat → Prop} {w w2 : World} {rb : Nat} {L L' : PL} {v v' : Value} (h : RO S w rb L v) (hk : Kept S w w2) (hb : w2.heap[rb]? = w.heap[rb]?) (ho : w2.ownsRow 0 64 2 v' L'.length (pairL L'))
    (hv : ∀ g, v'.ownBlock = some g → S g ∧ g ≠ rb) : RO S (w2.setCell ⟨rb, 0, none⟩ v') rb L' v' ∧ Kept S w (w2.setCell ⟨rb, 0, none⟩ v') := by
  refine ⟨⟨h.mine, ?_, own_keep ho (fun g hg _ _ => Below.heap_setCell _ _ _ _ (fun e => (hv g hg).2 e)), hv⟩, hk.set (.inl h.mine) _⟩
  have hb2 := hb.trans h.block
  simp [World.setCell, Array.getElem?_modify, hb2]
/-- a pair's number written anew -/
theorem RO.store {S : Nat → Prop} {w : World} {rb : Nat} {L : PL} {g m c i : Nat} {k e : Int} (h : RO S w rb L (.slice (some ⟨g, 0, none⟩) m c)) (hi : L[i]? = some (k, e)) (x : Int) :
    RO S (w.setCell ⟨g, i * 2 + 1, none⟩ (.int .i64 x)) rb (L.set i (k, x)) (.slice (some ⟨g, 0, none⟩) m c) ∧ Kept S w (w.setCell ⟨g, i * 2 + 1, none⟩ (.int .i64 x)) := by
  have ho := h.own g rfl
  have hn : m = L.length := by
    rcases h.row.2 with ⟨e, _⟩ | ⟨g', cap, cur, e, _⟩
    · cases e
    · cases e; rfl
  subst hn
  refine ⟨⟨h.mine, ?_, ?_, h.own⟩, (Kept.refl S w).set (.inl ho.1) _⟩
  · rw [Below.heap_setCell _ _ _ _ (fun e => ho.2 e.symm)]; exact h.block
  · have := (h.row.stored (i * 2 + 1) (.int .i64 x)).1
    rw [List.length_set, pairL_set x hi]
    exact this
set_option maxRecDepth 100000 in
set_option maxHeartbeats 2000000 in
theorem rGrant_any {S : Nat → Prop} {w : World} {rb n : Nat} {g : G} (h : RTab S w rb n g) (hS : ∀ k, w.heap.size ≤ k → S k) (hc : n ≤ 1048576) (k u : Int) :
    Calls Try.prog 19 #[ptrV rb, .int .i64 k, .int .i64 u] w fun e w' => e = .returned (.tuple #[]) ∧ RTab S w' rb (n + 1) (grantG g k u) ∧ Kept S w w' := by
  obtain ⟨L, v, h, hd, rfl, hl⟩ := h
  obtain ⟨i0, hi0, hz0, hz1, hz2⟩ := info_parts info_pair
  have HF := Lib.hid (rFind_any h (by omega) k)
  have H := Lib.hid h
  have HD := Lib.hid hd
  obtain ⟨a, c, rfl⟩ := h.slice
  have c0 : w.cell? ⟨rb, 0, none⟩ = some (.slice a L.length c) := by rw [Lib.cell_of_heap h.block]; rfl
  cases e : lookL L k with
  | none =>
    have HG : Hid (lookL (L ++ [(k, u)]) = grantG (lookL L) k u) := by show _ = _; rw [look_snoc e]; unfold grantG; rw [e]
    have HK := Lib.hid (keys_snoc hd e u)
    have hlt := heap_lt h.block
    have c0a := fun o => (cell_alloc w o 0 hlt).trans c0
    have hsrc : Src (w.alloc (.cells #[.int .i64 k, .int .i64 u] 64)) (.slice (some ⟨w.heap.size, 0, none⟩) 1 1) 1 [.int .i64 k, .int .i64 u] :=
      .inr ⟨_, _, rfl, fun j x hx => by
        rw [add_zero_off, Lib.cell_of_heap (heap_alloc_new w _)]
        have := (List.getElem?_eq_some_iff.1 hx).1
        simp only [List.length_cons, List.length_nil] at this
        rcases j with _ | _ | j
        · exact hx
        · exact hx
        · omega⟩
    have HR := Lib.hid (h.row.alloc (.cells #[.int .i64 k, .int .i64 u] 64))
    rw [find_none L 0 k e] at HF
    clear h e hd
    go_enter Try.func19, Try.ntmps19
    go_wp2_with fail
    refine HF.out.mono ?_
    rintro e w1 ⟨rfl, rfl⟩
    go_wp2_with (at_builtin; go_loud (refine wpList_append_row rfl _ _ 37 rfl 0 64 i0 (.agg #[.int .i64 0, .int .i64 0]) 2 16 Try.underlying37 hi0 hz0 hz1 hz2 rfl (by decide) _ L.length (pairL L) rfl HR.out _ 1 [.int .i64 k, .int .i64 u] rfl hsrc rfl (by intro x hx; simp only [List.mem_cons, List.not_mem_nil, or_false] at hx; rcases hx with rfl | rfl <;> rfl) (by unfold maxLen; omega) (by omega) (Nat.zero_le _) ?_))
    intro v' w2 ho hg hw
    have hrlt := H.out.row.lt
    have hown := H.out.own
    have hne : some rb ≠ (Value.slice a L.length c).ownBlock := fun e => (hown rb e.symm).2 rfl
    have hb2 : w2.heap[rb]? = w.heap[rb]? := (hg.block rb (by simp; omega) hne).trans (Below.heap_alloc _ _ _ hlt)
    have c2 : w2.cell? ⟨rb, 0, none⟩ = some (.slice a L.length c) := (World.cell?_of_block (a := ⟨rb, 0, none⟩) hb2).trans c0
    have f2 : w2.frozen? ⟨rb, 0, none⟩ = false := Lib.frozen_of_heap (hb2.trans H.out.block) 0
    have HB := Lib.hid hb2
    have hK : Kept S w w2 := ((Kept.refl S w).alloc _).trans (Kept.of_grown hg (fun p hp => (hown p hp).1))
    have HKK := Lib.hid hK
    have HW : Hid (∀ g, v'.ownBlock = some g → S g ∧ g ≠ rb) := fun g hg' => by
      rcases hw with hw | hw
      · exact hown g (hw.symm.trans hg')
      · rw [hw] at hg'; cases hg'; exact ⟨hS _ (by omega), by omega⟩
    have HO := Lib.hid ho
    obtain ⟨va, vc, rfl⟩ := row_slice ho
    clear ho hg hw hK hb2 hrlt hown hne hsrc c0a
    go_wp2
    refine bodyPost_ret (results_none rfl _ _ _) rfl ?_
    have ho2 : w2.ownsRow 0 64 2 (.slice va (L.length + 1) vc) (L ++ [(k, u)]).length (pairL (L ++ [(k, u)])) := by rw [pairL_append, List.length_append]; exact HO.out
    have hr := H.out.relay HKK.out HB.out ho2 HW.out
    exact ⟨rfl, ⟨_, _, hr.1, HK.out, HG.out, by simp; omega⟩, hr.2⟩
  | some x =>
    obtain ⟨i, e1, e2, e3⟩ := find_some L 0 k x e
    rw [e1, Nat.zero_add] at HF
    have hi := (List.getElem?_eq_some_iff.1 e2).1
    have hii : (i : Int) < (L.length : Int) := by omega
    obtain ⟨g, rfl, _, hcap, _, _, _, x0, x1, xf⟩ := h.get e2
    have xf1 := xf (i * 2 + 1)
    simp only at x0 x1
    have HG : Hid (∀ y, y = max u x → RTab S (w.setCell ⟨g, i * 2 + 1, none⟩ (.int .i64 y)).drew rb (n + 1) (grantG (lookL L) k u) ∧ Kept S w (w.setCell ⟨g, i * 2 + 1, none⟩ (.int .i64 y)).drew) := by
      rintro y rfl
      have := h.store e2 (max u x)
      refine ⟨⟨_, _, ⟨this.1.mine, this.1.block, this.1.row, this.1.own⟩, keys_set hd e2 _, ?_, by rw [List.length_set]; omega⟩, this.2.drewN 1⟩
      rw [look_set e2 e3]; unfold grantG; rw [e]
    clear h e e1 e2 hd xf H
    generalize grantG (lookL L) k u = g' at *
    go_enter Try.func19, Try.ntmps19
    go_wp2_with fail
    refine HF.out.mono ?_
    rintro e w1 ⟨rfl, rfl⟩
    go_wp2
    go_region
    go_wp2
    all_goals
      go_end0
      exact ⟨rfl, HG.out _ (by omega)⟩
end Go.Proofs.Ytckbbakajabhmaa
