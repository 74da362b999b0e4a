/- slices.Grow of nil, slices.Concat of two lists, Union. -/
import Derived.Test.YtcgoggkaiiljmaaSetOps
import Derived.Lib.AppendZerosOnto
namespace Go.Proofs.Ytcgoggkaiiljmaa
open Go.RowKit Go.Maps

set_option maxRecDepth 100000 in
set_option maxHeartbeats 4000000 in
theorem Grow_any (w : World) (n : Nat) (hn : n ≤ 2097152) :
    Calls Try.prog 43 #[.slice none 0 0, .int .i64 (n : Int)] w fun e w' => ∃ v', e = .returned v' ∧ w'.ownsRow w.heap.size 3 1 v' 0 (intsC []) ∧ Below w.heap.size w w' := by
  by_cases h0 : n = 0
  · subst h0
    go_enter Try.func43, Try.ntmps43
    go_wp2
    go_ret
    exact ⟨_, rfl, own_nil _ _, Below.refl _ _⟩
  · obtain ⟨i0, hi0, hz0, hz1, hz2⟩ := info_parts info_int
    have hrz : ∀ ty, (Builtin.append_ #[22, 3] ty #[.slice none 0 0, .int .i64 (n : Int)]).run Try.prog w = _ := fun ty =>
      Lib.run_append_grow_zeros w 22 3 ty 3 i0 (.int .i64 0) .i64 .i64 Try.underlying22 Try.underlying3 hi0 hz0 none 0 0 [] (run_firstCells_none w.drew i0.size 0 0 0) n (by omega) (by rw [hz1]; omega) (by omega) (by omega) (by rw [hz2]; omega) (growslice_fits (by omega) (by rw [hz2]; omega))
    have hGn : 0 + n ≤ grownCap w (0 + n) 0 3 := grownCap_ge w _ _ _
    have hGm := grownCap_le_maxLen w (0 + n) 0 3 (by unfold maxLen; omega)
    generalize hG : grownCap w (0 + n) 0 3 = G at *
    have hpos : ¬ ((n : Int) ≤ 0) := by omega
    have hpos' : 0 < (n : Int) := by omega
    clear hG
    generalize hcs : ([] : List Value).toArray ++ Builtin.zeroCells (Value.int .i64 0).cells n ++ Builtin.zeroCells (Value.int .i64 0).cells (G - (0 + n)) = cs at hrz
    have hcz : cs.size = G := by rw [← hcs]; simp [Builtin.zeroCells, show (Value.int .i64 0).cells.size = 1 from rfl]; omega
    have HCZ := Lib.hid hcz
    clear hcs hcz hi0 hz0 hz1 hz2
    unfold maxLen at hGm
    have HM := Lib.hid hGm
    have hGi : (G : Int) ≤ 9223372036854775807 := by omega
    clear hGm
    go_enter Try.func43, Try.ntmps43
    go_wp2_with (at_builtin; refine Lib.wpList_append_run _ rfl _ _ _ _ rfl _ _ rfl rfl _ _ (hrz _) ?_)
    go_ret
    exact ⟨_, rfl, ⟨rfl, .inr ⟨w.heap.size, G, cs, rfl, Nat.le_refl _, heap_alloc_new w _, Nat.zero_le _, by unfold maxLen; exact HM.out, by rw [HCZ.out]; omega, rfl⟩⟩, below_drewN ((Below.refl _ _).alloc (Nat.le_refl _) _) 1⟩
theorem IA.src {w : World} {v : Value} {l : List Int} (h : IA w v l) : Src w v l.length (intsC l) := Run.src h (fun h0 => by rw [List.length_eq_zero_iff.1 h0]; rfl)
theorem ints_one (l : List Int) : ∀ u ∈ intsC l, u.oneCell' = true := fun u hu => by
  obtain ⟨x, _, rfl⟩ := List.mem_map.1 hu
  rfl
/-- append(s, r...) onto a row of one's own -/
theorem wpList_append_list {w : World} {ops : Array Oper} {rest : List Oper} {o : Oper} {a : Act} {Q : Exit → Act → World → Prop} (hgd : o.guard = none) (s x : Operand)
    (ho : o.op = .call { callee := .builtin .append, args := #[s, x], argTypes := #[22, 22] }) (base : Nat) (v vr : Value) (ks r : List Int) (hs : a.eval s = v) (hown : w.ownsRow base 3 1 v ks.length (intsC ks))
    (hx : a.eval x = vr) (hr : IA w vr r) (hl : ks.length + r.length ≤ 4194304) (hbase : base ≤ w.heap.size)
    (h : ∀ v' w', w'.ownsRow base 3 1 v' (ks ++ r).length (intsC (ks ++ r)) → w.grownBy w' v.ownBlock → wpList Try.prog ops Q rest (a.put o.dst v') w') :
    wpList Try.prog ops Q (o :: rest) a w := by
  obtain ⟨i0, hi0, hz0, hz1, hz2⟩ := info_parts info_int
  refine wpList_append_row hgd s x 22 ho base 3 i0 (.int .i64 0) 1 8 Try.underlying22 hi0 hz0 hz1 hz2 rfl (by decide) v ks.length (intsC ks) hs hown _ r.length (intsC r) hx hr.src (by rw [len_intsC, Nat.mul_one]) (ints_one r) (by unfold maxLen; omega) (by omega) hbase ?_
  intro v' w' h1 h2 _
  exact h v' w' (by rw [List.length_append, intsC_app]; exact h1) h2
set_option maxRecDepth 100000 in
set_option maxHeartbeats 4000000 in
theorem Concat_any {w : World} {B : Nat} {va vb : Value} {a b : List Int} (h0 : w.cell? ⟨B, 0, none⟩ = some va) (h1 : w.cell? ⟨B, 1, none⟩ = some vb) (hB : B < w.heap.size) (ha : IA w va a) (hla : a.length ≤ 1048576) (hb : IA w vb b) (hlb : b.length ≤ 1048576) (hlab : a.length + b.length ≤ 1048576) :
    Calls Try.prog 35 #[.slice (some ⟨B, 0, none⟩) 2 2] w fun e w' => ∃ v', e = .returned v' ∧ IA w' v' (a ++ b) ∧ Below w.heap.size w w' := by
  obtain ⟨aa, ca, rfl, _⟩ := ha.slice
  obtain ⟨ab, cb, rfl, _⟩ := hb.slice
  have HA := Lib.hid ha
  have HB := Lib.hid hb
  have hgr := Grow_any w (a.length + b.length) (by omega)
  have hsum : ((a.length + b.length : Nat) : Int) = (a.length : Int) + (b.length : Int) := by omega
  rw [hsum] at hgr
  clear ha hb hsum
  go_enter Try.func35, Try.ntmps35
  go_wp2
  refine wp_loop_rounds 3 ?_
  rw [rounds_succ]
  go_wp2
  rw [rounds_succ]
  go_wp2
  rw [rounds_succ]
  go_wp2_with fail
  refine hgr.mono ?_
  rintro e w1 ⟨v1, rfl, ho, hb⟩
  have HO := Lib.hid ho
  have HB1 := Lib.hid hb
  have h0' : w1.cell? ⟨B, 0, none⟩ = some (.slice aa a.length ca) := (hb.cell (p := ⟨B, 0, none⟩) hB).trans h0
  have h1' : w1.cell? ⟨B, 1, none⟩ = some (.slice ab b.length cb) := (hb.cell (p := ⟨B, 1, none⟩) hB).trans h1
  have HA1 := Lib.hid (HA.out.below hb)
  have HBB1 := Lib.hid (HB.out.below hb)
  have hs1 := hb.size
  clear ho hb hgr h0
  go_wp2
  refine wp_loop_rounds 3 ?_
  rw [rounds_succ]
  go_wp2_with (at_builtin; go_loud (refine wpList_append_list rfl _ _ rfl w.heap.size v1 (.slice aa a.length ca) [] a rfl HO.out rfl HA1.out (by simp; omega) hs1 ?_))
  intro v2 w2 ho hg
  have HB2 : Hid (Below w.heap.size w w2) := HB1.out.grown hg hs1 (fun k hk => (HO.out.lt k hk).1)
  have h1'' : w2.cell? ⟨B, 1, none⟩ = some (.slice ab b.length cb) := (HB2.out.cell (p := ⟨B, 1, none⟩) hB).trans h1
  have HBB2 := Lib.hid (HB.out.below HB2.out)
  have HO2 : Hid (w2.ownsRow w.heap.size 3 1 v2 a.length (intsC a)) := ho
  have hs2 := HB2.out.size
  clear ho hg
  go_wp2
  rw [rounds_succ]
  go_wp2_with (at_builtin; go_loud (refine wpList_append_list rfl _ _ rfl w.heap.size v2 (.slice ab b.length cb) a b rfl HO2.out rfl HBB2.out (by omega) hs2 ?_))
  intro v3 w3 ho hg
  have HB3 : Hid (Below w.heap.size w w3) := HB2.out.grown hg hs2 (fun k hk => (HO2.out.lt k hk).1)
  have HO3 : Hid (w3.ownsRow w.heap.size 3 1 v3 (a ++ b).length (intsC (a ++ b))) := by show World.ownsRow _ _ _ _ _ _ _; rw [List.length_append]; exact ho
  clear ho hg
  go_wp2
  rw [rounds_succ]
  go_wp2
  go_ret
  exact ⟨_, rfl, IA.of_own HO3.out, HB3.out⟩
theorem two_cells (w : World) (u v : Value) (T : TypeId) : (w.alloc (.cells #[u, v] T)).cell? ⟨w.heap.size, 0, none⟩ = some u ∧ (w.alloc (.cells #[u, v] T)).cell? ⟨w.heap.size, 1, none⟩ = some v :=
  ⟨by rw [Lib.cell_of_heap (heap_alloc_new w _)]; rfl, by rw [Lib.cell_of_heap (heap_alloc_new w _)]; rfl⟩
set_option maxHeartbeats 1000000 in
theorem Union_any {w : World} {va vb : Value} {a b : List Int} (ha : IA w va a) (hwa : Wf a) (hla : a.length ≤ 1048576) (hb : IA w vb b) (hwb : Wf b) (hlb : b.length ≤ 1048576) (hlab : a.length + b.length ≤ 1048576) :
    Calls Try.prog 18 #[va, vb] w fun e w' => ∃ v', e = .returned v' ∧ IA w' v' (setS (a ++ b)) ∧ Below w.heap.size w w' := by
  have hb1 : Below w.heap.size w (w.alloc (.cells #[va, vb] 22)) := (Below.refl _ _).alloc (Nat.le_refl _) _
  have hc := Concat_any (two_cells w va vb 22).1 (two_cells w va vb 22).2 (by simp) (ha.below hb1) hla (hb.below hb1) hlb hlab
  have HB := Lib.hid hb1
  have HW := Lib.hid (hwa.app hwb)
  obtain ⟨aa, ca, rfl, _⟩ := ha.slice
  obtain ⟨ab, cb, rfl, _⟩ := hb.slice
  clear ha hb hb1 hwa hwb
  go_enter Try.func18, Try.ntmps18
  go_wp2_with fail
  refine hc.mono ?_
  rintro e w1 ⟨v1, rfl, hi, hb1⟩
  have hs := Set_any hi HW.out (by rw [List.length_append]; omega)
  have HB1 := Lib.hid (bw HB.out hb1)
  clear hi hb1 hc
  go_wp2_with fail
  refine hs.mono ?_
  rintro e w2 ⟨v2, rfl, hi, hb2⟩
  have HI := Lib.hid hi
  have HB2 := Lib.hid (bw HB1.out hb2)
  clear hi hb2 hs
  go_wp2
  go_ret
  exact ⟨_, rfl, HI.out, HB2.out⟩
end Go.Proofs.Ytcgoggkaiiljmaa
