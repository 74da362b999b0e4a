/- The document's add; Set, Union, Inter, Minus. -/
import Derived.Test.YtcgoggkaiiljmaaRefs8
namespace Go.Proofs.Ytcgoggkaiiljmaa
open Go.RowKit Go.Maps

theorem elem_int : Try.prog.elem 22 = 3 := by kernel_rfl
theorem under_int : Try.prog.underlying 22 = some (.slice (Try.prog.elem 22)) := by rw [elem_int]; exact Try.underlying22
/-- l[:i] -/
theorem slice_to {w : World} {a : Option Addr} {c : Nat} {l : List Int} (h : IA w (.slice a l.length c) l) (i : Nat) (hi : i ≤ l.length) :
    ∃ a' c', (∀ w', (Instr.slice 22 (.slice a l.length c) none (some (.int .i64 (i : Int))) none).run Try.prog w' = .ok (.slice a' i c') w') ∧
      (∀ w', (Instr.sliceAt 22 (.slice a l.length c) none (some (.int .i64 (i : Int))) none).run Try.prog w' = .ok (.slice a' i c') w') ∧ IA w (.slice a' i c') (l.take i) := by
  obtain ⟨a0, c0, e, hc, hn, h2⟩ := h
  simp only [Value.slice.injEq] at e
  obtain ⟨rfl, _, rfl⟩ := e
  have hlt : (l.take i).length = i := by rw [List.length_take]; omega
  have hr : ∀ w', (Instr.slice 22 (.slice a l.length c) none (some (.int .i64 (i : Int))) none).run Try.prog w' = .ok (sliced a 0 i c 1) w' := fun w' => by
    rw [run_slice_h w' 22 a l.length c under_int .i64 (i : Int) (by omega) (by omega), elem_int, Try.sizeOf3]
    rfl
  have hs : sliced a 0 i c 1 = .slice (if c = 0 then a else a.map (·.add (0 * 1))) i c := by unfold sliced; rw [Nat.sub_zero, Nat.sub_zero]
  rw [hs] at hr
  refine ⟨_, _, hr, fun w' => by rw [run_sliceAt_slice w' _ _ _ _ _ under_int]; exact hr w', ?_⟩
  refine ⟨_, c, by rw [hlt], by rw [hlt]; omega, fun h0 => ?_, ?_⟩
  · have ha : a = none := by
      by_cases hc0 : c = 0
      · rw [if_pos hc0] at h0; exact h0
      · rw [if_neg hc0] at h0; simpa using h0
    obtain ⟨h3, h4⟩ := hn ha
    exact ⟨by rw [hlt]; omega, h4⟩
  · by_cases h0 : i = 0
    · exact .inl (by rw [hlt]; exact h0)
    · rcases h2 with h2 | ⟨b, off, rfl, hb, hlt2, hcells⟩
      · omega
      · refine .inr ⟨b, off, ?_, hb, hlt2, fun j u hu => hcells j u ?_⟩
        · rw [if_neg (by omega)]; simp [Addr.add]
        · have hj : j < (l.take i).length := by have := (List.getElem?_eq_some_iff.1 hu).1; simpa [intsC] using this
          simp only [intsC, List.getElem?_map, List.getElem?_take] at hu ⊢
          rw [if_pos (by omega)] at hu
          exact hu
/-- l[i:] -/
theorem slice_from {w : World} {a : Option Addr} {c : Nat} {l : List Int} (h : IA w (.slice a l.length c) l) (i : Nat) (hi : i ≤ l.length) :
    ∃ a' c', (∀ w', (Instr.slice 22 (.slice a l.length c) (some (.int .i64 (i : Int))) none none).run Try.prog w' = .ok (.slice a' (l.length - i) c') w') ∧
      (∀ w', (Instr.sliceAt 22 (.slice a l.length c) (some (.int .i64 (i : Int))) none none).run Try.prog w' = .ok (.slice a' (l.length - i) c') w') ∧ IA w (.slice a' (l.length - i) c') (l.drop i) := by
  obtain ⟨a0, c0, e, hc, hn, h2⟩ := h
  simp only [Value.slice.injEq] at e
  obtain ⟨rfl, _, rfl⟩ := e
  have hlt : (l.drop i).length = l.length - i := List.length_drop
  have hr : ∀ w', (Instr.slice 22 (.slice a l.length c) (some (.int .i64 (i : Int))) none none).run Try.prog w' = .ok (sliced a i l.length c 1) w' := fun w' => by
    rw [run_slice_l w' 22 a l.length c under_int .i64 (i : Int) (by omega) (by omega), elem_int, Try.sizeOf3]
    rfl
  have hs : sliced a i l.length c 1 = .slice (if c = i then a else a.map (·.add (i * 1))) (l.length - i) (c - i) := rfl
  rw [hs] at hr
  refine ⟨_, _, hr, fun w' => by rw [run_sliceAt_slice w' _ _ _ _ _ under_int]; exact hr w', ?_⟩
  refine ⟨_, c - i, by rw [hlt], by rw [hlt]; omega, fun h0 => ?_, ?_⟩
  · have ha : a = none := by
      by_cases hc0 : c = i
      · rw [if_pos hc0] at h0; exact h0
      · rw [if_neg hc0] at h0; simpa using h0
    obtain ⟨h3, h4⟩ := hn ha
    exact ⟨by rw [hlt]; omega, by omega⟩
  · by_cases h0 : l.length - i = 0
    · exact .inl (by rw [hlt]; exact h0)
    · rcases h2 with h2 | ⟨b, off, rfl, hb, hlt2, hcells⟩
      · omega
      · refine .inr ⟨b, off + i, ?_, hb, hlt2, fun j u hu => ?_⟩
        · rw [if_neg (by omega), Nat.mul_one]
          simp only [Option.map_some, Option.some.injEq]
          unfold Addr.add
          split <;> simp_all
        · have := hcells (i + j) u (by
            simp only [intsC, List.getElem?_map, List.getElem?_drop] at hu ⊢
            exact hu)
          rw [Nat.add_assoc]; exact this
set_option maxRecDepth 100000 in
set_option maxHeartbeats 4000000 in
theorem add_any {w : World} {v : Value} {l : List Int} (x : Int) (h : IA w v l) (hl : l.length ≤ 1048576) :
    Calls Try.prog 34 #[v, .int .i64 x] w fun e w' => ∃ v', e = .returned v' ∧ IA w' v' (addS l x) ∧ Below w.heap.size w w' := by
  obtain ⟨a, c, rfl, hac⟩ := h.slice
  have H := Lib.hid h
  clear h
  go_enter Try.func34, Try.ntmps34
  go_wp2
  go_loopw [5] (fun i wr => ∃ k : Nat, k ≤ l.length ∧ i = .int .i64 k ∧ Hid (∀ y ∈ l.take k, y < x) ∧ w = wr) (fun i _ => l.length - (intOf i).toNat)
  case atStart => exact ⟨0, by omega, rfl, (show ∀ y ∈ l.take 0, y < x by simp), rfl⟩
  case round =>
    obtain ⟨k, hk, rfl, HX, rfl⟩ := hrel
    by_cases hlt : k < l.length
    · obtain ⟨b, off, rfl, hb, hc⟩ := H.out.get hlt
      have hts := take_snocI l k hlt
      have hgk : l[k]? = some (l.getD k 0) := by rw [List.getElem?_eq_getElem hlt]; simp [List.getD, hlt]
      generalize l.getD k 0 = y at *
      by_cases hxy : y < x
      · have HX2 : Hid (∀ z ∈ l.take (k + 1), z < x) := by
          show ∀ z ∈ _, z < x
          rw [hts]
          intro z hz
          rcases List.mem_append.1 hz with h | h
          · exact HX.out z h
          · rw [List.mem_singleton.1 h]; exact hxy
        clear hts hgk
        go_wp2
        go_roundw
        case rel => exact ⟨k + 1, by omega, by go_num, HX2, trivial⟩
        case measure => simp [intOf]; omega
      · have HA := Lib.hid (addS_at (l := l) (x := x) (i := k) HX.out (fun z hz => by rw [hgk] at hz; cases hz; omega))
        by_cases hxe : y = x
        · subst hxe
          have HE : Hid (addS l y = l) := by have := HA.out; rw [if_pos hgk] at this; exact this
          clear hts hgk HA
          go_wp2
          go_ret
          exact ⟨_, rfl, by rw [HE.out]; exact H.out, Below.refl _ _⟩
        · have hne : ¬ l[k]? = some x := by rw [hgk]; intro e; cases e; exact hxe rfl
          have HE : Hid (addS l x = l.take k ++ x :: l.drop k) := by have := HA.out; rw [if_neg hne] at this; exact this
          have hxi : (y == x) = false := by simpa using hxe
          clear hts hgk HA hne hxe
          obtain ⟨a1, c1, s1, s1', i1⟩ := slice_to H.out k (by omega)
          obtain ⟨a2, c2, s2, s2', i2⟩ := slice_from H.out k (by omega)
          have I1 := Lib.hid i1
          have I2 := Lib.hid i2
          clear i1 i2
          go_wp2_with (at_builtin; go_loud (refine wpList_append_list rfl _ _ rfl w.heap.size (.slice none 0 0) (.slice a1 k c1) [] (l.take k) rfl (own_nil _ _) rfl I1.out (by simp; omega) (Nat.le_refl _) ?_))
          intro v1 w1 ho hg
          have HO1 : Hid (w1.ownsRow w.heap.size 3 1 v1 (l.take k).length (intsC (l.take k))) := by show World.ownsRow _ _ _ _ _ _ _; rw [List.length_take, Nat.min_eq_left hk]; exact ho
          have HB1 : Hid (Below w.heap.size w w1) := (Below.refl _ _).grown hg (Nat.le_refl _) (fun k hk => by cases hk)
          have hs1 := HB1.out.size
          have htk : (l.take k).length ≤ l.length := by rw [List.length_take]; omega
          clear ho hg
          go_wp2_with (at_builtin; go_loud (refine wpList_append_one rfl _ _ rfl w.heap.size v1 (l.take k) x rfl HO1.out rfl (by omega) hs1 ?_))
          intro v2 w2 ho hg
          have HO2 : Hid (w2.ownsRow w.heap.size 3 1 v2 (l.take k ++ [x]).length (intsC (l.take k ++ [x]))) := by show World.ownsRow _ _ _ _ _ _ _; rw [List.length_append, List.length_take, Nat.min_eq_left hk]; exact ho
          have HB2 : Hid (Below w.heap.size w w2) := HB1.out.grown hg hs1 (fun k hk => (HO1.out.lt k hk).1)
          have hs2 := HB2.out.size
          have HI2 := Lib.hid (I2.out.below HB2.out)
          clear ho hg
          go_wp2_with (at_builtin; go_loud (refine wpList_append_list rfl _ _ rfl w.heap.size v2 (.slice a2 (l.length - k) c2) (l.take k ++ [x]) (l.drop k) rfl HO2.out rfl HI2.out (by simp; omega) hs2 ?_))
          intro v3 w3 ho hg
          have HO3 : Hid (IA w3 v3 (addS l x)) := by
            show IA _ _ _
            rw [HE.out]
            refine IA.of_own (base := w.heap.size) ?_
            rw [List.length_append, List.length_cons, List.length_take, List.length_drop, Nat.min_eq_left hk]
            exact ho
          have HB3 : Hid (Below w.heap.size w w3) := HB2.out.grown hg hs2 (fun k hk => (HO2.out.lt k hk).1)
          clear ho hg
          go_wp2
          go_ret
          exact ⟨_, rfl, HO3.out, HB3.out⟩
    · have hke : k = l.length := by omega
      have hgk : l[k]? = none := by rw [hke]; simp
      have HE : Hid (addS l x = l.take k ++ x :: l.drop k) := by
        have := addS_at (l := l) (x := x) (i := k) HX.out (fun z hz => by rw [hgk] at hz; cases hz)
        rw [if_neg (by rw [hgk]; simp)] at this; exact this
      obtain ⟨a1, c1, s1, s1', i1⟩ := slice_to H.out k (by omega)
      obtain ⟨a2, c2, s2, s2', i2⟩ := slice_from H.out k (by omega)
      have I1 := Lib.hid i1
      have I2 := Lib.hid i2
      clear i1 i2 hgk hke
      go_wp2_with (at_builtin; go_loud (refine wpList_append_list rfl _ _ rfl w.heap.size (.slice none 0 0) (.slice a1 k c1) [] (l.take k) rfl (own_nil _ _) rfl I1.out (by simp; omega) (Nat.le_refl _) ?_))
      intro v1 w1 ho hg
      have HO1 : Hid (w1.ownsRow w.heap.size 3 1 v1 (l.take k).length (intsC (l.take k))) := by show World.ownsRow _ _ _ _ _ _ _; rw [List.length_take, Nat.min_eq_left hk]; exact ho
      have HB1 : Hid (Below w.heap.size w w1) := (Below.refl _ _).grown hg (Nat.le_refl _) (fun k hk => by cases hk)
      have hs1 := HB1.out.size
      have htk : (l.take k).length ≤ l.length := by rw [List.length_take]; omega
      clear ho hg
      go_wp2_with (at_builtin; go_loud (refine wpList_append_one rfl _ _ rfl w.heap.size v1 (l.take k) x rfl HO1.out rfl (by omega) hs1 ?_))
      intro v2 w2 ho hg
      have HO2 : Hid (w2.ownsRow w.heap.size 3 1 v2 (l.take k ++ [x]).length (intsC (l.take k ++ [x]))) := by show World.ownsRow _ _ _ _ _ _ _; rw [List.length_append, List.length_take, Nat.min_eq_left hk]; exact ho
      have HB2 : Hid (Below w.heap.size w w2) := HB1.out.grown hg hs1 (fun k hk => (HO1.out.lt k hk).1)
      have hs2 := HB2.out.size
      have HI2 := Lib.hid (I2.out.below HB2.out)
      clear ho hg
      go_wp2_with (at_builtin; go_loud (refine wpList_append_list rfl _ _ rfl w.heap.size v2 (.slice a2 (l.length - k) c2) (l.take k ++ [x]) (l.drop k) rfl HO2.out rfl HI2.out (by simp; omega) hs2 ?_))
      intro v3 w3 ho hg
      have HO3 : Hid (IA w3 v3 (addS l x)) := by
        show IA _ _ _
        rw [HE.out]
        refine IA.of_own (base := w.heap.size) ?_
        rw [List.length_append, List.length_cons, List.length_take, List.length_drop, Nat.min_eq_left hk]
        exact ho
      have HB3 : Hid (Below w.heap.size w w3) := HB2.out.grown hg hs2 (fun k hk => (HO2.out.lt k hk).1)
      clear ho hg
      go_wp2
      go_ret
      exact ⟨_, rfl, HO3.out, HB3.out⟩
set_option maxRecDepth 100000 in
set_option maxHeartbeats 4000000 in
theorem RefSet_any {w : World} {v : Value} {l : List Int} (h : IA w v l) (hl : l.length ≤ 524288) :
    Calls Try.prog 17 #[v] w fun e w' => ∃ v', e = .returned v' ∧ IA w' v' (setS l) ∧ Below w.heap.size w w' := by
  obtain ⟨a, c, rfl, hac⟩ := h.slice
  have H := Lib.hid h
  clear h
  go_enter Try.func17, Try.ntmps17
  go_wp2
  go_loopw [3, 4] (fun s i wr => ∃ k : Nat, k ≤ l.length ∧ i = .int .i64 k ∧ Hid (IA wr s (setS (l.take k))) ∧ Hid (Below w.heap.size w wr)) (fun _ i _ => l.length - (intOf i).toNat)
  case atStart => exact ⟨0, by omega, rfl, IA.nil _, Below.refl _ _⟩
  case round =>
    obtain ⟨k, hk, rfl, HI, HB⟩ := hrel
    by_cases hlt : k < l.length
    · obtain ⟨b, off, rfl, hb, hc⟩ := (H.out.below HB.out).get hlt
      have hts := take_snocI l k hlt
      have hss := setS_snoc (l.take k) (l.getD k 0)
      rw [← hts] at hss
      have hlen := len_setS_le (l.take k)
      have hkl : (l.take k).length ≤ l.length := by rw [List.length_take]; omega
      generalize l.getD k 0 = x at *
      have ha := add_any x HI.out (by omega)
      rw [← hss] at ha
      clear hts hss
      go_wp2_with fail
      refine ha.mono ?_
      rintro e w1 ⟨v1, rfl, hi, hb1⟩
      have HI1 := Lib.hid hi
      have HB1 := Lib.hid (HB.out.trans (hb1.mono HB.out.size))
      clear hi hb1 ha
      go_wp2
      go_roundw
      case rel => exact ⟨k + 1, by omega, by go_num, HI1, HB1⟩
      case measure => simp [intOf]; omega
    · obtain rfl : k = l.length := by omega
      have h := HI.out
      rw [List.take_length] at h
      have HI1 := Lib.hid h
      clear h
      go_wp2
      go_ret
      exact ⟨_, rfl, HI1.out, HB.out⟩
set_option maxRecDepth 100000 in
set_option maxHeartbeats 4000000 in
theorem RefUnion_any {w : World} {va vb : Value} {l r : List Int} (ha : IA w va l) (hla : l.length ≤ 262144) (hb : IA w vb r) (hlb : r.length ≤ 262144) :
    Calls Try.prog 19 #[va, vb] w fun e w' => ∃ v', e = .returned v' ∧ IA w' v' (setS (l ++ r)) ∧ Below w.heap.size w w' := by
  obtain ⟨a, c, rfl, hac⟩ := hb.slice
  have H := Lib.hid hb
  have hs := RefSet_any ha (by omega)
  clear ha hb
  go_enter Try.func19, Try.ntmps19
  go_wp2_with fail
  refine hs.mono ?_
  rintro e w0 ⟨v0, rfl, hi, hb0⟩
  have HI0 := Lib.hid hi
  have HB0 := Lib.hid hb0
  clear hi hb0 hs
  go_wp2
  go_loopw [5, 6] (fun s i wr => ∃ k : Nat, k ≤ r.length ∧ i = .int .i64 k ∧ Hid (IA wr s (setS (l ++ r.take k))) ∧ Hid (Below w.heap.size w wr)) (fun _ i _ => r.length - (intOf i).toNat)
  case atStart => exact ⟨0, by omega, rfl, by show IA _ _ _; rw [List.take_zero, List.append_nil]; exact HI0.out, HB0⟩
  case round =>
    obtain ⟨k, hk, rfl, HI, HB⟩ := hrel
    by_cases hlt : k < r.length
    · obtain ⟨b, off, rfl, hb, hc⟩ := (H.out.below HB.out).get hlt
      have hts := take_snocI r k hlt
      have hss := setS_snoc (l ++ r.take k) (r.getD k 0)
      rw [List.append_assoc, ← hts] at hss
      have hlen := len_setS_le (l ++ r.take k)
      have hkl : (l ++ r.take k).length ≤ l.length + r.length := by rw [List.length_append, List.length_take]; omega
      generalize r.getD k 0 = x at *
      have ha := add_any x HI.out (by omega)
      rw [← hss] at ha
      clear hts hss
      go_wp2_with fail
      refine ha.mono ?_
      rintro e w1 ⟨v1, rfl, hi, hb1⟩
      have HI1 := Lib.hid hi
      have HB1 := Lib.hid (HB.out.trans (hb1.mono HB.out.size))
      clear hi hb1 ha
      go_wp2
      go_roundw
      case rel => exact ⟨k + 1, by omega, by go_num, HI1, HB1⟩
      case measure => simp [intOf]; omega
    · obtain rfl : k = r.length := by omega
      have h := HI.out
      rw [List.take_length] at h
      have HI1 := Lib.hid h
      clear h
      go_wp2
      go_ret
      exact ⟨_, rfl, HI1.out, HB.out⟩
end Go.Proofs.Ytcgoggkaiiljmaa
