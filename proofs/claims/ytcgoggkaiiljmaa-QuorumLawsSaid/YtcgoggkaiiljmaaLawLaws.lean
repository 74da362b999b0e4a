/- The law QuorumLaws. -/
import Derived.Test.YtcgoggkaiiljmaaLawFirst
namespace Go.Proofs.Ytcgoggkaiiljmaa
open Go.RowKit Go.Maps

/-- each twice, from behind -/
def dup (r : List Int) : List Int := r.reverse.flatMap (fun x => [x, x])
theorem dup_cons (x : Int) (r : List Int) : dup (x :: r) = dup r ++ [x, x] := by unfold dup; simp [List.flatMap_append]
theorem mem_dup {x : Int} {r : List Int} : x ∈ dup r ↔ x ∈ r := by
  unfold dup
  rw [List.mem_flatMap]
  constructor
  · rintro ⟨y, hy, hx⟩
    simp only [List.mem_cons, List.not_mem_nil, or_false, or_self] at hx
    subst hx; exact List.mem_reverse.1 hy
  · intro h; exact ⟨x, List.mem_reverse.2 h, by simp⟩
theorem len_dup : ∀ r : List Int, (dup r).length = 2 * r.length
  | [] => rfl
  | x :: r => by rw [dup_cons, List.length_append, len_dup r]; simp only [List.length_cons, List.length_nil]; omega
theorem dup_drop {l : List Int} {k : Nat} (h : k < l.length) : dup (l.drop k) = dup (l.drop (k + 1)) ++ [l.getD k 0, l.getD k 0] := by
  rw [List.drop_eq_getElem_cons h, dup_cons]; simp [List.getD, h]
theorem wf_dup {l : List Int} (h : Wf l) : Wf (dup l) := h.sub (fun _ hx => mem_dup.1 hx)
theorem wf_set {l : List Int} (h : Wf l) : Wf (setS l) := h.sub (fun _ hx => mem_setS.1 hx)
theorem wf_minus {a b : List Int} (h : Wf a) : Wf (minusS a b) := h.sub (fun _ hx => (mem_minusS.1 hx).1)
theorem laws_one (a b : List Int) : setS (interS a b ++ minusS a b) = setS a := setS_ext (fun x => by
  rw [List.mem_append, mem_interS, mem_minusS]
  by_cases h : x ∈ b <;> simp [h])
theorem laws_two (a : List Int) : setS (dup a) = setS a := setS_ext (fun _ => mem_dup)
theorem laws_three (a b : List Int) : setS (b ++ dup a) = setS (a ++ b) := setS_ext (fun x => by rw [List.mem_append, List.mem_append, mem_dup]; exact Or.comm)
theorem laws_four (a b : List Int) : interS (dup a) b = interS a b := rise_unique (rise_setS _) (rise_setS _) (fun x => by rw [mem_interS, mem_interS, mem_dup])
theorem laws_five (a b : List Int) : minusS (setS (a ++ b)) b = minusS a b := rise_unique (rise_setS _) (rise_setS _) (fun x => by
  rw [mem_minusS, mem_minusS, mem_setS, List.mem_append]
  by_cases h : x ∈ b <;> simp [h])
theorem laws_six (a b : List Int) : meetS (minusS a b) b = false := by
  rw [Bool.eq_false_iff]
  intro h
  obtain ⟨x, h1, h2⟩ := meetS_iff.1 h
  exact (mem_minusS.1 h1).2 h2
theorem two_news (w : World) (x y : Int) (T : TypeId) : ∀ j u, ([.int .i64 x, .int .i64 y] : List Value)[j]? = some u → (w.alloc (.cells #[.int .i64 x, .int .i64 y] T)).cell? ((⟨w.heap.size, 0, none⟩ : Addr).add j) = some u := fun j u hu => by
  rw [add_zero_off, Lib.cell_of_heap (heap_alloc_new w _)]
  simpa using hu
set_option maxRecDepth 100000 in
set_option maxHeartbeats 8000000 in
theorem QuorumLaws_law {w : World} {va vb : Value} {a b : List Int} (ha : IA w va a) (hwa : Wf a) (hb : IA w vb b) (hwb : Wf b) :
    Calls Try.prog 7 #[va, vb] w fun e w' => e = .returned (.bool true) ∧ Below w.heap.size w w' := by
  have hw := works_any w
  have HA := Lib.hid ha
  have HB := Lib.hid hb
  have HWA := Lib.hid hwa
  have HWB := Lib.hid hwb
  obtain ⟨aa, ca, rfl, _⟩ := ha.slice
  obtain ⟨ab, cb, rfl, _⟩ := hb.slice
  obtain ⟨i0, hi0, hz0, hz1, hz2⟩ := info_parts info_int
  clear ha hb hwa hwb
  by_cases hla : a.length ≤ 200
  · have hlta : ¬ (200 : Int) < (a.length : Int) := by omega
    by_cases hlb : b.length ≤ 200
    · have hltb : ¬ (200 : Int) < (b.length : Int) := by omega
      go_enter Try.func7, Try.ntmps7
      go_wp2_with fail
      refine hw.mono ?_
      rintro e w1 ⟨rfl, hb⟩
      have B1 := Lib.hid hb
      clear hb hw
      go_wp2
      go_loopw [6, 7] (fun s i wr => ∃ (j : Nat) (z : Int), j ≤ a.length ∧ z = (j : Int) - 1 ∧ i = .int .i64 z ∧ Hid (wr.ownsRow w.heap.size 3 1 s (dup (a.drop j)).length (intsC (dup (a.drop j)))) ∧ Hid (Below w.heap.size w wr)) (fun _ i _ => (intOf i + 1).toNat)
      case atStart => exact ⟨a.length, _, by omega, rfl, rfl, by show World.ownsRow _ _ _ _ _ _ _; rw [List.drop_length]; exact own_nil _ _, B1⟩
      case round =>
        obtain ⟨j, z, hj, hz, rfl, HO, HBR⟩ := hrel
        have hs := HBR.out.size
        rcases j with _ | k
        · obtain rfl : z = -1 := by omega
          have ho := HO.out
          rw [List.drop_zero] at ho
          have IC := Lib.hid (IA.of_own ho)
          have hdl := len_dup a
          have hdl2 : (dup a).length ≤ 400 := by omega
          clear ho hz hdl
          have HWD := Lib.hid (wf_dup HWA.out)
          go_wp2_with fail
          refine (Inter_any (HA.out.below HBR.out) HWA.out (by omega) (HB.out.below HBR.out) HWB.out (by omega)).mono ?_
          rintro e w2 ⟨v2, rfl, hi, hb⟩
          have I2 := Lib.hid hi
          have IC2 := Lib.hid (IC.out.below hb)
          have B2 := Lib.hid (bw HBR.out hb)
          clear hi hb
          go_wp2_with fail
          refine (Minus_any (HA.out.below B2.out) HWA.out (by omega) (HB.out.below B2.out) HWB.out (by omega)).mono ?_
          rintro e w3 ⟨v3, rfl, hi, hb⟩
          have I3 := Lib.hid hi
          have I2 := Lib.hid (I2.out.below hb)
          have IC3 := Lib.hid (IC2.out.below hb)
          have B3 := Lib.hid (bw B2.out hb)
          clear hi hb
          go_wp2_with fail
          refine (Union_any (HA.out.below B3.out) HWA.out (by omega) (HB.out.below B3.out) HWB.out (by omega) (by omega)).mono ?_
          rintro e w4 ⟨v4, rfl, hi, hb⟩
          have I4 := Lib.hid hi
          have I2 := Lib.hid (I2.out.below hb)
          have I3 := Lib.hid (I3.out.below hb)
          have IC4 := Lib.hid (IC3.out.below hb)
          have B4 := Lib.hid (bw B3.out hb)
          clear hi hb
          have l2 := len_interS a b
          have l3 := len_minusS a b
          have l4 : (setS (a ++ b)).length ≤ 400 := Nat.le_trans (len_setS_le _) (by rw [List.length_append]; omega)
          -- one
          go_wp2_with fail
          refine (Union_any I2.out (wf_inter HWA.out) (by omega) I3.out (wf_minus HWA.out) (by omega) (by omega)).mono ?_
          rintro e w5 ⟨v5, rfl, hi, hb⟩
          rw [laws_one] at hi
          have I5 := Lib.hid hi
          have I2 := Lib.hid (I2.out.below hb)
          have I3 := Lib.hid (I3.out.below hb)
          have I4 := Lib.hid (I4.out.below hb)
          have IC5 := Lib.hid (IC4.out.below hb)
          have B5 := Lib.hid (bw B4.out hb)
          clear hi hb
          go_wp2_with fail
          refine (Set_any (HA.out.below B5.out) HWA.out (by omega)).mono ?_
          rintro e w6 ⟨v6, rfl, hi, hb⟩
          have hs := same_self (I5.out.below hb) hi (Nat.le_trans (len_setS_le _) (by omega))
          have I2 := Lib.hid (I2.out.below hb)
          have I3 := Lib.hid (I3.out.below hb)
          have I4 := Lib.hid (I4.out.below hb)
          have IC6 := Lib.hid (IC5.out.below hb)
          have B6 := Lib.hid (bw B5.out hb)
          clear hi hb
          go_wp2_with fail
          refine hs.mono ?_
          rintro e w7 ⟨rfl, hb⟩
          have I2 := Lib.hid (I2.out.below hb)
          have I3 := Lib.hid (I3.out.below hb)
          have I4 := Lib.hid (I4.out.below hb)
          have IC7 := Lib.hid (IC6.out.below hb)
          have B7 := Lib.hid (bw B6.out hb)
          clear hb hs
          -- two
          go_wp2_with fail
          refine (Set_any IC7.out HWD.out (by omega)).mono ?_
          rintro e w8 ⟨v8, rfl, hi, hb⟩
          rw [laws_two] at hi
          have I8 := Lib.hid hi
          have I2 := Lib.hid (I2.out.below hb)
          have I3 := Lib.hid (I3.out.below hb)
          have I4 := Lib.hid (I4.out.below hb)
          have IC8 := Lib.hid (IC7.out.below hb)
          have B8 := Lib.hid (bw B7.out hb)
          clear hi hb
          go_wp2_with fail
          refine (Set_any (HA.out.below B8.out) HWA.out (by omega)).mono ?_
          rintro e w9 ⟨v9, rfl, hi, hb⟩
          have hs := same_self (I8.out.below hb) hi (Nat.le_trans (len_setS_le _) (by omega))
          have I2 := Lib.hid (I2.out.below hb)
          have I3 := Lib.hid (I3.out.below hb)
          have I4 := Lib.hid (I4.out.below hb)
          have IC9 := Lib.hid (IC8.out.below hb)
          have B9 := Lib.hid (bw B8.out hb)
          clear hi hb
          go_wp2_with fail
          refine hs.mono ?_
          rintro e w10 ⟨rfl, hb⟩
          have I2 := Lib.hid (I2.out.below hb)
          have I3 := Lib.hid (I3.out.below hb)
          have I4 := Lib.hid (I4.out.below hb)
          have IC10 := Lib.hid (IC9.out.below hb)
          have B10 := Lib.hid (bw B9.out hb)
          clear hb hs
          -- three
          go_wp2_with fail
          refine (Union_any (HB.out.below B10.out) HWB.out (by omega) IC10.out HWD.out (by omega) (by omega)).mono ?_
          rintro e w11 ⟨v11, rfl, hi, hb⟩
          rw [laws_three] at hi
          have hs := same_self hi (I4.out.below hb) (by omega)
          have I2 := Lib.hid (I2.out.below hb)
          have I3 := Lib.hid (I3.out.below hb)
          have I4 := Lib.hid (I4.out.below hb)
          have IC11 := Lib.hid (IC10.out.below hb)
          have B11 := Lib.hid (bw B10.out hb)
          clear hi hb
          go_wp2_with fail
          refine hs.mono ?_
          rintro e w12 ⟨rfl, hb⟩
          have I2 := Lib.hid (I2.out.below hb)
          have I3 := Lib.hid (I3.out.below hb)
          have I4 := Lib.hid (I4.out.below hb)
          have IC12 := Lib.hid (IC11.out.below hb)
          have B12 := Lib.hid (bw B11.out hb)
          clear hb hs
          -- four
          go_wp2_with fail
          refine (Inter_any IC12.out HWD.out (by omega) (HB.out.below B12.out) HWB.out (by omega)).mono ?_
          rintro e w13 ⟨v13, rfl, hi, hb⟩
          rw [laws_four] at hi
          have hs := same_self hi (I2.out.below hb) (by omega)
          have I2 := Lib.hid (I2.out.below hb)
          have I3 := Lib.hid (I3.out.below hb)
          have I4 := Lib.hid (I4.out.below hb)
          have B13 := Lib.hid (bw B12.out hb)
          clear hi hb
          go_wp2_with fail
          refine hs.mono ?_
          rintro e w14 ⟨rfl, hb⟩
          have I2 := Lib.hid (I2.out.below hb)
          have I3 := Lib.hid (I3.out.below hb)
          have I4 := Lib.hid (I4.out.below hb)
          have B14 := Lib.hid (bw B13.out hb)
          clear hb hs
          -- five
          go_wp2_with fail
          refine (Minus_any I4.out (wf_set (HWA.out.app HWB.out)) (by omega) (HB.out.below B14.out) HWB.out (by omega)).mono ?_
          rintro e w15 ⟨v15, rfl, hi, hb⟩
          rw [laws_five] at hi
          have hs := same_self hi (I3.out.below hb) (by omega)
          have I2 := Lib.hid (I2.out.below hb)
          have I3 := Lib.hid (I3.out.below hb)
          have I4 := Lib.hid (I4.out.below hb)
          have B15 := Lib.hid (bw B14.out hb)
          clear hi hb
          go_wp2_with fail
          refine hs.mono ?_
          rintro e w16 ⟨rfl, hb⟩
          have I2 := Lib.hid (I2.out.below hb)
          have I3 := Lib.hid (I3.out.below hb)
          have I4 := Lib.hid (I4.out.below hb)
          have B16 := Lib.hid (bw B15.out hb)
          clear hb hs
          -- the rest
          have hme := Meets_any I3.out (wf_minus HWA.out) (by omega) (HB.out.below B16.out) HWB.out (by omega)
          rw [laws_six] at hme
          go_wp2_with fail
          refine hme.mono ?_
          rintro e w17 ⟨rfl, hb⟩
          have B17 := Lib.hid (bw B16.out hb)
          clear hb hme
          obtain ⟨a4, c4, rfl, _⟩ := I4.out.slice
          obtain ⟨a2, c2, rfl, _⟩ := I2.out.slice
          go_wp2_with fail
          refine (Set_any (HA.out.below B17.out) HWA.out (by omega)).mono ?_
          rintro e w18 ⟨v18, rfl, hi, hb⟩
          obtain ⟨a18, c18, rfl, _⟩ := hi.slice
          have B18 := Lib.hid (bw B17.out hb)
          clear hi hb
          go_wp2_with fail
          refine (Set_any (HB.out.below B18.out) HWB.out (by omega)).mono ?_
          rintro e w19 ⟨v19, rfl, hi, hb⟩
          obtain ⟨a19, c19, rfl, _⟩ := hi.slice
          have B19 := Lib.hid (bw B18.out hb)
          clear hi hb
          have hlu := len_union a b
          have hsa := len_setS_le a
          have hsb := len_setS_le b
          clear I4 I3 I2
          generalize (setS (a ++ b)).length = p1 at *
          generalize (interS a b).length = p2 at *
          generalize (setS a).length = p3 at *
          generalize (setS b).length = p4 at *
          have he : ((p1 : Int) == (p3 : Int) + (p4 : Int) - (p2 : Int)) = true := by rw [beq_iff_eq]; omega
          have hp2 : (p2 : Int) ≤ (p3 : Int) + (p4 : Int) := by omega
          clear hlu
          go_wp2
          go_ret
          exact ⟨ret_bool (by first | rfl | simp), B19.out⟩
        · obtain rfl : z = (k : Int) := by omega
          have hka : k < a.length := by omega
          obtain ⟨bk, off, rfl, hbk, hc⟩ := (HA.out.below HBR.out).get hka
          have hdd := dup_drop hka
          have hdl := len_dup (a.drop (k + 1))
          have hdl2 : (dup (a.drop (k + 1))).length ≤ 400 := by rw [hdl, List.length_drop]; omega
          have HDD := Lib.hid hdd
          clear hz hdd hdl
          generalize dup (a.drop (k + 1)) = C at *
          generalize a.getD k 0 = x at *
          have HRO : Hid (wr.drew.ownsRow w.heap.size 3 1 u6 C.length (intsC C)) := HO.out
          have hbd : Below w.heap.size w wr.drew := below_drewN HBR.out 1
          go_wp2
          go_region_law (go_loud (refine step_append_lies _ rfl (.tmp 35) (.tmp 44) 22 rfl w.heap.size 3 i0 (.int .i64 0) 1 8 Try.underlying22 hi0 hz0 hz1 hz2 rfl (by decide) u6 C.length (intsC C) rfl (HRO.out.alloc _) ⟨wr.heap.size, 0, none⟩ 2 2 [.int .i64 x, .int .i64 x] rfl rfl (two_news wr.drew x x _) (by intro u hu; simp only [List.mem_cons, List.not_mem_nil, or_false, or_self] at hu; subst hu; rfl) (by decide) (by unfold maxLen; omega) (by omega) (by simp; omega) _ rfl ?_; intro g7 cap7 w7 ho7 hg7 hl7 hlt7; have HO7 := Lib.hid ho7; have HG7 := Lib.hid hg7; clear ho7 hg7 hl7 hlt7))
          all_goals
            have HB7 : Hid (Below w.heap.size w w7) := (below_drewN (HBR.out.alloc hs _) 1).grown HG7.out (by show w.heap.size ≤ (wr.alloc _).heap.size; simp; omega) (fun k hk => (HO.out.lt k hk).1)
            have HO8 : Hid (w7.ownsRow w.heap.size 3 1 (.slice (some ⟨g7, 0, none⟩) (C.length + 2) cap7) (dup (a.drop k)).length (intsC (dup (a.drop k)))) := by
              show World.ownsRow _ _ _ _ _ _ _
              rw [HDD.out, List.length_append, intsC_app]; exact HO7.out
            clear HG7 HO7
            go_wp2
            go_roundw
            case rel => exact ⟨k, _, by omega, rfl, rfl, HO8, HB7⟩
            case measure => (simp [intOf]) <;> omega
    · have hltb : (200 : Int) < (b.length : Int) := by omega
      go_enter Try.func7, Try.ntmps7
      go_wp2_with fail
      refine hw.mono ?_
      rintro e w1 ⟨rfl, hb⟩
      have B1 := Lib.hid hb
      clear hb hw
      go_wp2
      go_ret
      exact ⟨rfl, B1.out⟩
  · have hlta : (200 : Int) < (a.length : Int) := by omega
    go_enter Try.func7, Try.ntmps7
    go_wp2_with fail
    refine hw.mono ?_
    rintro e w1 ⟨rfl, hb⟩
    have B1 := Lib.hid hb
    clear hb hw
    go_wp2
    go_ret
    exact ⟨rfl, B1.out⟩
end Go.Proofs.Ytcgoggkaiiljmaa
