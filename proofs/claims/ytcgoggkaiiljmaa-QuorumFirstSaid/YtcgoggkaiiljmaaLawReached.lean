/- The law QuorumReached. -/
import Derived.Test.YtcgoggkaiiljmaaLawMeets
namespace Go.Proofs.Ytcgoggkaiiljmaa
open Go.RowKit Go.Maps Go.Sort

theorem above_snoc (l : List Int) (y x : Int) : aboveS (l ++ [y]) x = aboveS l x + if x < y then 1 else 0 := by
  unfold aboveS; rw [List.countP_append, List.countP_singleton]; simp
theorem above_lt {l : List Int} (h : l ≠ []) : aboveS l (commitS l) < majS l.length := by
  rw [above_reach]; exact commit_above h (by omega)
theorem above_le_len (l : List Int) (x : Int) : aboveS l x ≤ l.length := List.countP_le_length
theorem IA.set_own {w : World} {g cap i : Nat} {l : List Int} {more : Int} (h : Holds (Value.int .i64) w g 0 l.toArray) (hg : g < w.heap.size) (hcap : l.length ≤ cap) (hi : i < l.length) :
    IA (w.setCell ⟨g, i, none⟩ (.int .i64 more)) (.slice (some ⟨g, 0, none⟩) l.length cap) (l.set i more) := by
  refine ⟨_, cap, by rw [List.length_set], by rw [List.length_set]; exact hcap, fun h => (by cases h), .inr ⟨g, 0, rfl, trivial, by simpa [World.setCell] using hg, fun j u hu => ?_⟩⟩
  have hj : j < l.length := by have := (List.getElem?_eq_some_iff.1 hu).1; simpa [intsC] using this
  have hc := cell_of_holds h j (.int .i64 (l.getD j 0)) (by simp [intsC, List.getElem?_eq_getElem hj, List.getD])
  rw [Nat.zero_add] at hc ⊢
  by_cases e : j = i
  · subst e
    rw [World.cell?_setCell_same' _ _ _ (by rw [hc]; rfl)]
    simp [intsC, hj] at hu
    rw [hu]
  · have hne : (⟨g, i, none⟩ : Addr) ≠ ⟨g, j, none⟩ := by
      intro hh
      injection hh with h1 h2
      exact e h2.symm
    rw [World.cell?_setCell_other w _ _ _ hne, hc]
    simp [intsC, List.getElem?_set, show ¬ i = j from fun h => e h.symm, List.getElem?_eq_getElem hj] at hu
    rw [← hu]
    simp [List.getD, hj]
set_option maxRecDepth 100000 in
set_option maxHeartbeats 8000000 in
theorem QuorumReached_law {w : World} {v : Value} {l : List Int} {i more : Int} (h : IA w v l) (hi : I64 i) (hm : I64 more) :
    Calls Try.prog 4 #[v, .int .i64 i, .int .i64 more] w fun e w' => e = .returned (.bool true) ∧ Below w.heap.size w w' := by
  have hw := works_any w
  have H := Lib.hid h
  obtain ⟨a, c, rfl, _⟩ := h.slice
  clear h
  by_cases hl0 : l = []
  · subst hl0
    have hc0 : commitS [] = 0 := rfl
    go_enter Try.func4, Try.ntmps4
    go_wp2_with fail
    refine hw.mono ?_
    rintro e w1 ⟨rfl, hb⟩
    have HI := Lib.hid (H.out.below hb)
    have HB := Lib.hid hb
    clear hb hw
    go_wp2_with fail
    refine (Commit_any HI.out (by simp)).mono ?_
    rintro e w2 ⟨rfl, hb⟩
    rw [hc0]
    have HB2 := Lib.hid (bw HB.out hb)
    clear hb
    go_wp2
    go_ret
    exact ⟨rfl, HB2.out⟩
  · have hpos := List.length_pos_iff.2 hl0
    have hni : ((l.length : Int) == 0) = false := by simp; omega
    by_cases hl : l.length ≤ 200
    · have hlt : ¬ (200 : Int) < (l.length : Int) := by omega
      have h1 := commit_reach hl0
      have h2 := above_lt hl0
      have hmem := List.contains_iff_mem.2 (commit_mem hl0)
      have HSET := Lib.hid (fun j x (hj : l[j]? = some x) (hx : x ≤ more) => commit_set (more := more) hj hx)
      have hmj := fun w => Majority_any w (l.length : Int) ⟨by omega, by omega⟩
      rw [Int.toNat_natCast] at hmj
      have HMJ := Lib.hid hmj
      have H0 := Lib.hid hl0
      have hh := fun w' (hb : Below w.heap.size w w') => Has_any (commitS l) (H.out.below hb) (by omega)
      rw [hmem] at hh
      have HH := Lib.hid hh
      have hcm := fun w' (hb : Below w.heap.size w w') => Commit_any (H.out.below hb) (by omega)
      have HC := Lib.hid hcm
      clear hh hcm hmj hl0 hmem
      generalize hcc : commitS l = cc at *
      have HCC := Lib.hid hcc
      clear hcc
      go_enter Try.func4, Try.ntmps4
      go_wp2_with fail
      refine hw.mono ?_
      rintro e w1 ⟨rfl, hb⟩
      have HI := Lib.hid (H.out.below hb)
      have HB := Lib.hid hb
      clear hb hw
      go_wp2_with fail
      refine (HC.out w1 HB.out).mono ?_
      rintro e w2 ⟨rfl, hb⟩
      have HI2 := Lib.hid (HI.out.below hb)
      have HB2 := Lib.hid (bw HB.out hb)
      clear hb
      go_wp2
      go_loopw [9, 10, 11] (fun u b i wr => ∃ k p q : Nat, k ≤ l.length ∧ p ≤ k ∧ q ≤ k ∧ i = .int .i64 k ∧ u = .int .i64 p ∧ b = .int .i64 q ∧ Hid (reachS (l.take k) cc = p) ∧ Hid (aboveS (l.take k) cc = q) ∧ w2 = wr) (fun _ _ i _ => l.length - (intOf i).toNat)
      case atStart => exact ⟨0, 0, 0, by omega, by omega, by omega, rfl, rfl, rfl, rfl, rfl, rfl⟩
      case round =>
        obtain ⟨k, p, q, hk, hp, hq, rfl, rfl, rfl, HX, HY, rfl⟩ := hrel
        by_cases hlt : k < l.length
        · obtain ⟨b, off, rfl, hb, hc⟩ := HI2.out.get hlt
          have hts := take_snocI l k hlt
          have hrs := reach_snoc (l.take k) (l.getD k 0) cc
          have has := above_snoc (l.take k) (l.getD k 0) cc
          rw [← hts, HX.out] at hrs
          rw [← hts, HY.out] at has
          generalize l.getD k 0 = y at *
          by_cases hxy : cc < y
          · rw [if_pos (by omega)] at hrs
            rw [if_pos hxy] at has
            have hxy2 : cc ≤ y := by omega
            have HX2 := Lib.hid hrs
            have HY2 := Lib.hid has
            clear hrs has hts
            go_wp2
            go_roundw
            case rel => exact ⟨k + 1, p + 1, q + 1, by omega, by omega, by omega, by go_num, by go_num, by go_num, HX2, HY2, trivial⟩
            case measure => simp [intOf]; omega
          · rw [if_neg hxy] at has
            by_cases hxe : cc ≤ y
            · rw [if_pos hxe] at hrs
              have HX2 := Lib.hid hrs
              have HY2 := Lib.hid has
              clear hrs has hts
              go_wp2
              go_roundw
              case rel => exact ⟨k + 1, p + 1, q, by omega, by omega, by omega, by go_num, by go_num, rfl, HX2, HY2, trivial⟩
              case measure => simp [intOf]; omega
            · rw [if_neg hxe] at hrs
              have HX2 := Lib.hid hrs
              have HY2 := Lib.hid has
              clear hrs has hts
              go_wp2
              go_roundw
              case rel => exact ⟨k + 1, p, q, by omega, by omega, by omega, by go_num, rfl, rfl, HX2, HY2, trivial⟩
              case measure => simp [intOf]; omega
        · obtain rfl : k = l.length := by omega
          rw [List.take_length] at HX HY
          rw [HX.out] at h1
          rw [HY.out] at h2
          have hmb : majS l.length ≤ 1048577 := by omega
          generalize hM : majS l.length = m at *
          clear hM
          go_wp2_with fail
          refine (HMJ.out w2).mono ?_
          rintro e w3 ⟨rfl, rfl⟩
          go_wp2_with fail
          refine (HH.out w2 HB2.out).mono ?_
          rintro e w3 ⟨rfl, rfl⟩
          have hs2 := HB2.out.size
          go_wp2_with (at_builtin; go_loud (refine wpList_append_list rfl _ _ rfl w.heap.size (.slice none 0 0) (.slice a l.length c) [] l rfl (own_nil _ _) rfl HI2.out (by simp; omega) hs2 ?_))
          intro v3 w3 ho hg
          have hnn : v3 ≠ .slice none 0 0 := by
            rintro rfl
            rcases ho.2 with ⟨_, e0⟩ | ⟨_, _, _, e0, _⟩
            · omega
            · cases e0
          have HB3 : Hid (Below w.heap.size w w3) := HB2.out.grown hg hs2 (fun k hk => by cases hk)
          obtain ⟨g, cap, rfl, hbg, hgl, hncap, _, _, hH⟩ := Lib.holds_of_ownsRow ho hnn
          have hgf := hgl
          have HOI := Lib.hid (IA.of_own ho)
          have HH3 := Lib.hid hH
          clear ho hg hnn hH HI HI2
          by_cases hin : 0 ≤ i ∧ i < (l.length : Int)
          · obtain ⟨I, rfl⟩ : ∃ I : Nat, i = I := ⟨i.toNat, by omega⟩
            have hIl : I < l.length := by omega
            obtain ⟨b, off, rfl, hb, hc⟩ := (H.out.below HB3.out).get hIl
            have hgk : l[I]? = some (l.getD I 0) := by rw [List.getElem?_eq_getElem hIl]; simp [List.getD, hIl]
            have HSI := Lib.hid (HSET.out I _ hgk)
            clear hgk
            generalize l.getD I 0 = x at *
            by_cases hxm : x ≤ more
            · have HCE := Lib.hid (HSI.out hxm)
              obtain ⟨hcl, hfr⟩ := HH3.out I (by simpa using hIl)
              rw [Nat.zero_add] at hcl hfr
              have HB4 : Hid (Below w.heap.size w (w3.setCell ⟨g, I, none⟩ (.int .i64 more))) := HB3.out.setCell hbg _
              have hcm := Commit_any (IA.set_own (more := more) HH3.out hgl hncap hIl) (by rw [List.length_set]; omega)
              have hle := HCE.out
              generalize commitS (l.set I more) = d at *
              clear hbg
              go_wp2_with fail
              refine hcm.mono ?_
              rintro e w5 ⟨rfl, hb⟩
              have HB5 := Lib.hid (HB4.out.trans (hb.mono HB4.out.size))
              clear hb hcm
              go_wp2
              go_ret
              exact ⟨ret_bool (by first | rfl | simp), HB5.out⟩
            · have hxm' : more < x := by omega
              have HB4 := HB3
              have hcm := Commit_any HOI.out (by omega)
              rw [HCC.out] at hcm
              go_wp2_with fail
              refine hcm.mono ?_
              rintro e w5 ⟨rfl, hb⟩
              have HB5 := Lib.hid (HB4.out.trans (hb.mono HB4.out.size))
              clear hb hcm
              go_wp2
              go_ret
              exact ⟨ret_bool (by first | rfl | simp), HB5.out⟩
          · have HB4 := HB3
            have hcm := Commit_any HOI.out (by omega)
            rw [HCC.out] at hcm
            by_cases hi0 : i < 0
            · have hi0' : ¬ 0 ≤ i := by omega
              go_wp2_with fail
              refine hcm.mono ?_
              rintro e w5 ⟨rfl, hb⟩
              have HB5 := Lib.hid (HB4.out.trans (hb.mono HB4.out.size))
              clear hb hcm
              go_wp2
              go_ret
              exact ⟨ret_bool (by first | rfl | simp), HB5.out⟩
            · have hi0' : 0 ≤ i := by omega
              have hi1 : (l.length : Int) ≤ i := by omega
              go_wp2_with fail
              refine hcm.mono ?_
              rintro e w5 ⟨rfl, hb⟩
              have HB5 := Lib.hid (HB4.out.trans (hb.mono HB4.out.size))
              clear hb hcm
              go_wp2
              go_ret
              exact ⟨ret_bool (by first | rfl | simp), HB5.out⟩
    · have hlt : (200 : Int) < (l.length : Int) := by omega
      have hpi : (0 : Int) < (l.length : Int) := by omega
      go_enter Try.func4, Try.ntmps4
      go_wp2_with fail
      refine hw.mono ?_
      rintro e w1 ⟨rfl, hb⟩
      have HB := Lib.hid hb
      clear hb hw
      go_wp2
      go_ret
      exact ⟨rfl, HB.out⟩
end Go.Proofs.Ytcgoggkaiiljmaa
