/- SameInts. -/
import Derived.Test.YtcgoggkaiiljmaaRefFC
namespace Go.Proofs.Ytcgoggkaiiljmaa
open Go.RowKit Go.Maps

theorem cell_i64 {w : World} {b off : Nat} {l : List Int} (hc : ∀ (j : Nat) u, (intsC l)[j]? = some u → w.cell? ⟨b, off + j, none⟩ = some u) (k : Nat) (hk : k < l.length) :
    w.cell? ⟨b, off + k, none⟩ = some (.int .i64 (l.getD k 0)) := by
  apply hc; simp [intsC, List.getElem?_eq_getElem hk, List.getD]
theorem eq_take {a b : List Int} {k : Nat} (h : a.take k = b.take k) (ha : k < a.length) (hb : k < b.length) (hx : a.getD k 0 = b.getD k 0) : a.take (k + 1) = b.take (k + 1) := by
  rw [take_snocI a k ha, take_snocI b k hb, h, hx]

set_option maxHeartbeats 2000000 in
theorem same_any (va vb : Value) (la lb : List Int) (w : World) (ha : IA w va la) (hb : IA w vb lb) (hla : la.length ≤ 1099511627776) (hlb : lb.length ≤ 1099511627776) :
    Calls Try.prog 15 #[va, vb] w fun e w' => e = .returned (.bool (decide (la = lb))) ∧ Below w.heap.size w w' := by
  obtain ⟨aa, capa, rfl, _, _, ha⟩ := ha
  obtain ⟨ab, capb, rfl, _, _, hb⟩ := hb
  by_cases hn : la.length = lb.length
  · have hni : ((la.length : Int) != (lb.length : Int)) = false := by rw [hn]; simp
    by_cases h0 : la.length = 0
    · have HE : Hid (decide (la = lb) = true) := by
        show _ = _
        rw [decide_eq_true_iff, List.eq_nil_of_length_eq_zero h0, List.eq_nil_of_length_eq_zero (hn.symm.trans h0)]
      have hni2 : ((0 : Int) != (lb.length : Int)) = false := by rw [← hn, h0]; rfl
      have hnb : lb.length = 0 := by omega
      rw [h0, hnb]
      go_enter Try.func15, Try.ntmps15
      go_wp2
      refine wp_loop_rounds 1 ?_
      rw [rounds_succ]
      go_wp2
      go_ret
      exact ⟨ret_bool HE.out.symm, Below.refl _ _⟩
    · rcases ha with ha | ⟨ba, offa, rfl, _, hlta, hca⟩
      · omega
      rcases hb with hb | ⟨bb, offb, rfl, _, hltb, hcb⟩
      · omega
      have HCA := Lib.hid hca
      have HCB := Lib.hid hcb
      have HN := Lib.hid hn
      clear hca hcb
      go_enter Try.func15, Try.ntmps15
      go_wp2
      go_loopw [5] (fun i wr => ∃ k : Nat, k ≤ la.length ∧ i = .int .i64 k ∧ la.take k = lb.take k ∧ Below w.heap.size w wr) (fun i _ => la.length - (intOf i).toNat)
      case atStart => exact ⟨0, by omega, rfl, by simp, Below.refl _ _⟩
      case round =>
        obtain ⟨k, hk, rfl, hx, hbw⟩ := hrel
        have HX := Lib.hid hx
        clear hx
        by_cases hlt : k < la.length
        · have hltb2 : k < lb.length := by omega
          have c1 : wr.cell? ⟨ba, offa + k, none⟩ = some (.int .i64 (la.getD k 0)) := (hbw.cell (p := ⟨ba, offa + k, none⟩) hlta).trans (cell_i64 HCA.out k hlt)
          have c2 : wr.cell? ⟨bb, offb + k, none⟩ = some (.int .i64 (lb.getD k 0)) := (hbw.cell (p := ⟨bb, offb + k, none⟩) hltb).trans (cell_i64 HCB.out k hltb2)
          clear hn hni
          generalize hxa : la.getD k 0 = xa at *
          generalize hxb : lb.getD k 0 = xb at *
          have HXA := Lib.hid hxa
          have HXB := Lib.hid hxb
          clear hxa hxb
          by_cases hxy : xa = xb
          · have hxyi : (xa != xb) = false := by rw [hxy]; simp
            have HXY := Lib.hid hxy
            clear hxy
            go_wp2
            go_quiet (fail)
            go_wp2
            go_roundw
            case rel => exact ⟨k + 1, by omega, by go_num, eq_take HX.out hlt hltb2 (by rw [HXA.out, HXB.out, HXY.out]), below_drewN hbw _⟩
            case measure => simp [intOf]; omega
          · have hxyi : (xa != xb) = true := by rw [bne_iff_ne]; exact hxy
            have HE : Hid (decide (la = lb) = false) := by
              show _ = _
              rw [decide_eq_false_iff_not]
              intro e; apply hxy; rw [← HXA.out, ← HXB.out, e]
            clear hxy
            go_wp2
            go_quiet (fail)
            go_wp2
            go_ret
            exact ⟨ret_bool HE.out.symm, below_drewN hbw _⟩
        · have HE : Hid (decide (la = lb) = true) := by
            show _ = _
            rw [decide_eq_true_iff]
            have := HX.out
            rwa [List.take_of_length_le (by omega), List.take_of_length_le (by omega)] at this
          clear hn hni
          go_wp2
          go_ret
          exact ⟨ret_bool HE.out.symm, hbw⟩
  · have hni : ((la.length : Int) != (lb.length : Int)) = true := by rw [bne_iff_ne]; omega
    have HE : Hid (decide (la = lb) = false) := by
      show _ = _
      rw [decide_eq_false_iff_not]; intro e; exact hn (by rw [e])
    clear hn
    go_enter Try.func15, Try.ntmps15
    go_wp2
    go_ret
    exact ⟨ret_bool HE.out.symm, Below.refl _ _⟩
end Go.Proofs.Ytcgoggkaiiljmaa
