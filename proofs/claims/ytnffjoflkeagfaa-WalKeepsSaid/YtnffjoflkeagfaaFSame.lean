/- SameTexts. -/
import Derived.Test.YtnffjoflkeagfaaFJoin
namespace Go.Proofs.Ytnffjoflkeagfaa.Fr
open Go.RowKit

theorem neB {a b : ByteArray} (h : a ≠ b) : (a.toList == b.toList) = false := by
  rw [beq_eq_false_iff_ne]
  intro e
  rw [Lib.toList_data, Lib.toList_data] at e
  exact h (ba_ext e)
theorem eqB {a b : ByteArray} (h : a = b) : (a.toList == b.toList) = true := by rw [h]; simp
theorem eq_takeB {a b : List ByteArray} {k : Nat} {x : ByteArray} (h : a.take k = b.take k) (ha : a[k]? = some x) (hb : b[k]? = some x) : a.take (k + 1) = b.take (k + 1) := by
  rw [take_snocA a k x ha, take_snocA b k x hb, h]

set_option maxHeartbeats 2000000 in
theorem same_any (va vb : Value) (la lb : List ByteArray) (w : World) (ha : ListAt w va la.length (cellsOf strC la)) (hb : ListAt w vb lb.length (cellsOf strC lb)) (hla : la.length ≤ 1099511627776) (hlb : lb.length ≤ 1099511627776) :
    Calls Try.prog 19 #[va, vb] w fun e w' => e = .returned (.bool (decide (la = lb))) ∧ Below w.heap.size w w' := by
  obtain ⟨_, aa, capa, rfl, _, ha⟩ := ha
  obtain ⟨_, ab, capb, rfl, _, hb⟩ := hb
  by_cases hn : la.length = lb.length
  · have hni : ((la.length : Int) != (lb.length : Int)) = false := by rw [hn]; simp
    by_cases h0 : la.length = 0
    · have HE : Hid (decide (la = lb) = true) := by
        show _ = _
        rw [decide_eq_true_iff, List.eq_nil_of_length_eq_zero h0, List.eq_nil_of_length_eq_zero (hn.symm.trans h0)]
      have hni2 : ((0 : Int) != (lb.length : Int)) = false := by rw [← hn, h0]; rfl
      have hnb : lb.length = 0 := by omega
      rw [h0, hnb]
      go_enter Try.func19, Try.ntmps19
      go_wp2
      refine wp_loop_rounds 1 ?_
      rw [rounds_succ]
      go_wp2
      go_ret
      exact ⟨ret_bool HE.out.symm, Below.refl _ _⟩
    · rcases ha with ha | ⟨ba, offa, rfl, hlta, hca⟩
      · omega
      rcases hb with hb | ⟨bb, offb, rfl, hltb, hcb⟩
      · omega
      have HCA := Lib.hid hca
      have HCB := Lib.hid hcb
      have HN := Lib.hid hn
      clear hca hcb
      go_enter Try.func19, Try.ntmps19
      go_wp2
      go_loopw [5] (fun i wr => ∃ k : Nat, k ≤ la.length ∧ i = .int .i64 k ∧ la.take k = lb.take k ∧ Below w.heap.size w wr) (fun i _ => la.length - (intOf i).toNat)
      case atStart => exact ⟨0, by omega, rfl, by simp, Below.refl _ _⟩
      case round =>
        obtain ⟨k, hk, rfl, hx, hbw⟩ := hrel
        have HX := Lib.hid hx
        clear hx
        by_cases hlt : k < la.length
        · have hltb2 : k < lb.length := by omega
          obtain ⟨xa, hxa⟩ : ∃ x, la[k]? = some x := ⟨la[k], List.getElem?_eq_getElem hlt⟩
          obtain ⟨xb, hxb⟩ : ∃ x, lb[k]? = some x := ⟨lb[k], List.getElem?_eq_getElem hltb2⟩
          have c1 : wr.cell? ⟨ba, offa + k, none⟩ = some (.string xa) := (hbw.cell (p := ⟨ba, offa + k, none⟩) hlta).trans (ListAt.get HCA.out hxa)
          have c2 : wr.cell? ⟨bb, offb + k, none⟩ = some (.string xb) := (hbw.cell (p := ⟨bb, offb + k, none⟩) hltb).trans (ListAt.get HCB.out hxb)
          clear hn hni
          have HXA := Lib.hid hxa
          have HXB := Lib.hid hxb
          clear hxa hxb
          by_cases hxy : xa = xb
          · have hxyi : (xa.toList == xb.toList) = true := by rw [hxy]; simp
            have HXY := Lib.hid hxy
            clear hxy
            go_wp2
            go_quiet (fail)
            go_wp2
            go_roundw
            case rel => exact ⟨k + 1, by omega, by go_num, eq_takeB HX.out HXA.out (by rw [HXY.out]; exact HXB.out), below_drewN hbw _⟩
            case measure => simp [intOf]; omega
          · have hxyi : (xa.toList == xb.toList) = false := neB hxy
            have HE : Hid (decide (la = lb) = false) := by
              show _ = _
              rw [decide_eq_false_iff_not]
              intro e; apply hxy
              have h := HXA.out
              rw [e, HXB.out] at h
              exact (Option.some.inj h).symm
            clear hxy
            go_wp2
            go_quiet (fail)
            go_wp2
            go_ret
            exact ⟨ret_bool HE.out.symm, below_drewN hbw _⟩
        · have HE : Hid (decide (la = lb) = true) := by
            show _ = _
            rw [decide_eq_true_iff]
            have := HX.out
            rwa [List.take_of_length_le (by omega), List.take_of_length_le (by omega)] at this
          clear hn hni
          go_wp2
          go_ret
          exact ⟨ret_bool HE.out.symm, hbw⟩
  · have hni : ((la.length : Int) != (lb.length : Int)) = true := by rw [bne_iff_ne]; omega
    have HE : Hid (decide (la = lb) = false) := by
      show _ = _
      rw [decide_eq_false_iff_not]; intro e; exact hn (by rw [e])
    clear hn
    go_enter Try.func19, Try.ntmps19
    go_wp2
    go_ret
    exact ⟨ret_bool HE.out.symm, Below.refl _ _⟩
end Go.Proofs.Ytnffjoflkeagfaa.Fr
