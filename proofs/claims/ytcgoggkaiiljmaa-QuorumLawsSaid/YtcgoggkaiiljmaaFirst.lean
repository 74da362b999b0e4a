/- First. -/
import Derived.Test.YtcgoggkaiiljmaaRising
namespace Go.Proofs.Ytcgoggkaiiljmaa
open Go.RowKit Go.Maps

theorem pushF_new {l : List Int} {n x : Int} (h : ((firstS l n).length : Int) < n) (hx : x ∉ l) : firstS (l ++ [x]) n = firstS l n ++ [x] := by
  rw [firstS_snoc]; unfold pushF; rw [if_pos ⟨h, fun hm => hx (firstS_mem hm)⟩]
theorem pushF_old {l : List Int} {n x : Int} (h : ((firstS l n).length : Int) < n) (hx : x ∈ l) : firstS (l ++ [x]) n = firstS l n := by
  rw [firstS_snoc]; unfold pushF; rw [if_neg (fun hh => hh.2 (firstS_all h hx))]
theorem len_firstS_le (l : List Int) (n : Int) : (firstS l n).length ≤ l.length := Nat.le_trans (sub_len (firstS_nodup l n) (fun x hx => mem_setS.2 (firstS_mem hx))) (len_setS_le l)
set_option maxRecDepth 100000 in
set_option maxHeartbeats 4000000 in
theorem First_any {w : World} {v : Value} {l : List Int} (n : Int) (h : IA w v l) (hw : Wf l) (hl : l.length ≤ 1048576) :
    Calls Try.prog 24 #[v, .int .i64 n] w fun e w' => ∃ v', e = .returned v' ∧ IA w' v' (firstS l n) ∧ Below w.heap.size w w' := by
  obtain ⟨a, c, rfl, hac⟩ := h.slice
  have H := Lib.hid h
  have HW := Lib.hid hw
  have hmm := @run_makeMap Try.prog
  clear h hw
  go_enter Try.func24, Try.ntmps24
  go_wp2
  go_loopw [5, 12] (fun s i wr => ∃ k : Nat, k ≤ l.length ∧ i = .int .i64 k ∧ Hid (wr.ownsRow (w.heap.size + 1) 3 1 s (firstS (l.take k) n).length (intsC (firstS (l.take k) n))) ∧ Hid (IMap wr w.heap.size k (oftG (l.take k))) ∧ Hid (Below w.heap.size w wr)) (fun _ i _ => l.length - (intOf i).toNat)
  case atStart => exact ⟨0, by omega, rfl, own_nil _ _, by show IMap _ _ _ _; rw [List.take_zero, oft_nil]; exact GMap.made _ _, (Below.refl _ _).alloc (Nat.le_refl _) _⟩
  case round =>
    obtain ⟨k, hk, rfl, HO, HM, HB⟩ := hrel
    obtain ⟨ra, rc, rfl⟩ := row_slice HO.out
    by_cases hlt : k < l.length
    · obtain ⟨b, off, rfl, hb, hc⟩ := (H.out.below HB.out).get hlt
      have hx : I64 (l.getD k 0) := HW.out _ (getD_mem hlt)
      have HTS := Lib.hid (take_snocI l k hlt)
      have hcx : (l.take k).count (l.getD k 0) ≤ 1048576 := Nat.le_trans List.count_le_length (by rw [List.length_take]; omega)
      by_cases hfull : n ≤ ((firstS (l.take k) n).length : Int)
      · have HE := Lib.hid (firstS_take hfull)
        generalize hq : (firstS (l.take k) n).length = q at *
        have HQ := Lib.hid hq
        generalize l.getD k 0 = x at *
        clear hq
        go_wp2
        go_ret
        refine ⟨_, rfl, ?_, HB.out⟩
        rw [HE.out]
        have := HO.out
        rw [← HQ.out] at this
        rw [← HQ.out]
        exact IA.of_own this
      · have hfull' : ((firstS (l.take k) n).length : Int) < n := by omega
        have hni : ¬ (n ≤ ((firstS (l.take k) n).length : Int)) := hfull
        have hflen := len_firstS_le (l.take k) n
        have hkl : (l.take k).length ≤ 1048576 := by rw [List.length_take]; omega
        have hlk := (HM.out.look 41 3 Try.underlying41 (fun w => zeroI w) hx wr rfl).1
        rw [oft_val] at hlk
        obtain ⟨w2, r2, m2, u2⟩ := HM.out.put 41 3 Try.underlying41 hx (by unfold maxLen; omega) (((l.take k).count (l.getD k 0) : Nat) + 1 : Int)
        rw [oft_snoc] at m2
        have hlk2 := (m2.look 41 3 Try.underlying41 (fun w => zeroI w) hx w2 rfl).1
        rw [oft_val, List.count_append, List.count_singleton_self] at hlk2
        have hsz2 := turned_size u2
        have hms : w.heap.size < wr.heap.size := HM.out.lt
        have HO2 : Hid (w2.ownsRow (w.heap.size + 1) 3 1 (.slice ra (firstS (l.take k) n).length rc) (firstS (l.take k) n).length (intsC (firstS (l.take k) n))) := own_keep HO.out (fun g _ h1 h2 => u2.grown.block g h2 (fun e => by cases e; omega))
        have HB2 := Lib.hid (HB.out.grown u2.grown HB.out.size (fun k hk => by cases hk; exact Nat.le_refl _))
        rw [← take_snocI l k hlt] at m2
        have HM2 := Lib.hid m2
        have hw2 : w.heap.size + 1 ≤ w2.heap.size := by omega
        have e1 : (((l.take k).count (l.getD k 0) + 1 : Nat) : Int) = (((l.take k).count (l.getD k 0) : Nat) : Int) + 1 := by omega
        rw [e1] at hlk2
        by_cases hin : l.getD k 0 ∈ l.take k
        · have hF := pushF_old hfull' hin
          rw [← take_snocI l k hlt] at hF
          have HF := Lib.hid hF
          have hq1 : 0 < (l.take k).count (l.getD k 0) := List.count_pos_iff.2 hin
          clear m2 u2 hF hin hsz2 hms hfull e1
          generalize (l.take k).count (l.getD k 0) = q at *
          generalize l.getD k 0 = x at *
          generalize firstS (l.take k) n = F at *
          generalize hfl : F.length = m at *
          have HFL := Lib.hid hfl
          clear hfl
          have hqe : ((q : Int) + 1 == 1) = false := by simp; omega
          have hqb : (q : Int) ≤ 9223372036854775806 := by omega
          go_wp2
          go_roundw
          case rel => exact ⟨k + 1, by omega, by go_num, by rw [HF.out, HFL.out]; exact HO2, HM2, HB2⟩
          case measure => simp [intOf]; omega
        · have hF := pushF_new hfull' hin
          rw [← take_snocI l k hlt] at hF
          have HF := Lib.hid hF
          have hq1 : (l.take k).count (l.getD k 0) = 0 := List.count_eq_zero.2 hin
          rw [hq1, show (((0 : Nat) : Int)) = 0 from rfl] at hlk hlk2 r2
          rw [show ((0 : Int) + 1) = 1 from rfl] at hlk2 r2
          clear m2 u2 hF hin hsz2 hms hfull e1 hq1
          generalize l.getD k 0 = x at *
          generalize firstS (l.take k) n = F at *
          generalize hfl : F.length = m at *
          have HFL := Lib.hid hfl
          have HO3 : Hid (w2.ownsRow (w.heap.size + 1) 3 1 (.slice ra m rc) F.length (intsC F)) := by rw [hfl]; exact HO2
          clear hfl
          go_wp2_with (at_builtin; go_loud (refine wpList_append_one rfl _ _ rfl (w.heap.size + 1) (.slice ra m rc) F x rfl HO3.out rfl (by rw [HFL.out]; omega) hw2 ?_))
          intro v' w3 ho hg
          have HO4 : Hid (w3.ownsRow (w.heap.size + 1) 3 1 v' (F ++ [x]).length (intsC (F ++ [x]))) := by show World.ownsRow _ _ _ _ _ _ _; rw [List.length_append]; exact ho
          have HM3 : Hid (IMap w3 w.heap.size (k + 1) (oftG (l.take (k + 1)))) := HM2.out.keep (hg.block _ HM2.out.lt (fun e => by have := (HO2.out.lt _ e.symm).1; omega))
          have HB3 : Hid (Below w.heap.size w w3) := HB2.out.grown hg (by omega) (fun k hk => by have := (HO2.out.lt k hk).1; omega)
          clear ho hg
          go_wp2
          go_roundw
          case rel => exact ⟨k + 1, by omega, by go_num, by rw [HF.out]; exact HO4, HM3, HB3⟩
          case measure => simp [intOf]; omega
    · obtain rfl : k = l.length := by omega
      have h := HO.out
      rw [List.take_length] at h
      have HO1 := Lib.hid h
      clear h
      go_wp2
      go_ret
      refine ⟨.slice ra (firstS l n).length rc, ?_, IA.of_own HO1.out, HB.out⟩
      rw [List.take_length]
      rfl
end Go.Proofs.Ytcgoggkaiiljmaa
