/- The document's First and Commit. -/
import Derived.Test.YtcgoggkaiiljmaaRefIM
namespace Go.Proofs.Ytcgoggkaiiljmaa
open Go.RowKit Go.Maps

set_option maxRecDepth 100000 in
set_option maxHeartbeats 4000000 in
theorem RefFirst_any {w : World} {v : Value} {l : List Int} (n : Int) (h : IA w v l) (hl : l.length ≤ 1048576) :
    Calls Try.prog 25 #[v, .int .i64 n] w fun e w' => ∃ v', e = .returned v' ∧ IA w' v' (firstS l n) ∧ Below w.heap.size w w' := by
  obtain ⟨a, c, rfl, hac⟩ := h.slice
  have H := Lib.hid h
  clear h
  go_enter Try.func25, Try.ntmps25
  go_wp2
  go_loopw [5, 6, 7] (fun s i _ wr => ∃ k : Nat, k ≤ l.length ∧ i = .int .i64 k ∧ Hid (wr.ownsRow w.heap.size 3 1 s (firstS (l.take k) n).length (intsC (firstS (l.take k) n))) ∧ Hid (Below w.heap.size w wr)) (fun _ i _ _ => l.length - (intOf i).toNat)
  case atStart => exact ⟨0, by omega, rfl, own_nil _ _, Below.refl _ _⟩
  case round =>
    obtain ⟨k, hk, rfl, HO, HB⟩ := hrel
    obtain ⟨ra, rc, rfl⟩ := row_slice HO.out
    by_cases hlt : k < l.length
    · obtain ⟨b, off, rfl, hb, hc⟩ := (H.out.below HB.out).get hlt
      have HTS := Lib.hid (take_snocI l k hlt)
      by_cases hfull : n ≤ ((firstS (l.take k) n).length : Int)
      · have HE := Lib.hid (firstS_take hfull)
        have hf2 : decide (((firstS (l.take k) n).length : Int) < n) = false := decide_eq_false (by omega)
        generalize hq : (firstS (l.take k) n).length = q at *
        have HQ := Lib.hid hq
        generalize l.getD k 0 = x at *
        clear hq
        go_wp2
        go_ret
        refine ⟨_, rfl, ?_, HB.out⟩
        rw [HE.out]
        have := HO.out
        rw [← HQ.out] at this
        rw [← HQ.out]
        exact IA.of_own this
      · have hfull' : ((firstS (l.take k) n).length : Int) < n := by omega
        have hf2 : decide (((firstS (l.take k) n).length : Int) < n) = true := decide_eq_true hfull'
        have hflen := len_firstS_le (l.take k) n
        have hkl : (l.take k).length ≤ 1048576 := by rw [List.length_take]; omega
        have hh := RefHas_any (l.getD k 0) (IA.of_own HO.out) (by omega)
        have hs := HB.out.size
        by_cases hin : l.getD k 0 ∈ l.take k
        · have hF := pushF_old hfull' hin
          rw [← take_snocI l k hlt] at hF
          have HF := Lib.hid hF
          have hcx : (firstS (l.take k) n).contains (l.getD k 0) = true := List.contains_iff_mem.2 (firstS_all hfull' hin)
          rw [hcx] at hh
          clear hF hin hfull hcx
          generalize l.getD k 0 = x at *
          generalize firstS (l.take k) n = F at *
          generalize hfl : F.length = m at *
          have HFL := Lib.hid hfl
          clear hfl
          go_wp2_with fail
          refine hh.mono ?_
          rintro e w1 ⟨rfl, rfl⟩
          go_wp2
          go_roundw
          case rel => exact ⟨k + 1, by omega, by go_num, by rw [HF.out, HFL.out]; exact HO, HB⟩
          case measure => simp [intOf]; omega
        · have hF := pushF_new hfull' hin
          rw [← take_snocI l k hlt] at hF
          have HF := Lib.hid hF
          have hcx : (firstS (l.take k) n).contains (l.getD k 0) = false := by
            rw [Bool.eq_false_iff]; intro hc; exact hin (firstS_mem (List.contains_iff_mem.1 hc))
          rw [hcx] at hh
          clear hF hin hfull hcx
          generalize l.getD k 0 = x at *
          generalize firstS (l.take k) n = F at *
          generalize hfl : F.length = m at *
          have HFL := Lib.hid hfl
          have HO3 : Hid (wr.ownsRow w.heap.size 3 1 (.slice ra m rc) F.length (intsC F)) := by rw [hfl]; exact HO
          clear hfl
          go_wp2_with fail
          refine hh.mono ?_
          rintro e w1 ⟨rfl, rfl⟩
          go_wp2_with (at_builtin; go_loud (refine wpList_append_one rfl _ _ rfl w.heap.size (.slice ra m rc) F x rfl HO3.out rfl (by rw [HFL.out]; omega) hs ?_))
          intro v' w3 ho hg
          have HO4 : Hid (w3.ownsRow w.heap.size 3 1 v' (F ++ [x]).length (intsC (F ++ [x]))) := by show World.ownsRow _ _ _ _ _ _ _; rw [List.length_append]; exact ho
          have HB3 : Hid (Below w.heap.size w w3) := HB.out.grown hg (by omega) (fun k hk => (HO.out.lt k hk).1)
          clear ho hg
          go_wp2
          go_roundw
          case rel => exact ⟨k + 1, by omega, by go_num, by rw [HF.out]; exact HO4, HB3⟩
          case measure => simp [intOf]; omega
    · obtain rfl : k = l.length := by omega
      have h := HO.out
      rw [List.take_length] at h
      have HO1 := Lib.hid h
      clear h
      go_wp2
      go_ret
      refine ⟨.slice ra (firstS l n).length rc, ?_, IA.of_own HO1.out, HB.out⟩
      rw [List.take_length]
      rfl
/-- the best so far -/
def Best (l : List Int) (c b : Int) (s : Bool) : Prop := (s = false → b = 0 ∧ ∀ x ∈ l, c < x) ∧ (s = true → b ≤ c ∧ (∀ x ∈ l, x ≤ c → x ≤ b) ∧ l ≠ [])
theorem best_nil (c : Int) : Best [] c 0 false := ⟨fun _ => ⟨rfl, by simp⟩, fun h => by cases h⟩
theorem best_skip {l : List Int} {c b x : Int} {s : Bool} (h : Best l c b s) (hx : c < x) : Best (l ++ [x]) c b s := by
  refine ⟨fun hs => ⟨(h.1 hs).1, fun y hy => ?_⟩, fun hs => ⟨(h.2 hs).1, fun y hy hc => ?_, by simp⟩⟩
  · rcases List.mem_append.1 hy with h1 | h1
    · exact (h.1 hs).2 y h1
    · rw [List.mem_singleton.1 h1]; exact hx
  · rcases List.mem_append.1 hy with h1 | h1
    · exact (h.2 hs).2.1 y h1 hc
    · rw [List.mem_singleton.1 h1] at hc; omega
theorem best_take {l : List Int} {c b x : Int} {s : Bool} (h : Best l c b s) (hx : x ≤ c) (hb : s = true → b < x) : Best (l ++ [x]) c x true := by
  refine ⟨fun hs => (by cases hs), fun _ => ⟨hx, fun y hy hc => ?_, by simp⟩⟩
  rcases List.mem_append.1 hy with h1 | h1
  · cases s with
    | false => have := (h.1 rfl).2 y h1; omega
    | true => have := (h.2 rfl).2.1 y h1 hc; have := hb rfl; omega
  · rw [List.mem_singleton.1 h1]; exact Int.le_refl _
theorem best_keep {l : List Int} {c b x : Int} (h : Best l c b true) (hb : x ≤ b) : Best (l ++ [x]) c b true := by
  refine ⟨fun hs => (by cases hs), fun _ => ⟨(h.2 rfl).1, fun y hy hc => ?_, by simp⟩⟩
  rcases List.mem_append.1 hy with h1 | h1
  · exact (h.2 rfl).2.1 y h1 hc
  · rw [List.mem_singleton.1 h1]; exact hb
theorem best_end {l : List Int} {b : Int} {s : Bool} (h : Best l (commitS l) b s) : b = commitS l := by
  by_cases h0 : l = []
  · subst h0
    have hc : commitS [] = 0 := rfl
    cases s with
    | false => rw [hc]; exact (h.1 rfl).1
    | true => exact absurd rfl (h.2 rfl).2.2
  · have hm := commit_mem h0
    cases s with
    | false => have := (h.1 rfl).2 _ hm; omega
    | true =>
      have h1 := (h.2 rfl).1
      have h2 := (h.2 rfl).2.1 _ hm (Int.le_refl _)
      omega
set_option maxRecDepth 100000 in
set_option maxHeartbeats 4000000 in
theorem RefCommit_any {w : World} {v : Value} {l : List Int} (h : IA w v l) (hl : l.length ≤ 1048576) :
    Calls Try.prog 13 #[v] w fun e w' => e = .returned (.int .i64 (commitS l)) ∧ w = w' := by
  have hrc := fun x => reach_any x h hl
  have HR := Lib.hid hrc
  have hmj := RefMajority_any w (l.length : Int) ⟨by omega, by omega⟩
  rw [Int.toNat_natCast] at hmj
  obtain ⟨a, c, rfl, hac⟩ := h.slice
  have H := Lib.hid h
  clear h hrc
  go_enter Try.func13, Try.ntmps13
  go_wp2
  go_loopw [3, 4, 5] (fun bv sv i wr => ∃ (k : Nat) (b : Int) (s : Bool), k ≤ l.length ∧ i = .int .i64 k ∧ bv = .int .i64 b ∧ sv = .bool s ∧ Hid (Best (l.take k) (commitS l) b s) ∧ w = wr) (fun _ _ i _ => l.length - (intOf i).toNat)
  case atStart => exact ⟨0, 0, false, by omega, rfl, rfl, rfl, best_nil _, rfl⟩
  case round =>
    obtain ⟨k, b, s, hk, rfl, rfl, rfl, HX, rfl⟩ := hrel
    by_cases hlt : k < l.length
    · obtain ⟨blk, off, rfl, hb, hc⟩ := H.out.get hlt
      have hts := take_snocI l k hlt
      have hne : l ≠ [] := by intro e; rw [e] at hlt; simp at hlt
      have hci := commit_is hne (x := l.getD k 0)
      have hr := HR.out (l.getD k 0)
      have hm63 : majS l.length ≤ 1048577 := by unfold majS; omega
      have hr63 := reach_le_len l (l.getD k 0)
      generalize majS l.length = m at *
      generalize reachS l (l.getD k 0) = q at *
      generalize l.getD k 0 = x at *
      by_cases hxc : x ≤ commitS l
      · have hmq : m ≤ q := hci.2 hxc
        cases s with
        | false =>
          have HX2 : Hid (Best (l.take (k + 1)) (commitS l) x true) := by show Best _ _ _ _; rw [hts]; exact best_take HX.out hxc (fun h => by cases h)
          clear hci hts hne hxc
          go_wp2_with fail
          refine hr.mono ?_
          rintro e w1 ⟨rfl, rfl⟩
          go_wp2_with fail
          refine hmj.mono ?_
          rintro e w1 ⟨rfl, rfl⟩
          go_wp2
          go_roundw
          case rel => exact ⟨k + 1, x, true, by omega, by go_num, rfl, rfl, HX2, trivial⟩
          case measure => simp [intOf]; omega
        | true =>
          by_cases hbx : b < x
          · have HX2 : Hid (Best (l.take (k + 1)) (commitS l) x true) := by show Best _ _ _ _; rw [hts]; exact best_take HX.out hxc (fun _ => hbx)
            clear hci hts hne hxc
            go_wp2_with fail
            refine hr.mono ?_
            rintro e w1 ⟨rfl, rfl⟩
            go_wp2_with fail
            refine hmj.mono ?_
            rintro e w1 ⟨rfl, rfl⟩
            go_wp2
            go_roundw
            case rel => exact ⟨k + 1, x, true, by omega, by go_num, rfl, rfl, HX2, trivial⟩
            case measure => simp [intOf]; omega
          · have HX2 : Hid (Best (l.take (k + 1)) (commitS l) b true) := by show Best _ _ _ _; rw [hts]; exact best_keep HX.out (by omega)
            clear hci hts hne hxc
            go_wp2_with fail
            refine hr.mono ?_
            rintro e w1 ⟨rfl, rfl⟩
            go_wp2_with fail
            refine hmj.mono ?_
            rintro e w1 ⟨rfl, rfl⟩
            go_wp2
            go_roundw
            case rel => exact ⟨k + 1, b, true, by omega, by go_num, rfl, rfl, HX2, trivial⟩
            case measure => simp [intOf]; omega
      · have hmq : ¬ m ≤ q := fun hh => hxc (hci.1 hh)
        have hmq2 : q < m := by omega
        have HX2 : Hid (Best (l.take (k + 1)) (commitS l) b s) := by show Best _ _ _ _; rw [hts]; exact best_skip HX.out (by omega)
        clear hci hts hne hxc hmq
        go_wp2_with fail
        refine hr.mono ?_
        rintro e w1 ⟨rfl, rfl⟩
        go_wp2_with fail
        refine hmj.mono ?_
        rintro e w1 ⟨rfl, rfl⟩
        go_wp2
        go_roundw
        case rel => exact ⟨k + 1, b, s, by omega, by go_num, rfl, rfl, HX2, trivial⟩
        case measure => simp [intOf]; omega
    · obtain rfl : k = l.length := by omega
      have h := HX.out
      rw [List.take_length] at h
      have HE := Lib.hid (best_end h)
      clear h
      go_wp2
      go_ret
      exact ⟨ret_int HE.out, rfl⟩
end Go.Proofs.Ytcgoggkaiiljmaa
