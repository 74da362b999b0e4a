/- The law QuorumFirst. -/
import Derived.Test.YtcgoggkaiiljmaaLawReached
namespace Go.Proofs.Ytcgoggkaiiljmaa
open Go.RowKit Go.Maps

theorem foldF_prefix {n : Int} : ∀ (l out : List Int), out <+: l.foldl (pushF n) out
  | [], out => List.prefix_refl _
  | x :: l, out => by
    refine List.IsPrefix.trans ?_ (foldF_prefix l (pushF n out x))
    unfold pushF
    split
    · exact List.prefix_append _ _
    · exact List.prefix_refl _
theorem firstS_prefix (l : List Int) (n : Int) (i : Nat) : firstS (l.take i) n <+: firstS l n := by
  have : firstS l n = (l.drop i).foldl (pushF n) (firstS (l.take i) n) := by
    unfold firstS; rw [← List.foldl_append, List.take_append_drop]
  rw [this]
  exact foldF_prefix _ _
/-- how far one has come in f when i numbers of l are done -/
def At (l : List Int) (n : Int) (i k : Nat) : Prop := firstS (l.take i) n = (firstS l n).take k ∧ (firstS (l.take i) n).length = k
theorem at_zero (l : List Int) (n : Int) : At l n 0 0 := ⟨rfl, rfl⟩
theorem At.le {l : List Int} {n : Int} {i k : Nat} (h : At l n i k) : k ≤ (firstS l n).length := by
  have := (firstS_prefix l n i).length_le; rw [h.2] at this; exact this
theorem At.room {l : List Int} {n : Int} {i k : Nat} (h : At l n i k) (hk : k < (firstS l n).length) : ((firstS (l.take i) n).length : Int) < n := by
  have := firstS_le l n; rw [h.2]; omega
theorem At.old {l : List Int} {n : Int} {i k : Nat} (h : At l n i k) (hk : k < (firstS l n).length) (hi : i < l.length) (hin : l.getD i 0 ∈ l.take i) : At l n (i + 1) k ∧ l.getD i 0 ≠ (firstS l n).getD k 0 ∧ ((firstS l n).take k).contains (l.getD i 0) = true := by
  have hr := h.room hk
  have hF := pushF_old hr hin
  rw [← take_snocI l i hi] at hF
  have hm : l.getD i 0 ∈ (firstS l n).take k := by rw [← h.1]; exact firstS_all hr hin
  refine ⟨⟨by rw [hF]; exact h.1, by rw [hF]; exact h.2⟩, fun e => ?_, List.contains_iff_mem.2 hm⟩
  obtain ⟨j, hj⟩ := List.getElem?_of_mem hm
  rw [List.getElem?_take] at hj
  split at hj
  · rename_i hjk
    have hjl := (List.getElem?_eq_some_iff.1 hj).1
    have h1 := (List.getElem?_eq_some_iff.1 hj).2
    have h2 : (firstS l n)[k] = l.getD i 0 := by rw [e]; simp [List.getD, hk]
    have := List.pairwise_iff_getElem.1 (firstS_nodup l n) j k hjl hk hjk
    exact this (h1.trans h2.symm)
  · cases hj
theorem At.new {l : List Int} {n : Int} {i k : Nat} (h : At l n i k) (hk : k < (firstS l n).length) (hi : i < l.length) (hin : l.getD i 0 ∉ l.take i) : At l n (i + 1) (k + 1) ∧ l.getD i 0 = (firstS l n).getD k 0 := by
  have hr := h.room hk
  have hF := pushF_new hr hin
  rw [← take_snocI l i hi] at hF
  have hlen : (firstS (l.take (i + 1)) n).length = k + 1 := by rw [hF, List.length_append, h.2]; rfl
  have hp := List.prefix_iff_eq_take.1 (firstS_prefix l n (i + 1))
  rw [hlen] at hp
  refine ⟨⟨hp, hlen⟩, ?_⟩
  have hpp := hp
  rw [hF, h.1, take_snocI _ k hk] at hpp
  exact List.singleton_inj.1 (List.append_cancel_left hpp)
theorem At.done {l : List Int} {n : Int} {k : Nat} (h : At l n l.length k) : k = (firstS l n).length := by
  have := h.2; rw [List.take_length] at this; exact this.symm
set_option maxRecDepth 100000 in
set_option maxHeartbeats 8000000 in
theorem QuorumFirst_law {w : World} {v : Value} {l : List Int} {n : Int} (h : IA w v l) (hwl : Wf l) (hn : I64 n) :
    Calls Try.prog 8 #[v, .int .i64 n] w fun e w' => e = .returned (.bool true) ∧ Below w.heap.size w w' := by
  have hw := works_any w
  have H := Lib.hid h
  have HW := Lib.hid hwl
  obtain ⟨a, c, rfl, _⟩ := h.slice
  clear h hwl
  by_cases hl : l.length ≤ 200
  · have hlt : ¬ (200 : Int) < (l.length : Int) := by omega
    go_enter Try.func8, Try.ntmps8
    go_wp2_with fail
    refine hw.mono ?_
    rintro e w1 ⟨rfl, hb⟩
    have HB := Lib.hid hb
    clear hb hw
    go_wp2_with fail
    refine (First_any n (H.out.below HB.out) HW.out (by omega)).mono ?_
    rintro e w2 ⟨v2, rfl, hi, hb⟩
    obtain ⟨a2, c2, rfl, _⟩ := hi.slice
    have I2 := Lib.hid hi
    have HB2 := Lib.hid (bw HB.out hb)
    clear hi hb
    have hfl := len_firstS_le l n
    have hwf : Wf (firstS l n) := HW.out.sub (fun _ hx => firstS_mem hx)
    go_wp2_with fail
    refine (Set_any (H.out.below HB2.out) HW.out (by omega)).mono ?_
    rintro e w3 ⟨v3, rfl, hi, hb⟩
    obtain ⟨a3, c3, rfl, _⟩ := hi.slice
    have I3 := Lib.hid (I2.out.below hb)
    have HB3 := Lib.hid (bw HB2.out hb)
    clear hi hb
    have hne : (((firstS l n).length : Int) != min (max n 0) ((setS l).length : Int)) = false := by rw [bne_eq_false_iff_eq]; exact len_firstS l n
    go_wp2_with fail
    refine (Set_any I3.out hwf (by omega)).mono ?_
    rintro e w4 ⟨v4, rfl, hi, hb⟩
    obtain ⟨a4, c4, rfl, _⟩ := hi.slice
    rw [len_setS_nodup (firstS_nodup l n)]
    have I4 := Lib.hid (I3.out.below hb)
    have HB4 := Lib.hid (bw HB3.out hb)
    have HI4 := Lib.hid (H.out.below HB4.out)
    clear hi hb
    have AT0 := Lib.hid (at_zero l n)
    have HALL := Lib.hid (fun i k (ht : At l n i k) => ht.le)
    have HOLD := Lib.hid (fun i k (ht : At l n i k) => ht.old)
    have HNEW := Lib.hid (fun i k (ht : At l n i k) => ht.new)
    have HDONE := Lib.hid (fun k (ht : At l n l.length k) => ht.done)
    have HWF := Lib.hid hwf
    clear hwf
    generalize hF : firstS l n = F at *
    clear hF
    go_wp2
    go_loopw [7, 8] (fun kv iv wr => ∃ i k : Nat, i ≤ l.length ∧ k ≤ F.length ∧ iv = .int .i64 i ∧ kv = .int .i64 k ∧ Hid (At l n i k) ∧ Hid (Below w4.heap.size w4 wr)) (fun _ iv _ => l.length - (intOf iv).toNat)
    case atStart => exact ⟨0, 0, by omega, by omega, rfl, rfl, AT0, Below.refl _ _⟩
    case round =>
      obtain ⟨i, k, hi, hk, rfl, rfl, HA, HBR⟩ := hrel
      by_cases hil : i < l.length
      · by_cases hkl : k < F.length
        · obtain ⟨b, off, rfl, hb, hc⟩ := (HI4.out.below HBR.out).get hil
          obtain ⟨bf, offf, rfl, hbf, hcf⟩ := (I4.out.below HBR.out).get hkl
          by_cases hin : l.getD i 0 ∈ l.take i
          · obtain ⟨h1, h2, h3⟩ := HOLD.out i k HA.out hkl hil hin
            have HA2 := Lib.hid h1
            have hxy : (l.getD i 0 == F.getD k 0) = false := by simpa using h2
            obtain ⟨a', c', s1, s1', i1⟩ := slice_to (I4.out.below HBR.out) k hk
            have HQ := Lib.hid (fun W (hb : Below wr.heap.size wr W) => Has_any (w := W) (l.getD i 0) (i1.below hb) (by rw [List.length_take]; omega))
            rw [h3] at HQ
            have HQ2 : Hid (∀ W, Below wr.heap.size wr W → Calls Try.prog 14 #[.slice a' k c', .int .i64 (l.getD i 0)] W fun e w' => e = .returned (.bool true) ∧ ∃ r, w' = W.drewN r) := fun W hb => (HQ.out W hb).mono (by rintro e w' ⟨rfl, rfl⟩; exact ⟨rfl, 0, rfl⟩)
            clear h1 h2 h3 hin i1 HQ
            generalize l.getD i 0 = x at *
            generalize F.getD k 0 = y at *
            go_wp2
            go_quiet (fail)
            obtain ⟨wq, hwq, hbq⟩ : ∃ wq, wq = wr.drewN nq ∧ Below wr.heap.size wr wq := ⟨_, rfl, below_drewN (Below.refl _ _) _⟩
            rw [← hwq]
            clear hwq
            have hcq : wq.cell? ⟨b, off + i, none⟩ = some (.int .i64 x) := (hbq.cell (p := ⟨b, off + i, none⟩) hb).trans hc
            have HQ3 := Lib.hid (fun q => HQ2.out (wq.drewN q) (below_drewN hbq q))
            have HBQ := Lib.hid (bw HBR.out hbq)
            clear hbq hc hcf
            go_wp2
            go_quiet ((go_at_call 14; exact Calls.quiet_of (HQ3.out _)))
            go_wp2
            go_roundw
            case rel => exact ⟨i + 1, k, by omega, by omega, by go_num, rfl, HA2, below_drewN HBQ.out _⟩
            case measure => simp [intOf]; omega
          · obtain ⟨h1, h2⟩ := HNEW.out i k HA.out hkl hil hin
            have HA2 := Lib.hid h1
            rw [h2] at hc
            clear h1 h2 hin
            generalize F.getD k 0 = y at *
            go_wp2
            go_quiet (fail)
            go_wp2
            go_roundw
            case rel => exact ⟨i + 1, k + 1, by omega, by omega, by go_num, by go_num, HA2, below_drewN HBR.out _⟩
            case measure => simp [intOf]; omega
        · obtain rfl : k = F.length := by omega
          go_wp2
          go_ret
          exact ⟨ret_bool (by first | rfl | simp), HB4.out.trans (HBR.out.mono HB4.out.size)⟩
      · obtain rfl : i = l.length := by omega
        obtain rfl : k = F.length := HDONE.out k HA.out
        go_wp2
        go_ret
        exact ⟨ret_bool (by first | rfl | simp), HB4.out.trans (HBR.out.mono HB4.out.size)⟩
  · have hlt : (200 : Int) < (l.length : Int) := by omega
    go_enter Try.func8, Try.ntmps8
    go_wp2_with fail
    refine hw.mono ?_
    rintro e w1 ⟨rfl, hb⟩
    have HB := Lib.hid hb
    clear hb hw
    go_wp2
    go_ret
    exact ⟨rfl, HB.out⟩
end Go.Proofs.Ytcgoggkaiiljmaa
