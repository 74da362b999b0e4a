/- The law QuorumMeets: two majorities meet. -/
import Derived.Test.YtcgoggkaiiljmaaLawSets
import Derived.Deep.DeepCutAuto
namespace Go.Proofs.Ytcgoggkaiiljmaa
open Go.RowKit Go.Maps

def natsI (k : Nat) : List Int := (List.range k).map (fun (i : Nat) => (i : Int))
theorem natsI_succ (k : Nat) : natsI (k + 1) = natsI k ++ [(k : Int)] := by unfold natsI; rw [List.range_succ, List.map_append]; rfl
theorem len_natsI (k : Nat) : (natsI k).length = k := by simp [natsI]
theorem mem_natsI {k : Nat} {x : Int} (h : x ∈ natsI k) : 0 ≤ x ∧ x < (k : Int) := by
  obtain ⟨i, hi, rfl⟩ := List.mem_map.1 h
  rw [List.mem_range] at hi
  omega
theorem wf_natsI {k : Nat} (h : k ≤ 1048576) : Wf (natsI k) := fun x hx => by have := mem_natsI hx; exact ⟨by omega, by omega⟩
theorem wf_inter {a b : List Int} (h : Wf a) : Wf (interS a b) := h.sub (fun _ hx => (mem_interS.1 hx).1)
theorem meets_yes {n : Nat} {a b : List Int} (h1 : majS n ≤ (interS a (natsI n)).length) (h2 : majS n ≤ (interS b (natsI n)).length) : meetS (interS a (natsI n)) (interS b (natsI n)) = true :=
  meetS_iff.2 (meet (rise_setS _).nodup (rise_setS _).nodup (fun _ hz => mem_natsI (mem_interS.1 hz).2) (fun _ hz => mem_natsI (mem_interS.1 hz).2) h1 h2)
set_option maxRecDepth 100000 in
set_option maxHeartbeats 8000000 in
theorem QuorumMeets_law {w : World} {va vb : Value} {a b : List Int} {n : Int} (ha : IA w va a) (hwa : Wf a) (hb : IA w vb b) (hwb : Wf b) (hn : I64 n) :
    Calls Try.prog 6 #[.int .i64 n, va, vb] w fun e w' => e = .returned (.bool true) ∧ Below w.heap.size w w' := by
  have hw := works_any w
  have HA := Lib.hid ha
  have HB := Lib.hid hb
  have HWA := Lib.hid hwa
  have HWB := Lib.hid hwb
  obtain ⟨aa, ca, rfl, _⟩ := ha.slice
  obtain ⟨ab, cb, rfl, _⟩ := hb.slice
  clear ha hb hwa hwb
  by_cases hg : 0 ≤ n ∧ n ≤ 200 ∧ a.length ≤ 200 ∧ b.length ≤ 200
  · obtain ⟨g1, g2, g3, g4⟩ := hg
    obtain ⟨N, rfl⟩ : ∃ N : Nat, n = N := ⟨n.toNat, by omega⟩
    have e2 : decide ((200 : Int) < (N : Int)) = false := decide_eq_false (by omega)
    have e3 : decide ((200 : Int) < (a.length : Int)) = false := decide_eq_false (by omega)
    have e4 : decide ((200 : Int) < (b.length : Int)) = false := decide_eq_false (by omega)
    have e1 : decide ((N : Int) < 0) = false := decide_eq_false (by omega)
    have hmj := fun w => Majority_any w (N : Int) hn
    rw [Int.toNat_natCast] at hmj
    have HMJ := Lib.hid hmj
    clear hmj hn
    go_enter Try.func6, Try.ntmps6
    go_wp2_with fail
    refine hw.mono ?_
    rintro e w1 ⟨rfl, hb⟩
    have B1 := Lib.hid hb
    clear hb hw
    go_wp2
    go_loopw [8, 9] (fun s i wr => ∃ k : Nat, k ≤ N ∧ i = .int .i64 k ∧ Hid (wr.ownsRow w.heap.size 3 1 s (natsI k).length (intsC (natsI k))) ∧ Hid (Below w.heap.size w wr)) (fun _ i _ => N - (intOf i).toNat)
    case atStart => exact ⟨0, by omega, rfl, own_nil _ _, B1⟩
    case round =>
      obtain ⟨k, hk, rfl, HO, HB0⟩ := hrel
      have hs := HB0.out.size
      by_cases hlt : k < N
      · have hkn := len_natsI k
        have hki : (k : Int) < (N : Int) := by omega
        have hkl : (natsI k).length ≤ 1048576 := by omega
        clear hkn
        go_wp2_with (at_builtin; go_loud (refine wpList_append_one rfl _ _ rfl w.heap.size u8 (natsI k) (k : Int) rfl HO.out rfl hkl hs ?_))
        intro v' w3 ho hg
        have HO4 : Hid (w3.ownsRow w.heap.size 3 1 v' (natsI (k + 1)).length (intsC (natsI (k + 1)))) := by show World.ownsRow _ _ _ _ _ _ _; rw [natsI_succ, List.length_append]; exact ho
        have HB3 : Hid (Below w.heap.size w w3) := HB0.out.grown hg (by omega) (fun k hk => (HO.out.lt k hk).1)
        clear ho hg
        go_wp2
        go_roundw
        case rel => exact ⟨k + 1, by omega, by go_num, HO4, HB3⟩
        case measure => simp [intOf]; omega
      · obtain rfl : k = N := by omega
        have IAL := Lib.hid (IA.of_own HO.out)
        have hkn := len_natsI k
        have HWN := Lib.hid (wf_natsI (k := k) (by omega))
        have hkl : (natsI k).length ≤ 1048576 := by omega
        clear hkn
        go_wp2_with fail
        refine (Inter_any (HA.out.below HB0.out) HWA.out (by omega) IAL.out HWN.out (by omega)).mono ?_
        rintro e w3 ⟨v3, rfl, hi, hb⟩
        have I3 := Lib.hid hi
        have IAL3 := Lib.hid (IAL.out.below hb)
        have B3 := Lib.hid (bw HB0.out hb)
        clear hi hb
        go_wp2_with fail
        refine (Inter_any (HB.out.below B3.out) HWB.out (by omega) IAL3.out HWN.out (by omega)).mono ?_
        rintro e w4 ⟨v4, rfl, hi, hb⟩
        have I4 := Lib.hid hi
        have I3' := Lib.hid (I3.out.below hb)
        have B4 := Lib.hid (bw B3.out hb)
        clear hi hb
        go_wp2_with fail
        refine (HMJ.out w4).mono ?_
        rintro e w5 ⟨rfl, rfl⟩
        obtain ⟨a3, c3, rfl, _⟩ := I3.out.slice
        obtain ⟨a4, c4, rfl, _⟩ := I4.out.slice
        have hx := len_interS a (natsI k)
        have hy := len_interS b (natsI k)
        have hme := Meets_any I3'.out (wf_inter HWA.out) (by omega) I4.out (wf_inter HWB.out) (by omega)
        have HY := Lib.hid (@meets_yes k a b)
        generalize meetS (interS a (natsI k)) (interS b (natsI k)) = r at *
        clear I3 I4 I3'
        generalize hp : (interS a (natsI k)).length = p at *
        generalize hq : (interS b (natsI k)).length = q at *
        clear hp hq
        generalize majS k = m at *
        by_cases c1 : p < m
        · go_wp2
          go_ret
          exact ⟨ret_bool (by first | rfl | simp), B4.out⟩
        · by_cases c2 : q < m
          · go_wp2
            go_ret
            exact ⟨ret_bool (by first | rfl | simp), B4.out⟩
          · obtain rfl : r = true := HY.out (by omega) (by omega)
            go_wp2_with fail
            refine hme.mono ?_
            rintro e w6 ⟨rfl, hb⟩
            have B6 := Lib.hid (bw B4.out hb)
            clear hb
            go_wp2
            go_ret
            exact ⟨ret_bool (by first | rfl | simp), B6.out⟩
  · go_enter Try.func6, Try.ntmps6
    go_wp2_with fail
    refine hw.mono ?_
    rintro e w1 ⟨rfl, hb⟩
    have B1 := Lib.hid hb
    clear hb hw
    have HG := Lib.hid hg
    clear hg
    go_upto_region 4 with fail
    go_cut [31] (fun t wx => t = .bool true ∧ wx = w1)
    case first =>
      have hg := HG.out
      by_cases c1 : n < 0
      · go_wp2
        go_meet
        exact ⟨rfl, rfl⟩
      · by_cases c2 : 200 < n
        · go_wp2
          go_meet
          exact ⟨rfl, rfl⟩
        · by_cases c3 : 200 < (a.length : Int)
          · go_wp2
            go_meet
            exact ⟨rfl, rfl⟩
          · have c4 : 200 < (b.length : Int) := by omega
            go_wp2
            go_meet
            exact ⟨rfl, rfl⟩
    obtain ⟨rfl, rfl⟩ := hcut
    go_wp2
    go_ret
    exact ⟨rfl, B1.out⟩
end Go.Proofs.Ytcgoggkaiiljmaa
