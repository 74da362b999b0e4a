/- The law on reading back: the walk. -/
import Derived.Test.YtafpbnkkhgmicaaSlice
namespace Go.Proofs.Ytafpbnkkhgmicaa
open Go.RowKit

set_option maxHeartbeats 8000000 in
set_option maxRecDepth 100000 in
theorem law_back (v : Value) (l : List ByteArray) (cut : Int) (b : ByteArray) (w : World) (hl : ListAt w v l.length (cellsOf strC l)) (hm : l.length ≤ 9223372036854775807) (hw : ∀ c ∈ l, c.size ≤ 9223372036854775807) (hc0 : -9223372036854775808 ≤ cut) (hc1 : cut ≤ 9223372036854775807) (hb : b.size ≤ 9223372036854775807) :
    Calls Try.prog 6 #[v, .int .i64 cut, .string b] w fun e w' => e = .returned (.bool true) ∧ Below w.heap.size w w' := by
  have HL := Lib.hid hl
  obtain ⟨_, aa, cap, rfl, _, _⟩ := hl
  go_enter Try.func6, Try.ntmps6
  go_wp2_with fail
  refine (works_any _).mono ?_
  rintro e w1 ⟨rfl, b1⟩
  have HL1 := Lib.hid (HL.out.below b1)
  clear HL
  go_wp2
  go_loop [8, 9] (fun n i => ∃ (k X : Nat), k ≤ l.length ∧ i = .int .i64 k ∧ n = .int .i64 X ∧ X ≤ 8201 ∧ Hid (X = guardN (l.take k))) (fun _ i => l.length - (intOf i).toNat)
  case atStart => exact ⟨0, 0, by omega, rfl, rfl, by omega, rfl⟩
  case round =>
    obtain ⟨k, X, hk, rfl, rfl, hX, hT⟩ := hrel
    by_cases hlt : k < l.length
    · obtain ⟨x, hx⟩ : ∃ x, l[k]? = some x := ⟨l[k], List.getElem?_eq_getElem hlt⟩
      obtain ⟨_, _, _, he, _, hc⟩ := HL1.out
      simp only [Value.slice.injEq] at he
      obtain ⟨rfl, _, rfl⟩ := he
      obtain ⟨ba, offa, rfl, hba, hca⟩ := hc.resolve_left (by omega)
      have c1 := ListAt.get hca hx
      have hxs := hw x (List.mem_of_getElem? hx)
      have HX := Lib.hid (guardN_snoc l k x hx)
      clear hca hx hc
      go_wp2
      go_round
      case rel => exact ⟨k + 1, min X 4096 + min x.size 4097 + 8, by omega, by go_num, congrArg _ (by omega), by omega, by show _ = _; rw [HX.out, ← hT]⟩
      case measure => simp [intOf]; omega
    · have hTl := Lib.hid (show l.take k = l from List.take_of_length_le (by omega))
      rw [hTl.out] at hT
      have hki : ¬ (k : Int) < (l.length : Int) := by omega
      by_cases hbig : 4096 < X
      · have hbi : (4096 : Int) < (X : Int) := by omega
        go_wp2
        go_ret
        exact ⟨rfl, b1⟩
      have hbi : ¬ (4096 : Int) < (X : Int) := by omega
      have hjs := guard_small l (by rw [← hT]; omega)
      have hje := joinB_each l
      have hsm : ∀ c ∈ l, c.size ≤ 65536 := fun c hc => by have := hje.2 c hc; omega
      have hll : l.length ≤ 512 := by omega
      have hli : ¬ (4096 : Int) < (l.length : Int) := by omega
      by_cases hbb : 4096 < b.size
      · have hbbi : (4096 : Int) < (b.size : Int) := by omega
        go_wp2
        go_ret
        exact ⟨rfl, b1⟩
      have hbbi : ¬ (4096 : Int) < (b.size : Int) := by omega
      have hj1 := fun w' hl' => Join_any (.slice aa l.length cap) l w' hl' (by omega) hsm
      clear hT
      have hsa := scan_all l hsm
      have hsc := scan_chain l (bs b) hsm
      have hYl := scan_len (bs b)
      rw [bs_size] at hYl
      have hJs : (mk (joinB l)).size = (joinB l).length := mk_size _
      have hJz : (mk (joinB l)).size + b.size ≤ 9223372036854775807 := by omega
      obtain ⟨K, hK⟩ : ∃ K : Nat, min (max cut 0) ((mk (joinB l)).size : Int) = K := ⟨(min (max cut 0) ((mk (joinB l)).size : Int)).toNat, by omega⟩
      have hKJ : K ≤ (mk (joinB l)).size := by omega
      obtain ⟨m, hml, hst, hsn, hAK, hJt, hend⟩ := scan_some l K hsm
      have hs1 := fun w' => Scan_any (mk (joinB l)) w' (by omega)
      rw [bs_mk, hsa.1, hsa.2, ← hJs] at hs1
      have hs2 := fun w' => Scan_any ((mk (joinB l)).extract 0 K) w' (by rw [ByteArray.size_extract]; omega)
      rw [bs_extract, bs_mk, List.drop_zero, Nat.sub_zero, hst, hsn, List.length_take, Nat.min_eq_left hml] at hs2
      have hj2 := fun w' va hl' => Join_any va (l.take m) w' hl' (by rw [List.length_take]; omega) (fun c hc => hsm c (List.mem_of_mem_take hc))
      rw [List.length_take, Nat.min_eq_left hml] at hj2
      have hs3 := fun w' => Scan_any (mk (joinB l) ++ b) w' (by rw [app_size]; omega)
      rw [bs_append, bs_mk, hsc.1, hsc.2, List.length_append] at hs3
      have hT : (mk (joinB (l.take m))).size = (joinB (l.take m)).length := mk_size _
      have hJT : (mk (joinB l)).extract 0 (joinB (l.take m)).length = mk (joinB (l.take m)) := ba_ext (by rw [bs_extract, bs_mk, bs_mk, List.drop_zero, Nat.sub_zero, hJt])
      rw [← hT] at hJT hs2 hAK hend
      have hEq := eqB hJT
      have hTK : ((mk (joinB (l.take m))).size : Int) ≤ (K : Int) := by omega
      have hTJ : ((mk (joinB (l.take m))).size : Int) ≤ ((mk (joinB l)).size : Int) := by omega
      have hTb : (mk (joinB (l.take m))).size ≤ 4096 := by omega
      have hKJi : (K : Int) ≤ ((mk (joinB l)).size : Int) := by omega
      clear hsa hsc hJs hst hsn hJt hT hJT
      generalize mk (joinB l) = J at *
      generalize mk (joinB (l.take m)) = T at *
      generalize hY : scanT (bs b) = Y at *
      have HK := Lib.hid hK
      have HEND := Lib.hid hend
      clear hY hK hend
      go_wp2_with fail
      refine (hj1 _ HL1.out).mono ?_
      rintro e w2 ⟨rfl, b2⟩
      have b2' := bw b1 b2
      have HL2 := Lib.hid (HL1.out.below b2)
      go_wp2_with fail
      refine (hs1 _).mono ?_
      rintro e w3 ⟨v3, rfl, hx3, b3⟩
      have hx3 := hx3.at_
      have b3' := bw b2' b3
      have HL3 := Lib.hid (HL2.out.below b3)
      obtain ⟨_, xa, xc, rfl, _, _⟩ := id hx3
      have HX3 := Lib.hid hx3
      go_wp2_with fail
      refine (same_n _ _ l _ _ HX3.out HL3.out rfl (by omega)).mono ?_
      rintro e w4 ⟨rfl, b4⟩
      have b4' := bw b3' b4
      have HL4 := Lib.hid (HL3.out.below b4)
      have hK := HK.out
      clear hx3 HX3 b1 b2 b2' b3 b3' b4 HL1 HL2 HL3 hj1 hs1
      go_wp2_with fail
      refine (hs2 _).mono ?_
      rintro e w5 ⟨v5, rfl, hx5, b5⟩
      have hx5 := hx5.at_
      have b5' := bw b4' b5
      have HL5 := Lib.hid (HL4.out.below b5)
      obtain ⟨_, ya, yc, rfl, _, _⟩ := id hx5
      have HX5 := Lib.hid hx5
      obtain ⟨V1, hv1, hv1b, hV1⟩ := slice_first m HL5.out hml
      have HV1 := Lib.hid hV1
      clear hK hx5 hV1 b4' b5 HL4 hs2
      go_wp2_with fail
      refine (same_n _ _ (l.take m) m _ HX5.out HV1.out (by rw [List.length_take]; omega) (by omega)).mono ?_
      rintro e w6 ⟨rfl, b6⟩
      have b6' := bw b5' b6
      have HL6 := Lib.hid (HL5.out.below b6)
      have HX6 := Lib.hid (HX5.out.below b6)
      clear hv1 hv1b HX5 HV1 HL5 b5' b6
      go_wp2_with fail
      refine (hj2 _ _ HX6.out).mono ?_
      rintro e w7 ⟨rfl, b7⟩
      have b7' := bw b6' b7
      have HL7 := Lib.hid (HL6.out.below b7)
      clear HX6 HL6 b6' b7 hj2
      go_wp2_with fail
      refine (hs3 _).mono ?_
      rintro e w8 ⟨v8, rfl, hx8, b8⟩
      have hx8 := hx8.at_
      have b8' := bw b7' b8
      have HL8 := Lib.hid (HL7.out.below b8)
      obtain ⟨_, za, zc, rfl, _, _⟩ := id hx8
      obtain ⟨V2, hv2, hv2b, hV2⟩ := slice_to hx8 rfl
      have HV2 := Lib.hid hV2
      clear hx8 hV2 HL7 b7' b8 hs3
      by_cases hme : m = l.length
      · have hmi : ((m : Int) == (l.length : Int)) = true := by simp [hme]
        have hmd : decide (m = l.length) = true := by simp [hme]
        clear hme
        go_wp2_with fail
        refine (same_n _ _ l l.length _ HV2.out HL8.out rfl (by omega)).mono ?_
        rintro e w9 ⟨rfl, b9⟩
        have b9' := bw b8' b9
        go_wp2
        go_ret
        exact ⟨bool_true (by first | rfl | simp), b9'⟩
      · have hmi : ((m : Int) == (l.length : Int)) = false := by simp; omega
        have hmd : decide (m = l.length) = false := by simp [hme]
        obtain ⟨x, hx, hKx⟩ := HEND.out.resolve_left hme
        have hgt : (K : Int) < (T.size : Int) + 8 + (x.size : Int) := by omega
        have hmlt : (m : Int) < (l.length : Int) := by omega
        obtain ⟨_, _, _, he, _, hc⟩ := HL8.out
        simp only [Value.slice.injEq] at he
        obtain ⟨rfl, _, rfl⟩ := he
        obtain ⟨ba, offa, rfl, hba, hca⟩ := hc.resolve_left (by omega)
        have c1 := ListAt.get hca hx
        have hxs := hsm x (List.mem_of_getElem? hx)
        clear hme hx hc hca
        go_wp2_with fail
        refine (same_n _ _ l l.length _ HV2.out HL8.out rfl (by omega)).mono ?_
        rintro e w9 ⟨rfl, b9⟩
        have b9' := bw b8' b9
        go_wp2
        go_ret
        exact ⟨bool_true (by first | rfl | simp), b9'⟩
end Go.Proofs.Ytafpbnkkhgmicaa
