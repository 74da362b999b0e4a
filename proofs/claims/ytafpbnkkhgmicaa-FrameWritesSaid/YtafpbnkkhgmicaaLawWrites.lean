/- The law on writing: the walk. -/
import Derived.Test.YtafpbnkkhgmicaaGuard
namespace Go.Proofs.Ytafpbnkkhgmicaa
open Go.RowKit

set_option maxHeartbeats 8000000 in
set_option maxRecDepth 100000 in
theorem law_writes (v : Value) (l : List ByteArray) (lo : Int) (w : World) (hl : ListAt w v l.length (cellsOf strC l)) (hm : l.length ≤ 9223372036854775807) (hw : ∀ c ∈ l, c.size ≤ 9223372036854775807) (h0 : -9223372036854775808 ≤ lo) (h1 : lo ≤ 9223372036854775807) :
    Calls Try.prog 5 #[v, .int .i64 lo] w fun e w' => e = .returned (.bool true) ∧ Below w.heap.size w w' := by
  have HL := Lib.hid hl
  obtain ⟨_, aa, cap, rfl, _, _⟩ := hl
  go_enter Try.func5, Try.ntmps5
  go_wp2_with fail
  refine (works_any _).mono ?_
  rintro e w1 ⟨rfl, b1⟩
  have HL1 := Lib.hid (HL.out.below b1)
  clear HL
  go_wp2
  go_loop [6, 7] (fun n i => ∃ (k X : Nat), k ≤ l.length ∧ i = .int .i64 k ∧ n = .int .i64 X ∧ X ≤ 8201 ∧ Hid (X = guardN (l.take k))) (fun _ i => l.length - (intOf i).toNat)
  case atStart => exact ⟨0, 0, by omega, rfl, rfl, by omega, rfl⟩
  case round =>
    obtain ⟨k, X, hk, rfl, rfl, hX, hT⟩ := hrel
    by_cases hlt : k < l.length
    · obtain ⟨x, hx⟩ : ∃ x, l[k]? = some x := ⟨l[k], List.getElem?_eq_getElem hlt⟩
      obtain ⟨_, _, _, he, _, hc⟩ := HL1.out
      simp only [Value.slice.injEq] at he
      obtain ⟨rfl, _, rfl⟩ := he
      obtain ⟨ba, offa, rfl, hba, hca⟩ := hc.resolve_left (by omega)
      have c1 := ListAt.get hca hx
      have hxs := hw x (List.mem_of_getElem? hx)
      have HX := Lib.hid (guardN_snoc l k x hx)
      clear hca hx hc
      go_wp2
      go_round
      case rel => exact ⟨k + 1, min X 4096 + min x.size 4097 + 8, by omega, by go_num, congrArg _ (by omega), by omega, by show _ = _; rw [HX.out, ← hT]⟩
      case measure => simp [intOf]; omega
    · have hTl := Lib.hid (show l.take k = l from List.take_of_length_le (by omega))
      rw [hTl.out] at hT
      have hki : ¬ (k : Int) < (l.length : Int) := by omega
      by_cases hbig : 4096 < X
      · have hbi : (4096 : Int) < (X : Int) := by omega
        go_wp2
        go_ret
        exact ⟨rfl, b1⟩
      have hbi : ¬ (4096 : Int) < (X : Int) := by omega
      have hjs := guard_small l (by rw [← hT]; omega)
      have hje := joinB_each l
      have hsm : ∀ c ∈ l, c.size ≤ 65536 := fun c hc => by have := hje.2 c hc; omega
      have hll : l.length ≤ 512 := by omega
      have hli : ¬ (4096 : Int) < (l.length : Int) := by omega
      have hj1 := fun w' hl' => Join_any (.slice aa l.length cap) l w' hl' (by omega) hsm
      have hj2 := fun w' hl' => refJoin_any (.slice aa l.length cap) l w' hl' (by omega) hsm
      generalize mk (joinB l) = J at *
      obtain ⟨K, hK⟩ : ∃ K : Nat, (65536 : Int) + min (max lo (-2)) 2 = K := ⟨((65536 : Int) + min (max lo (-2)) 2).toNat, by omega⟩
      have hKb : 65534 ≤ K ∧ K ≤ 65538 := by omega
      have HK := Lib.hid hK
      clear hK hT hje
      obtain ⟨Z, ZC, hZ, hmk0, hcv0⟩ := zeros_any K (by omega)
      have HFL := Lib.hid (fun h => frame_zl Z h (by omega))
      have HFS := Lib.hid (fun h => frame_zs Z h)
      rw [hZ] at HFL HFS
      have hb1 := b1.size
      go_wp2_with fail
      refine (hj1 _ HL1.out).mono ?_
      rintro e w2 ⟨rfl, b2⟩
      have HL2 := Lib.hid (HL1.out.below b2)
      have b2' := bw b1 b2
      go_wp2_with fail
      refine (hj2 _ HL2.out).mono ?_
      rintro e w3 ⟨rfl, b3⟩
      have HL3 := Lib.hid (HL2.out.below b3)
      have b3' := bw b2' b3
      clear b1 b2 b2' b3 HL1 HL2 hj1 hj2
      have hs3 := b3'.size
      have hK := HK.out
      by_cases h0 : l.length = 0
      · have h0i : ¬ (0 : Int) < (l.length : Int) := by omega
        by_cases hKl : 65536 < K
        · have hK1 : (65536 : Int) < (K : Int) := by omega
          have hK2 : ¬ (K : Int) ≤ 65536 := by omega
          obtain ⟨Y, E, hf, hE, hY⟩ := HFL.out (by omega)
          have hEb : (E != 31) = false := by rw [hE]; rfl
          have hYb : Y.toList.isEmpty = true := emptyB hY
          have hYb2 : Y.toList = [] := emptyL hY
          clear hE hY
          have hmk := fun w' => hmk0 w'
          go_wp2_with fail
          refine (hf _).mono ?_
          rintro e w9 ⟨rfl, b9⟩
          have b9' := ((b3'.alloc b3'.size _)).trans (b9.mono (by simp; omega))
          go_wp2
          go_ret
          exact ⟨bool_true (by first | rfl | simp), b9'⟩
        · have hK1 : ¬ (65536 : Int) < (K : Int) := by omega
          have hK2 : (K : Int) ≤ 65536 := by omega
          obtain ⟨Y, E, hf, hE, hY⟩ := HFS.out (by omega)
          have hEb : (E != 0) = false := by rw [hE]; rfl
          have hYb : ((Y.size : Int) != (K : Int) + 8) = false := by rw [hY]; simp
          clear hE hY
          have hmk := fun w' => hmk0 w'
          go_wp2_with fail
          refine (hf _).mono ?_
          rintro e w9 ⟨rfl, b9⟩
          have b9' := ((b3'.alloc b3'.size _)).trans (b9.mono (by simp; omega))
          go_wp2
          go_ret
          exact ⟨bool_true (by first | rfl | simp), b9'⟩
      · have h0i : (0 : Int) < (l.length : Int) := by omega
        obtain ⟨x, hx⟩ : ∃ x, l[0]? = some x := ⟨l[0], List.getElem?_eq_getElem (by omega)⟩
        obtain ⟨_, _, _, he, _, hc⟩ := HL3.out
        simp only [Value.slice.injEq] at he
        obtain ⟨rfl, _, rfl⟩ := he
        obtain ⟨ba, offa, rfl, hba, hca⟩ := hc.resolve_left (by omega)
        have c1 := ListAt.get hca hx
        rw [Nat.add_zero] at c1
        have hxs := hsm x (List.mem_of_getElem? hx)
        have hf1 := fun w' => Frame_any x w' hxs
        have hf2 := fun w' => refFrame_any x w' hxs
        generalize mk (frameL (bs x)) = FX at *
        clear hca hx hc
        go_wp2_with fail
        refine (hf1 _).mono ?_
        rintro e w4 ⟨rfl, b4⟩
        have c2 := (b4.cell (p := ⟨ba, offa, none⟩) hba).trans c1
        have b4' := bw b3' b4
        clear c1
        go_wp2_with fail
        refine (hf2 _).mono ?_
        rintro e w5 ⟨rfl, b5⟩
        have b5' := bw b4' b5
        have hs5 := b5'.size
        clear c2 b3' b4 b4' b5 hf1 hf2
        by_cases hKl : 65536 < K
        · have hK1 : (65536 : Int) < (K : Int) := by omega
          have hK2 : ¬ (K : Int) ≤ 65536 := by omega
          obtain ⟨Y, E, hf, hE, hY⟩ := HFL.out (by omega)
          have hEb : (E != 31) = false := by rw [hE]; rfl
          have hYb : Y.toList.isEmpty = true := emptyB hY
          have hYb2 : Y.toList = [] := emptyL hY
          clear hE hY
          have hmk := fun w' => hmk0 w'
          go_wp2_with fail
          refine (hf _).mono ?_
          rintro e w9 ⟨rfl, b9⟩
          have b9' := ((b5'.alloc b5'.size _)).trans (b9.mono (by simp; omega))
          go_wp2
          go_ret
          exact ⟨bool_true (by first | rfl | simp), b9'⟩
        · have hK1 : ¬ (65536 : Int) < (K : Int) := by omega
          have hK2 : (K : Int) ≤ 65536 := by omega
          obtain ⟨Y, E, hf, hE, hY⟩ := HFS.out (by omega)
          have hEb : (E != 0) = false := by rw [hE]; rfl
          have hYb : ((Y.size : Int) != (K : Int) + 8) = false := by rw [hY]; simp
          clear hE hY
          have hmk := fun w' => hmk0 w'
          go_wp2_with fail
          refine (hf _).mono ?_
          rintro e w9 ⟨rfl, b9⟩
          have b9' := ((b5'.alloc b5'.size _)).trans (b9.mono (by simp; omega))
          go_wp2
          go_ret
          exact ⟨bool_true (by first | rfl | simp), b9'⟩
end Go.Proofs.Ytafpbnkkhgmicaa
