/- The law on chains: the walk. -/
import Derived.Test.YtafpbnkkhgmicaaSlice
namespace Go.Proofs.Ytafpbnkkhgmicaa
open Go.RowKit

set_option maxHeartbeats 8000000 in
set_option maxRecDepth 100000 in
theorem law_chain (v : Value) (l : List ByteArray) (b : ByteArray) (w : World) (hl : ListAt w v l.length (cellsOf strC l)) (hm : l.length ≤ 9223372036854775807) (hw : ∀ c ∈ l, c.size ≤ 9223372036854775807) (hb : b.size ≤ 9223372036854775807) :
    Calls Try.prog 8 #[v, .string b] w fun e w' => e = .returned (.bool true) ∧ Below w.heap.size w w' := by
  have HL := Lib.hid hl
  obtain ⟨_, aa, cap, rfl, _, _⟩ := hl
  go_enter Try.func8, Try.ntmps8
  go_wp2_with fail
  refine (works_any _).mono ?_
  rintro e w1 ⟨rfl, b1⟩
  have HL1 := Lib.hid (HL.out.below b1)
  clear HL
  go_wp2
  go_loop [6, 7] (fun n i => ∃ (k X : Nat), k ≤ l.length ∧ i = .int .i64 k ∧ n = .int .i64 X ∧ X ≤ 8201 ∧ Hid (X = guardN (l.take k))) (fun _ i => l.length - (intOf i).toNat)
  case atStart => exact ⟨0, 0, by omega, rfl, rfl, by omega, rfl⟩
  case round =>
    obtain ⟨k, X, hk, rfl, rfl, hX, hT⟩ := hrel
    by_cases hlt : k < l.length
    · obtain ⟨x, hx⟩ : ∃ x, l[k]? = some x := ⟨l[k], List.getElem?_eq_getElem hlt⟩
      obtain ⟨_, _, _, he, _, hc⟩ := HL1.out
      simp only [Value.slice.injEq] at he
      obtain ⟨rfl, _, rfl⟩ := he
      obtain ⟨ba, offa, rfl, hba, hca⟩ := hc.resolve_left (by omega)
      have c1 := ListAt.get hca hx
      have hxs := hw x (List.mem_of_getElem? hx)
      have HX := Lib.hid (guardN_snoc l k x hx)
      clear hca hx hc
      go_wp2
      go_round
      case rel => exact ⟨k + 1, min X 4096 + min x.size 4097 + 8, by omega, by go_num, congrArg _ (by omega), by omega, by show _ = _; rw [HX.out, ← hT]⟩
      case measure => simp [intOf]; omega
    · have hTl := Lib.hid (show l.take k = l from List.take_of_length_le (by omega))
      rw [hTl.out] at hT
      have hki : ¬ (k : Int) < (l.length : Int) := by omega
      by_cases hbig : 4096 < X
      · have hbi : (4096 : Int) < (X : Int) := by omega
        go_wp2
        go_ret
        exact ⟨rfl, b1⟩
      have hbi : ¬ (4096 : Int) < (X : Int) := by omega
      have hjs := guard_small l (by rw [← hT]; omega)
      have hje := joinB_each l
      have hsm : ∀ c ∈ l, c.size ≤ 65536 := fun c hc => by have := hje.2 c hc; omega
      have hll : l.length ≤ 512 := by omega
      have hli : ¬ (4096 : Int) < (l.length : Int) := by omega
      by_cases hbb : 4096 < b.size
      · have hbbi : (4096 : Int) < (b.size : Int) := by omega
        go_wp2
        go_ret
        exact ⟨rfl, b1⟩
      have hbbi : ¬ (4096 : Int) < (b.size : Int) := by omega
      have hj1 := fun w' hl' => Join_any (.slice aa l.length cap) l w' hl' (by omega) hsm
      clear hT
      have hsc := scan_chain l (bs b) hsm
      have hYl := scan_len (bs b)
      have hNl := scanN_le (bs b)
      rw [bs_size] at hYl hNl
      have hJs : (mk (joinB l)).size = (joinB l).length := mk_size _
      have hJz : (mk (joinB l)).size + b.size ≤ 9223372036854775807 := by omega
      have hs1 := fun w' => Scan_any (mk (joinB l) ++ b) w' (by rw [app_size]; omega)
      rw [bs_append, bs_mk, hsc.1, hsc.2, List.length_append, ← hJs] at hs1
      have hs2 := fun w' => Scan_any b w' (by omega)
      rw [← hJs] at hjs
      clear hsc hJs
      generalize mk (joinB l) = J at *
      generalize hY : scanT (bs b) = Y at *
      generalize scanN (bs b) = N at *
      clear hY
      go_wp2_with fail
      refine (hj1 _ HL1.out).mono ?_
      rintro e w2 ⟨rfl, b2⟩
      have b2' := bw b1 b2
      have HL2 := Lib.hid (HL1.out.below b2)
      go_wp2_with fail
      refine (hs1 _).mono ?_
      rintro e w3 ⟨v3, rfl, hx3, b3⟩
      have hx3 := hx3.at_
      have b3' := bw b2' b3
      have HL3 := Lib.hid (HL2.out.below b3)
      obtain ⟨_, xa, xc, rfl, _, _⟩ := id hx3
      have HX3 := Lib.hid hx3
      go_wp2_with fail
      refine (hs2 _).mono ?_
      rintro e w4 ⟨v4, rfl, hy4, b4⟩
      have hy4 := hy4.at_
      have b4' := bw b3' b4
      have HL4 := Lib.hid (HL3.out.below b4)
      have hx4 := HX3.out.below b4
      obtain ⟨V1, hv1, hv1b, hV1⟩ := slice_to hx4 rfl
      obtain ⟨V2, hv2, hv2b, hV2⟩ := slice_from hx4 rfl rfl
      have HV1 := Lib.hid hV1
      have HV2 := Lib.hid hV2
      have HY := Lib.hid hy4
      obtain ⟨_, ya, yc, rfl, _, _⟩ := id hy4
      clear hx3 HX3 hx4 hV1 hV2 hy4 b1 b2 b2' b3 b3' b4 HL1 HL2 HL3 hj1 hs1 hs2
      go_wp2_with fail
      refine (same_n _ _ l _ _ HV1.out HL4.out rfl (by omega)).mono ?_
      rintro e w5 ⟨rfl, b5⟩
      have b5' := bw b4' b5
      have HV2' := Lib.hid (HV2.out.below b5)
      have HY' := Lib.hid (HY.out.below b5)
      go_wp2_with fail
      refine (same_n _ _ Y _ _ HV2'.out HY'.out rfl (by omega)).mono ?_
      rintro e w6 ⟨rfl, b6⟩
      have b6' := bw b5' b6
      go_wp2
      go_ret
      exact ⟨rfl, b6'⟩
end Go.Proofs.Ytafpbnkkhgmicaa
