/- The table: halve, makeTable. -/
import Derived.Test.YtnffjoflkeagfaaFKit
namespace Go.Proofs.Ytnffjoflkeagfaa.Fr
open Go.RowKit

set_option maxHeartbeats 1000000 in
theorem halve_any (c : Nat) (w : World) (hc : c < 4294967296) :
    Calls Try.prog 89 #[.int .u32 c] w fun e w' => e = .returned (.int .u32 (halve c : Nat)) ∧ w = w' := by
  have ha := u32_and_nat c 1 hc (by decide)
  rw [show ((1 : Nat) : Int) = 1 from rfl, nat_mask1] at ha
  by_cases h : c % 2 = 1
  · have hb : (bits .and .u32 (c : Int) 1 == 1) = true := by rw [ha]; simp; omega
    clear ha
    go_enter Try.func89, Try.ntmps89
    go_wp2
    go_ret
    refine ⟨ret_int ?_, rfl⟩
    unfold halve
    have := u32_xor_nat (c / 2) 2197175160 (by omega) (by decide)
    rw [if_pos h, ← this]
    first | rfl | (congr 1; done) | (congr 1; omega)
  · have hb : (bits .and .u32 (c : Int) 1 == 1) = false := by rw [ha]; simp; omega
    clear ha
    go_enter Try.func89, Try.ntmps89
    go_wp2
    go_ret
    refine ⟨ret_int ?_, rfl⟩
    unfold halve
    rw [if_neg h]; omega

/-- the table's cells, k of them filled -/
def tabC (k : Nat) : Array Value := ((List.range 256).map fun i => Value.int .u32 ((if i < k then h8 i else 0 : Nat) : Int)).toArray
theorem tabC_size (k : Nat) : (tabC k).size = 256 := by unfold tabC; simp
theorem tabC_at (k i : Nat) (hi : i < 256) : (tabC k)[i]? = some (.int .u32 ((if i < k then h8 i else 0 : Nat) : Int)) := by
  unfold tabC
  rw [List.getElem?_toArray, List.getElem?_map, List.getElem?_range hi]; rfl
theorem tabC_zero : tabC 0 = Array.replicate 256 (.int .u32 0) := by
  apply Array.ext_getElem?
  intro i
  by_cases hi : i < 256
  · rw [tabC_at 0 i hi, Array.getElem?_replicate, if_pos hi]; rfl
  · rw [Array.getElem?_eq_none (by rw [tabC_size]; omega), Array.getElem?_eq_none (by simp; omega)]
theorem tabC_set (k : Nat) (hk : k < 256) : (tabC k).setIfInBounds k (.int .u32 (h8 k : Nat)) = tabC (k + 1) := by
  apply Array.ext_getElem?
  intro i
  by_cases hi : i < 256
  · rw [Array.getElem?_setIfInBounds, tabC_at _ i hi, tabC_at _ i hi]
    by_cases h : k = i
    · subst h
      rw [if_pos rfl, if_pos (by rw [tabC_size]; exact hk), if_pos (by omega)]
    · rw [if_neg h]
      by_cases h2 : i < k
      · rw [if_pos h2, if_pos (by omega)]
      · rw [if_neg h2, if_neg (by omega)]
  · rw [Array.getElem?_eq_none (by simp [tabC_size]; omega), Array.getElem?_eq_none (by rw [tabC_size]; omega)]
theorem tabC_one (k : Nat) : (tabC k).all (·.oneCell') = true := by
  rw [Array.all_eq_true_iff_forall_mem]
  intro v hv
  unfold tabC at hv
  simp only [List.mem_toArray, List.mem_map] at hv
  obtain ⟨i, _, rfl⟩ := hv
  rfl
theorem infoTab : (Try.prog.info? 102).map (fun i => (i.zero, i.size)) = some (some (.agg (Array.replicate 256 (.int .u32 0))), 256) := by kernel_rfl
/-- the table lies in this block -/
def Tab (p : Nat) (w : World) : Prop := p < w.heap.size ∧ ∀ i, i < 256 → w.cell? ⟨p, i, none⟩ = some (.int .u32 (h8 i : Nat))
theorem Tab.below {p : Nat} {w w' : World} {B : Nat} (h : Tab p w) (hb : Below B w w') (hp : p < B) : Tab p w' :=
  ⟨Nat.lt_of_lt_of_le h.1 hb.size, fun i hi => (hb.cell (p := ⟨p, i, none⟩) hp).trans (h.2 i hi)⟩
theorem Tab.new (w : World) : Tab w.heap.size (w.alloc (.cells (tabC 256) 102)) := by
  refine ⟨by simp, fun i hi => ?_⟩
  rw [World.cell?_alloc_new, tabC_at 256 i hi, if_pos hi]

theorem below_setRow {B : Nat} (w : World) (g : Nat) (cs : Array Value) (h : B ≤ g) : Below B w (w.setRow g cs) :=
  ⟨rfl, rfl, rfl, by simp, fun k hk => setRow_other w g k cs (by omega)⟩
set_option maxHeartbeats 4000000 in
set_option maxRecDepth 1000000 in
theorem makeTable_any (w : World) :
    Calls Try.prog 76 #[] w fun e w' => e = .returned (.agg (tabC 256)) ∧ Below w.heap.size w w' := by
  obtain ⟨hz, hi⟩ := zero_of_info infoTab
  rw [← tabC_zero] at hz
  go_enter Try.func76, Try.ntmps76
  go_wp2
  go_loopw [4] (fun i wr => ∃ k : Nat, k ≤ 256 ∧ i = .int .u32 k ∧ wr = (w.alloc (.cells (tabC 0) 102)).alloc (.cells (tabC k) 102)) (fun i _ => 256 - (intOf i).toNat)
  case atStart => exact ⟨0, by omega, rfl, rfl⟩
  case round =>
    obtain ⟨k, hk, rfl, rfl⟩ := hrel
    by_cases hlt : k < 256
    · have hki : (k : Int) < 256 := by omega
      have HS := Lib.hid (tabC_set k hlt)
      go_wp2
      go_loop [3, 8] (fun c j => ∃ (m : Nat), m ≤ 8 ∧ j = .int .i64 m ∧ c = .int .u32 (halves m k : Nat)) (fun _ j => 8 - (intOf j).toNat)
      case atStart => exact ⟨0, by omega, rfl, rfl⟩
      case round =>
        obtain ⟨m, hm, rfl, rfl⟩ := hrel
        by_cases hm8 : m < 8
        · have hmi : (m : Int) < 8 := by omega
          have hh := fun w' => halve_any (halves m k) w' (halves_lt m (by omega))
          have HN := Lib.hid (halves_snoc m k)
          generalize halves m k = c at *
          go_wp2_with fail
          refine (hh _).mono ?_
          rintro e w1 ⟨rfl, rfl⟩
          go_wp2
          go_round
          case rel => exact ⟨m + 1, by omega, by go_num, by rw [HN.out]⟩
          case measure => simp [intOf]; omega
        · obtain rfl : m = 8 := by omega
          have hk2 : k < (tabC k).size := by rw [tabC_size]; omega
          go_wp2
          go_roundw
          case rel => exact ⟨k + 1, by omega, by go_num, by rw [← HS.out]; rfl⟩
          case measure => simp [intOf]; omega
    · obtain rfl : k = 256 := by omega
      have hg := heap_alloc2_new w (.cells (tabC 0) 102) (.cells (tabC 256) 102)
      have hg0 := heap_alloc2_old w (.cells (tabC 0) 102) (.cells (tabC 256) 102)
      have hi2 : (Try.prog.info? 102).map (·.size) = some (tabC 256).size := by rw [tabC_size]; exact hi
      have hsz : (tabC 0).size = (tabC 256).size := by rw [tabC_size, tabC_size]
      have HB : Hid (Below w.heap.size w (((w.alloc (.cells (tabC 0) 102)).alloc (.cells (tabC 256) 102)).setRow w.heap.size (tabC 256))) :=
        (((Below.refl _ _).alloc (Nat.le_refl _) _).alloc (by simp) _).trans (below_setRow _ _ _ (Nat.le_refl _))
      have HG := Lib.hid hg
      have HG0 := Lib.hid hg0
      have HI := Lib.hid hi2
      have HSZ := Lib.hid hsz
      clear hg hg0 hi2 hsz hi
      go_wp2_with (first
        | (refine wpList_load_row rfl 102 (.tmp 1) rfl (w.heap.size + 1) rfl 102 (tabC 256) (0, 0) _ HG.out Try.underlying102 rfl HI.out ?_)
        | (refine wpList_store_row rfl 102 (.tmp 0) (.tmp 17) rfl w.heap.size (tabC 256) rfl rfl 102 (tabC 0) HG0.out HI.out HSZ.out (tabC_one _) ?_))
      refine bodyPost_ret (v := .agg (tabC 256)) (results_cell_row rfl _ _ w.heap.size 102 (tabC 256) (0, 0) _ rfl (setRow_heap _ _ (tabC 0) _ _ _ HG0.out) Try.underlying102 rfl HI.out) rfl ⟨rfl, HB.out⟩
end Go.Proofs.Ytnffjoflkeagfaa.Fr
