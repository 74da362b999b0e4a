/- slices.Delete of one message. -/
import Derived.Test.YtheldpdckgoniaaDouble
import Derived.Laws.IdiomCopy
import Derived.Deep.WholeRow
namespace Go.Proofs.Ytheldpdckgoniaa
open Go.RowKit

/-- cells written one behind the other -/
def setA : Array Value → Nat → List Value → Array Value
  | c, _, [] => c
  | c, o, v :: r => setA (c.setIfInBounds o v) (o + 1) r
theorem setA_size : ∀ (vs : List Value) (c : Array Value) (o : Nat), (setA c o vs).size = c.size
  | [], _, _ => rfl
  | v :: r, c, o => by rw [setA, setA_size r]; simp
theorem setA_get : ∀ (vs : List Value) (c : Array Value) (o j : Nat), o + vs.length ≤ c.size → (setA c o vs)[j]? = if o ≤ j ∧ j < o + vs.length then vs[j - o]? else c[j]?
  | [], c, o, j, _ => by rw [setA, if_neg (by simp only [List.length_nil]; omega)]
  | v :: r, c, o, j, h => by
    simp only [List.length_cons] at h ⊢
    rw [setA, setA_get r _ _ _ (by simp; omega)]
    by_cases h1 : o = j
    · subst h1
      rw [if_neg (by omega), if_pos (by omega), Nat.sub_self]
      simp [show o < c.size by omega]
    · by_cases h2 : o + 1 ≤ j ∧ j < o + 1 + r.length
      · rw [if_pos h2, if_pos (by omega), show j - o = (j - (o + 1)) + 1 by omega, List.getElem?_cons_succ]
      · rw [if_neg h2, if_neg (by omega)]
        simp [h1]
theorem heap_setCells : ∀ (vs : List Value) (w : World) (g o : Nat) (cur : Array Value) (t : TypeId) (k : Nat × Nat), w.heap[g]? = some (.cells cur t k) → (w.setCells g o vs).heap[g]? = some (.cells (setA cur o vs) t k)
  | [], _, _, _, _, _, _, h => h
  | v :: r, w, g, o, cur, t, k, h => by
    rw [World.setCells, setA]; exact heap_setCells r _ _ _ _ _ _ (heap_set h)
theorem heap_setCells_other (g : Nat) : ∀ (vs : List Value) (o : Nat) (w : World) (k : Nat), k ≠ g → (w.setCells g o vs).heap[k]? = w.heap[k]?
  | [], _, _, _, _ => rfl
  | v :: r, o, w, k, h => by
    rw [World.setCells, heap_setCells_other g r (o + 1) _ k h, Below.heap_setCell _ _ _ _ h]
theorem size_setCells (g : Nat) : ∀ (vs : List Value) (o : Nat) (w : World), (w.setCells g o vs).heap.size = w.heap.size
  | [], _, _ => rfl
  | v :: r, o, w => by
    rw [World.setCells, size_setCells g r (o + 1) _]; simp [World.setCell]
theorem rest_setCells (g : Nat) : ∀ (vs : List Value) (o : Nat) (w : World), (w.setCells g o vs).os = w.os ∧ (w.setCells g o vs).tape = w.tape ∧ (w.setCells g o vs).output = w.output
  | [], _, _ => ⟨rfl, rfl, rfl⟩
  | v :: r, o, w => by
    rw [World.setCells]; exact rest_setCells g r (o + 1) _
abbrev zeroC : List Value := [.int .u8 0, .int .i64 0, .int .i64 0, .int .i64 0, .int .i64 0, .int .i64 0, .int .i64 0, .bool false, .slice none 0 0, .slice none 0 0, .string ⟨#[]⟩]
/-- clear of one message -/
theorem run_clear_msg (w : World) (ty : TypeId) (b o c : Nat) (hc : ∀ j, j < 11 → (w.cell? ⟨b, o + j, none⟩).isSome = true) (hf : ∀ j, j < 11 → w.frozen? ⟨b, o + j, none⟩ = false) :
    (Builtin.clear_ #[29] ty #[.slice (some ⟨b, o, none⟩) 1 c]).run Try.prog w = .ok (.tuple #[]) (w.setCells b o zeroC) := by
  have hz : ∀ w, (zeroValue 38).run Try.prog w = .ok (.agg #[.int .u8 0, .int .i64 0, .int .i64 0, .int .i64 0, .int .i64 0, .int .i64 0, .int .i64 0, .bool false, .slice none 0 0, .slice none 0 0, .string ⟨#[]⟩]) w := (zero_of_info (n := 11) (by kernel_rfl)).1
  have hst := run_storeCells_cells (P := Try.prog) b o zeroC 0 w (by simpa using hc) (by simpa using hf) (list_one noMsg none none 0 0 0 0)
  simp only [Nat.add_zero] at hst
  have hzc : (Builtin.zeroCells (Value.agg #[.int .u8 0, .int .i64 0, .int .i64 0, .int .i64 0, .int .i64 0, .int .i64 0, .int .i64 0, .bool false, .slice none 0 0, .slice none 0 0, .string ⟨#[]⟩]).cells 1).toList = zeroC := by kernel_rfl
  simp [Builtin.clear_, run_underlying Try.underlying29, hz, hzc, hst]
theorem rowC_erase (xs : List X) (k : Nat) (_hk : k < xs.length) : rowC (xs.eraseIdx k) = (rowC xs).take (k * 11) ++ (rowC xs).drop ((k + 1) * 11) := by
  rw [rowC_take, rowC_drop, ← rowC_append, List.eraseIdx_eq_take_drop_succ]
/-- what is left of a row behind Delete: its block -/
theorem delete_row {cur : Array Value} {cap n k : Nat} {xs : List X} (hn : n = xs.length) (hnc : n ≤ cap) (hk : k < n) (hs : cur.size = cap * 11) (ht : cur.toList.take (n * 11) = rowC xs) :
    (setA (setA cur (k * 11) (rowC (xs.drop (k + 1)))) ((n - 1) * 11) zeroC).size = cap * 11 ∧
    (setA (setA cur (k * 11) (rowC (xs.drop (k + 1)))) ((n - 1) * 11) zeroC).toList.take ((n - 1) * 11) = rowC (xs.eraseIdx k) := by
  have hl : (rowC (xs.drop (k + 1))).length = (n - (k + 1)) * 11 := by rw [rowC_len, List.length_drop, hn]
  have hz : zeroC.length = 11 := rfl
  have hs1 : (setA cur (k * 11) (rowC (xs.drop (k + 1)))).size = cap * 11 := by rw [setA_size, hs]
  have hL : (rowC xs).length = n * 11 := by rw [rowC_len, hn]
  have hle : n * 11 ≤ cap * 11 := Nat.mul_le_mul_right _ hnc
  have e1 : k * 11 + (n - (k + 1)) * 11 = (n - 1) * 11 := by rw [← Nat.add_mul]; congr 1; omega
  have e2 : (n - 1) * 11 + 11 = n * 11 := by rw [← Nat.succ_mul]; congr 1; omega
  have e3 : k * 11 + 11 = (k + 1) * 11 := (Nat.succ_mul _ _).symm
  have e4 : (k + 1) * 11 + (n - (k + 1)) * 11 = n * 11 := by rw [← Nat.add_mul]; congr 1; omega
  refine ⟨by rw [setA_size, hs1], ?_⟩
  have hget : ∀ j, j < n * 11 → cur[j]? = (rowC xs)[j]? := fun j hj => by
    rw [← ht, List.getElem?_take, if_pos hj]; simp
  rw [rowC_erase xs k (by omega)]
  apply List.ext_getElem?
  intro j
  rw [List.getElem?_take]
  by_cases hj : j < (n - 1) * 11
  · rw [if_pos hj, Array.getElem?_toList, setA_get _ _ _ _ (by rw [hs1, hz]; omega), if_neg (by rw [hz]; omega), setA_get _ _ _ _ (by rw [hl, hs]; omega)]
    by_cases h2 : j < k * 11
    · rw [if_neg (by omega), hget j (by omega), List.getElem?_append_left (by rw [List.length_take, hL]; omega), List.getElem?_take, if_pos h2]
    · rw [if_pos (by rw [hl]; omega), List.getElem?_append_right (by rw [List.length_take, hL]; omega), List.length_take, hL, Nat.min_eq_left (by omega), rowC_drop]
  · rw [if_neg hj]
    symm
    rw [List.getElem?_eq_none_iff, List.length_append, List.length_take, List.length_drop, hL]
    omega
set_option maxHeartbeats 4000000 in
set_option maxRecDepth 100000 in
theorem Delete_any {w : World} {g n cap k : Nat} {cur : Array Value} {xs : List X} (hg : w.heap[g]? = some (.cells cur 38 (0, 0))) (hn : n = xs.length) (hnc : n ≤ cap) (hcm : cap ≤ maxLen) (hs : cur.size = cap * 11) (ht : cur.toList.take (n * 11) = rowC xs) (hk : k < n) (h1 : ∀ x ∈ xs, SlV x) :
    Calls Try.prog 27 #[.slice (some ⟨g, 0, none⟩) n cap, .int .i64 (k : Int), .int .i64 ((k : Int) + 1)] w fun e w' => e = .returned (.slice (some ⟨g, 0, none⟩) (n - 1) cap) ∧ ∃ cur', w'.heap[g]? = some (.cells cur' 38 (0, 0)) ∧ cur'.size = cap * 11 ∧ cur'.toList.take ((n - 1) * 11) = rowC (xs.eraseIdx k) ∧ w.grownBy w' (some g) := by
  obtain ⟨i0, hi, hz0, hz1, hz2⟩ := info_parts info_msg
  have hcap9 : cap ≤ 9223372036854775807 := by unfold maxLen at hcm; omega
  have hL : (rowC xs).length = n * 11 := by rw [rowC_len, hn]
  have hle : n * 11 ≤ cap * 11 := Nat.mul_le_mul_right _ hnc
  obtain ⟨news, hnews⟩ : ∃ news, news = rowC (xs.drop (k + 1)) := ⟨_, rfl⟩
  have hnl : news.length = (n - (k + 1)) * 11 := by rw [hnews, rowC_len, List.length_drop, hn]
  have e1 : k * 11 + (n - (k + 1)) * 11 = (n - 1) * 11 := by rw [← Nat.add_mul]; congr 1; omega
  have e2 : (n - 1) * 11 + 11 = n * 11 := by rw [← Nat.succ_mul]; congr 1; omega
  have e4 : (k + 1) * 11 + (n - (k + 1)) * 11 = n * 11 := by rw [← Nat.add_mul]; congr 1; omega
  have hget : ∀ j, j < n * 11 → cur[j]? = (rowC xs)[j]? := fun j hj => by
    rw [← ht, List.getElem?_take, if_pos hj]; simp
  have hsl : ∀ (lo hi mx : Option Value) (V : Value), (∀ w', (Instr.slice 29 (.slice (some ⟨g, 0, none⟩) n cap) lo hi mx).run Try.prog w' = .ok V w') → ∀ w', (Instr.sliceAt 29 (.slice (some ⟨g, 0, none⟩) n cap) lo hi mx).run Try.prog w' = .ok V w' := fun lo hi mx V h w' => by rw [run_sliceAt_slice w' _ _ _ _ _ under_msg]; exact h w'
  -- s[i:j:len(s)]
  obtain ⟨V1, r1⟩ : ∃ V, ∀ w', (Instr.slice 29 (.slice (some ⟨g, 0, none⟩) n cap) (some (.int .i64 (k : Int))) (some (.int .i64 ((k : Int) + 1))) (some (.int .i64 (n : Int)))).run Try.prog w' = .ok V w' := ⟨_, fun w' => by
    rw [run_slice_lhm w' 29 (some ⟨g, 0, none⟩) n cap under_msg .i64 .i64 .i64 (k : Int) ((k : Int) + 1) (n : Int) (by omega) (by omega) (by omega) (by omega), elem_msg, Try.sizeOf38]
    rfl⟩
  -- s[:i]
  have r2 : ∀ w', (Instr.slice 29 (.slice (some ⟨g, 0, none⟩) n cap) none (some (.int .i64 (k : Int))) none).run Try.prog w' = .ok (.slice (some ⟨g, 0, none⟩) k cap) w' := fun w' => by
    rw [run_slice_h w' 29 (some ⟨g, 0, none⟩) n cap under_msg .i64 (k : Int) (by omega) (by omega), elem_msg, Try.sizeOf38]
    simp [sliced, Result.andThen, add_zero_off]
  -- s[j:]
  obtain ⟨A, r3, hsrc⟩ : ∃ A : Addr, (∀ w', (Instr.slice 29 (.slice (some ⟨g, 0, none⟩) n cap) (some (.int .i64 ((k : Int) + 1))) none none).run Try.prog w' = .ok (.slice (some A) (n - (k + 1)) (cap - (k + 1))) w') ∧ Hid (∀ t u, news[t]? = some u → w.drew.cell? (A.add t) = some u) := by
    have hr : ∀ w', (Instr.slice 29 (.slice (some ⟨g, 0, none⟩) n cap) (some (.int .i64 ((k : Int) + 1))) none none).run Try.prog w' = .ok (sliced (some ⟨g, 0, none⟩) (k + 1) n cap 11) w' := fun w' => by
      rw [run_slice_l w' 29 (some ⟨g, 0, none⟩) n cap under_msg .i64 ((k : Int) + 1) (by omega) (by omega), elem_msg, Try.sizeOf38]
      rfl
    by_cases h0 : cap = k + 1
    · refine ⟨⟨g, 0, none⟩, fun w' => by rw [hr]; unfold sliced; rw [if_pos h0], fun t u hu => ?_⟩
      have : news.length = 0 := by rw [hnl]; omega
      rw [List.length_eq_zero_iff.1 this] at hu
      simp at hu
    · refine ⟨⟨g, (k + 1) * 11, none⟩, fun w' => by rw [hr]; unfold sliced; rw [if_neg h0]; simp [add_zero_off], fun t u hu => ?_⟩
      have ht' := (List.getElem?_eq_some_iff.1 hu).1
      rw [add_off]
      show w.cell? _ = _
      rw [Lib.cell_of_heap hg, hget _ (by omega)]
      rw [hnews, ← rowC_drop, List.getElem?_drop] at hu
      exact hu
  -- s[len(s):oldlen], of what is left
  obtain ⟨m, hm⟩ : ∃ m, m = n - (k + 1) := ⟨_, rfl⟩
  obtain ⟨q, hq⟩ : ∃ q, q = (n - 1) * 11 := ⟨_, rfl⟩
  obtain ⟨c4, hc4⟩ : ∃ c4, c4 = cap - (n - 1) := ⟨_, rfl⟩
  have r4 : ∀ w', (Instr.slice 29 (.slice (some ⟨g, 0, none⟩) (k + m) cap) (some (.int .i64 ((k : Int) + (m : Int)))) (some (.int .i64 (n : Int))) none).run Try.prog w' = .ok (.slice (some ⟨g, q, none⟩) 1 c4) w' := fun w' => by
    rw [run_slice_lh w' 29 (some ⟨g, 0, none⟩) (k + m) cap under_msg .i64 .i64 ((k : Int) + (m : Int)) (n : Int) (by omega) (by omega) (by omega), elem_msg, Try.sizeOf38]
    have e : ((k : Int) + (m : Int)).toNat = n - 1 := by omega
    rw [e]
    simp only [sliced, Result.andThen, Int.toNat_natCast]
    rw [if_neg (by omega)]
    simp only [Option.map_some, add_zero_off]
    rw [show n - (n - 1) = 1 by omega, hq, hc4]
  have r4' : ∀ w', (Instr.sliceAt 29 (.slice (some ⟨g, 0, none⟩) (k + m) cap) (some (.int .i64 ((k : Int) + (m : Int)))) (some (.int .i64 (n : Int))) none).run Try.prog w' = .ok (.slice (some ⟨g, q, none⟩) 1 c4) w' := fun w' => by rw [run_sliceAt_slice w' _ _ _ _ _ under_msg]; exact r4 w'
  have r1' := hsl _ _ _ _ r1
  have r2' := hsl _ _ _ _ r2
  have r3' := hsl _ _ _ _ r3
  obtain ⟨W1, hW1⟩ : ∃ W1, W1 = w.drew.setCells g (0 + k * 11) news := ⟨_, rfl⟩
  have hg1 : W1.heap[g]? = some (.cells (setA cur (k * 11) news) 38 (0, 0)) := by rw [hW1, Nat.zero_add]; exact heap_setCells _ _ _ _ _ _ _ hg
  have hs1 : (setA cur (k * 11) news).size = cap * 11 := by rw [setA_size, hs]
  have hcl : ∀ ty, (Builtin.clear_ #[29] ty #[.slice (some ⟨g, q, none⟩) 1 c4]).run Try.prog W1 = .ok (.tuple #[]) (W1.setCells g q zeroC) := fun ty =>
    run_clear_msg W1 ty g q c4 (fun j hj => by rw [Lib.cell_of_heap hg1, Array.getElem?_eq_getElem (by rw [hs1]; omega)]; rfl) (fun j _ => Lib.frozen_of_heap hg1 _)
  have hd := delete_row (k := k) hn hnc hk hs ht
  rw [← hnews, ← hq] at hd
  have hg2 : (W1.setCells g q zeroC).heap[g]? = some (.cells (setA (setA cur (k * 11) news) q zeroC) 38 (0, 0)) := heap_setCells _ _ _ _ _ _ _ hg1
  have hgr : w.grownBy (W1.setCells g q zeroC) (some g) := by
    have x1 := rest_setCells g zeroC q W1
    have x2 := rest_setCells g news (0 + k * 11) w.drew
    refine ⟨x1.1.trans (by rw [hW1]; exact x2.1), x1.2.1.trans (by rw [hW1]; exact x2.2.1), x1.2.2.trans (by rw [hW1]; exact x2.2.2), by rw [size_setCells, hW1, size_setCells]; exact Nat.le_refl _, fun i _ hi => ?_⟩
    have hne : i ≠ g := fun e => hi (by rw [e])
    rw [heap_setCells_other g _ _ _ _ hne, hW1, heap_setCells_other g _ _ _ _ hne]
    rfl
  obtain ⟨W2, hW2⟩ : ∃ W2, W2 = W1.setCells g q zeroC := ⟨_, rfl⟩
  have HFIN : Hid (∃ cur', W2.heap[g]? = some (.cells cur' 38 (0, 0)) ∧ cur'.size = cap * 11 ∧ cur'.toList.take ((n - 1) * 11) = rowC (xs.eraseIdx k) ∧ w.grownBy W2 (some g)) := by
    rw [hW2, ← hq]
    exact ⟨_, hg2, hd.1, hd.2, hgr⟩
  simp only [← hW2] at hcl
  have s1 : Hid (news.length = m * 11) := by show _ = _; rw [hnl, hm]
  have s2 : Hid (∀ u ∈ news, u.oneCell' = true) := by rw [hnews]; exact rowC_one _ (fun x hx => h1 x (List.mem_of_mem_drop hx))
  have s3 : Hid (∀ t, t < news.length → (w.drew.cell? ⟨g, 0 + k * 11 + t, none⟩).isSome = true ∧ w.drew.frozen? ⟨g, 0 + k * 11 + t, none⟩ = false) := by
    intro t ht'
    refine ⟨?_, Lib.frozen_of_heap (w := w) hg _⟩
    show (w.cell? _).isSome = true
    rw [Lib.cell_of_heap hg, Array.getElem?_eq_getElem (by rw [hs]; omega)]
    rfl
  have hW := Lib.hid hW1
  have hkn : (k : Int) ≠ (k : Int) + 1 := by omega
  have hkm : k + m ≤ cap := by omega
  have HE : Hid (k + m = n - 1) := by show _ = _; omega
  rw [← hm] at r3 r3'
  obtain ⟨c3, hc3⟩ : ∃ c3, c3 = cap - (k + 1) := ⟨_, rfl⟩
  rw [← hc3] at r3 r3'
  clear hg hs ht hnews hget hsl hW1 hg1 hs1 hd hg2 hgr hW2 hnl e1 e2 e4 hL hle hm hq hc4 hc3 h1 hn
  go_enter Try.func27, Try.ntmps27
  go_wp2_with fail
  go_region_law (refine step_append_room rfl (.tmp 22) (.tmp 25) 29 rfl 38 i0 11 Try.underlying29 hi hz1 g 0 k cap (by simp [Act.eval, Act.put]) A m c3 news (by simp [Act.eval, Act.put]) s1.out hsrc.out s2.out (by omega) s3.out ?_; rw [← hW.out])
  all_goals
    go_wp2
    go_ret
    rw [HE.out]
    exact ⟨rfl, HFIN.out⟩
end Go.Proofs.Ytheldpdckgoniaa
