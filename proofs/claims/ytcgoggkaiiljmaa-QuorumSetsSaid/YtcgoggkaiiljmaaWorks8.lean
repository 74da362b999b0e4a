/- The document's examples: works. -/
import Derived.Test.YtcgoggkaiiljmaaSame8
namespace Go.Proofs.Ytcgoggkaiiljmaa
open Go.RowKit Go.Maps

theorem IA.lit (w : World) (T : TypeId) (l : List Int) {cs : Array Value} {n : Nat} (hcs : cs = (intsC l).toArray) (hn : n = l.length) : IA (w.alloc (.cells cs T)) (.slice (some ⟨w.heap.size, 0, none⟩) n n) l := by
  subst hcs hn
  refine ⟨_, _, rfl, Nat.le_refl _, fun h => (by cases h), .inr ⟨w.heap.size, 0, rfl, trivial, by simp, fun j u hu => ?_⟩⟩
  rw [Lib.cell_of_heap (heap_alloc_new w _), Nat.zero_add]
  simpa using hu
theorem below_lit (w : World) (o : Obj) : Below w.heap.size w (w.alloc o) := (Below.refl _ _).alloc (Nat.le_refl _) _
def wfB (l : List Int) : Bool := l.all (fun x => decide (-9223372036854775808 ≤ x) && decide (x ≤ 9223372036854775807))
theorem wf_of {l : List Int} (h : wfB l = true) : Wf l := fun x hx => by
  have := List.all_eq_true.1 h x hx
  rw [Bool.and_eq_true] at this
  exact ⟨of_decide_eq_true this.1, of_decide_eq_true this.2⟩
theorem commit_works : commitS [5, 3, 9] = 5 := by
  have h0 : ([5, 3, 9] : List Int) ≠ [] := by simp
  have h1 := (commit_is h0 (x := 5)).1 (by decide)
  have h2 : ¬ 9 ≤ commitS [5, 3, 9] := fun h => absurd ((commit_is h0 (x := 9)).2 h) (by decide)
  have h3 := commit_mem h0
  simp only [List.mem_cons, List.not_mem_nil, or_false] at h3
  omega
theorem w_minus (w : World) : Calls Try.prog 22 #[.slice (some ⟨w.heap.size, 0, none⟩) 3 3, .slice (some ⟨w.heap.size + 1, 0, none⟩) 1 1] ((w.alloc (.cells #[.int .i64 1, .int .i64 2, .int .i64 3] 3)).alloc (.cells #[.int .i64 2] 3)) fun e w' => ∃ a c, e = .returned (.slice a 2 c) ∧ Below w.heap.size w w' := by
  have h2 := IA.lit (w.alloc (.cells #[.int .i64 1, .int .i64 2, .int .i64 3] 3)) 3 [2] (cs := #[.int .i64 2]) (n := 1) rfl rfl
  rw [show (w.alloc (.cells #[.int .i64 1, .int .i64 2, .int .i64 3] 3)).heap.size = w.heap.size + 1 by simp] at h2
  refine (Minus_any ((IA.lit w 3 [1, 2, 3] rfl rfl).below (below_lit _ _)) (wf_of (by decide)) (by decide) h2 (wf_of (by decide)) (by decide)).mono ?_
  rintro e w' ⟨v, rfl, hi, hb⟩
  obtain ⟨a, c, rfl, _⟩ := hi.slice
  exact ⟨a, c, rfl, (bw (below_lit w _) (below_lit _ _)).trans (hb.mono (by simp; omega))⟩
theorem w_inter {w : World} {v : Value} (h : IA w v [1, 3]) : Calls Try.prog 20 #[v, v] w fun e w' => ∃ a c, e = .returned (.slice a 2 c) ∧ Below w.heap.size w w' := by
  refine (Inter_any h (wf_of (by decide)) (by decide) h (wf_of (by decide)) (by decide)).mono ?_
  rintro e w' ⟨v, rfl, hi, hb⟩
  obtain ⟨a, c, rfl, _⟩ := hi.slice
  exact ⟨a, c, rfl, hb⟩
theorem w_union {w : World} {v : Value} (h : IA w v [1, 3]) : Calls Try.prog 18 #[v, .slice (some ⟨w.heap.size, 0, none⟩) 1 1] (w.alloc (.cells #[.int .i64 2] 3)) fun e w' => ∃ a c, e = .returned (.slice a 3 c) ∧ Below w.heap.size w w' := by
  refine (Union_any (h.below (below_lit _ _)) (wf_of (by decide)) (by decide) (IA.lit w 3 [2] rfl rfl) (wf_of (by decide)) (by decide) (by decide)).mono ?_
  rintro e w' ⟨v, rfl, hi, hb⟩
  obtain ⟨a, c, rfl, _⟩ := hi.slice
  exact ⟨a, c, rfl, (below_lit w _).trans (hb.mono (below_lit w _).size)⟩
theorem w_meets {w : World} {v : Value} (h : IA w v [1, 3]) : Calls Try.prog 27 #[v, .slice (some ⟨w.heap.size, 0, none⟩) 1 1] (w.alloc (.cells #[.int .i64 3] 3)) fun e w' => e = .returned (.bool true) ∧ Below w.heap.size w w' := by
  refine (Meets_any (h.below (below_lit _ _)) (wf_of (by decide)) (by decide) (IA.lit w 3 [3] rfl rfl) (wf_of (by decide)) (by decide)).mono ?_
  rintro e w' ⟨rfl, hb⟩
  exact ⟨rfl, (below_lit w _).trans (hb.mono (below_lit w _).size)⟩
theorem w_first (w : World) : Calls Try.prog 24 #[.slice (some ⟨w.heap.size, 0, none⟩) 4 4, .int .i64 2] (w.alloc (.cells #[.int .i64 3, .int .i64 1, .int .i64 3, .int .i64 2] 3)) fun e w' => ∃ a c, e = .returned (.slice a 2 c) ∧ Below w.heap.size w w' := by
  refine (First_any 2 (IA.lit w 3 [3, 1, 3, 2] rfl rfl) (wf_of (by decide)) (by decide)).mono ?_
  rintro e w' ⟨v, rfl, hi, hb⟩
  obtain ⟨a, c, rfl, _⟩ := hi.slice
  exact ⟨a, c, rfl, (below_lit w _).trans (hb.mono (below_lit w _).size)⟩
set_option maxHeartbeats 4000000 in
set_option maxRecDepth 100000 in
theorem works_any (w : World) :
    Calls Try.prog 9 #[] w fun e w' => e = .returned (.bool true) ∧ Below w.heap.size w w' := by
  have k1 := Set_any (IA.lit w 3 [3, 1, 3] rfl rfl) (wf_of (by decide)) (by decide)
  rw [show setS [3, 1, 3] = [1, 3] by decide] at k1
  have b0 := Lib.hid (below_lit w (.cells (intsC [3, 1, 3]).toArray 3))
  have k2 : ∀ w, Calls Try.prog 10 #[.int .i64 5] w fun e w' => e = .returned (.int .i64 3) ∧ w = w' := fun w => Majority_any w 5 ⟨by omega, by omega⟩
  have k3 := fun w => Commit_any (IA.lit w 3 [5, 3, 9] rfl rfl) (by decide)
  rw [commit_works] at k3
  have K2 := Lib.hid k2
  have K3 := Lib.hid k3
  clear k2 k3
  go_enter Try.func9, Try.ntmps9
  go_wp2_with fail
  refine k1.mono ?_
  rintro e w1 ⟨v1, rfl, hi, hb⟩
  obtain ⟨a1, c1, rfl, _⟩ := hi.slice
  obtain ⟨bk, off, rfl, hbk, hc1⟩ := hi.get (k := 0) (by decide)
  have HI := Lib.hid hi
  have HB := Lib.hid (bw b0.out hb)
  clear hi hb k1
  go_wp2_with fail
  refine (K2.out _).mono ?_
  rintro e w2 ⟨rfl, rfl⟩
  go_wp2_with fail
  refine (K3.out _).mono ?_
  rintro e w2 ⟨rfl, hb⟩
  have HB2 := Lib.hid (HB.out.trans ((below_lit w1 _).trans (hb.mono (below_lit w1 _).size) |>.mono HB.out.size))
  have HI2 := Lib.hid (HI.out.below ((below_lit w1 _).trans (hb.mono (below_lit w1 _).size)))
  have hc2 : w2.cell? ⟨bk, off, none⟩ = some (.int .i64 1) := (((below_lit w1 _).trans (hb.mono (below_lit w1 _).size)).cell (p := ⟨bk, off, none⟩) hbk).trans hc1
  clear hb
  have k4 := Has_any 3 HI2.out (by decide)
  rw [show ([1, 3] : List Int).contains 3 = true by decide] at k4
  go_wp2_with fail
  refine k4.mono ?_
  rintro e w3 ⟨rfl, rfl⟩
  clear k4
  go_wp2_with fail
  refine (w_minus w2).mono ?_
  rintro e w3 ⟨a3, c3, rfl, hb⟩
  have HI3 := Lib.hid (HI2.out.below hb)
  have HB3 := Lib.hid (bw HB2.out hb)
  clear hb
  go_wp2_with fail
  refine (w_inter HI3.out).mono ?_
  rintro e w4 ⟨a4, c4, rfl, hb⟩
  have HI4 := Lib.hid (HI3.out.below hb)
  have HB4 := Lib.hid (bw HB3.out hb)
  clear hb
  go_wp2_with fail
  refine (w_union HI4.out).mono ?_
  rintro e w5 ⟨a5, c5, rfl, hb⟩
  have HI5 := Lib.hid (HI4.out.below hb)
  have HB5 := Lib.hid (bw HB4.out hb)
  clear hb
  go_wp2_with fail
  refine (w_meets HI5.out).mono ?_
  rintro e w6 ⟨rfl, hb⟩
  have HB6 := Lib.hid (bw HB5.out hb)
  clear hb
  go_wp2_with fail
  refine (w_first w6).mono ?_
  rintro e w7 ⟨a7, c7, rfl, hb⟩
  have HB7 := Lib.hid (bw HB6.out hb)
  clear hb
  go_wp2
  go_ret
  exact ⟨rfl, HB7.out⟩
end Go.Proofs.Ytcgoggkaiiljmaa
