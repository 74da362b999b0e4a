/- A list's first ones and the others, as slices; what is joined and scanned. -/
import Derived.Test.YtnffjoflkeagfaaFSame
namespace Go.Proofs.Ytnffjoflkeagfaa.Fr
open Go.RowKit

theorem joinB_cons (x : ByteArray) (l : List ByteArray) : joinB (x :: l) = frameL (bs x) ++ joinB l := by simp [joinB, joinL]
theorem joinB_each : ∀ (l : List ByteArray), 8 * l.length ≤ (joinB l).length ∧ ∀ c ∈ l, c.size + 8 ≤ (joinB l).length
  | [] => by simp
  | x :: l => by
    obtain ⟨h1, h2⟩ := joinB_each l
    rw [joinB_cons, List.length_append, frameL_length, bs_size]
    refine ⟨by rw [List.length_cons]; omega, fun c hc => ?_⟩
    rcases List.mem_cons.1 hc with rfl | hc
    · omega
    · have := h2 c hc; omega
theorem bool_true {b : Bool} (h : b = true) : Ending.returned (.bool b) = .returned (.bool true) := by rw [h]
theorem elem_str : Try.prog.elem 41 = 9 := by kernel_rfl
theorem under_str : Try.prog.underlying 41 = some (.slice (Try.prog.elem 41)) := by rw [elem_str]; exact Try.underlying41
/-- p of p ++ q: x[:n] -/
theorem slice_to {w : World} {a : Option Addr} {n m c : Nat} {p q : List ByteArray} (h : ListAt w (.slice a (n + m) c) (n + m) (cellsOf strC (p ++ q))) (hp : p.length = n) :
    ∃ V, (∀ w', (Instr.slice 41 (.slice a (n + m) c) none (some (.int .i64 (n : Int))) none).run Try.prog w' = .ok V w') ∧
      (∀ w', (Instr.sliceAt 41 (.slice a (n + m) c) none (some (.int .i64 (n : Int))) none).run Try.prog w' = .ok V w') ∧ ListAt w V n (cellsOf strC p) := by
  obtain ⟨h1, a', c', e, hc, h2⟩ := h
  simp only [Value.slice.injEq] at e
  obtain ⟨rfl, _, rfl⟩ := e
  have hr : ∀ w', (Instr.slice 41 (.slice a (n + m) c) none (some (.int .i64 (n : Int))) none).run Try.prog w' = .ok (sliced a 0 n c 1) w' := fun w' => by
    rw [run_slice_h w' 41 a (n + m) c under_str .i64 (n : Int) (by omega) (by omega), elem_str, Try.sizeOf9]
    rfl
  refine ⟨sliced a 0 n c 1, hr, fun w' => by rw [run_sliceAt_slice w' _ _ _ _ _ under_str]; exact hr w', by simp [cellsOf, hp], (if c = 0 then a else a.map (·.add (0 * 1))), c, by unfold sliced; rw [Nat.sub_zero, Nat.sub_zero], by omega, ?_⟩
  by_cases h0 : n = 0
  · exact .inl h0
  · rcases h2 with h2 | ⟨b, off, rfl, hb, hcells⟩
    · omega
    · refine .inr ⟨b, off, ?_, hb, fun j u hu => hcells j u ?_⟩
      · rw [if_neg (by omega)]; simp [Addr.add]
      · have hj : j < p.length := by have := (List.getElem?_eq_some_iff.1 hu).1; simpa [cellsOf] using this
        simp only [cellsOf, List.map_append] at hu ⊢
        rw [List.getElem?_append_left (by simpa using hj)]; exact hu
/-- q: x[n:] -/
theorem slice_from {w : World} {a : Option Addr} {n m c : Nat} {p q : List ByteArray} (h : ListAt w (.slice a (n + m) c) (n + m) (cellsOf strC (p ++ q))) (hp : p.length = n) (hq : q.length = m) :
    ∃ V, (∀ w', (Instr.slice 41 (.slice a (n + m) c) (some (.int .i64 (n : Int))) none none).run Try.prog w' = .ok V w') ∧
      (∀ w', (Instr.sliceAt 41 (.slice a (n + m) c) (some (.int .i64 (n : Int))) none none).run Try.prog w' = .ok V w') ∧ ListAt w V m (cellsOf strC q) := by
  obtain ⟨h1, a', c', e, hc, h2⟩ := h
  simp only [Value.slice.injEq] at e
  obtain ⟨rfl, _, rfl⟩ := e
  have hr : ∀ w', (Instr.slice 41 (.slice a (n + m) c) (some (.int .i64 (n : Int))) none none).run Try.prog w' = .ok (sliced a n (n + m) c 1) w' := fun w' => by
    rw [run_slice_l w' 41 a (n + m) c under_str .i64 (n : Int) (by omega) (by omega), elem_str, Try.sizeOf9]
    rfl
  refine ⟨sliced a n (n + m) c 1, hr, fun w' => by rw [run_sliceAt_slice w' _ _ _ _ _ under_str]; exact hr w', by simp [cellsOf, hq], (if c = n then a else a.map (·.add (n * 1))), c - n, by unfold sliced; rw [Nat.add_sub_cancel_left], by omega, ?_⟩
  by_cases h0 : m = 0
  · exact .inl h0
  · rcases h2 with h2 | ⟨b, off, rfl, hb, hcells⟩
    · omega
    · refine .inr ⟨b, off + n, ?_, hb, fun j u hu => ?_⟩
      · rw [if_neg (by omega), Nat.mul_one]
        simp only [Option.map_some, Option.some.injEq]
        unfold Addr.add
        split <;> simp_all
      · have := hcells (n + j) u (by
          simp only [cellsOf, List.map_append] at hu ⊢
          rw [List.getElem?_append_right (by simp; omega)]
          simpa [hp] using hu)
        rw [Nat.add_assoc]; exact this
/-- l[:n] -/
theorem slice_first {w : World} {a : Option Addr} {N c : Nat} {l : List ByteArray} (n : Nat) (h : ListAt w (.slice a N c) N (cellsOf strC l)) (hn : n ≤ N) :
    ∃ V, (∀ w', (Instr.slice 41 (.slice a N c) none (some (.int .i64 (n : Int))) none).run Try.prog w' = .ok V w') ∧
      (∀ w', (Instr.sliceAt 41 (.slice a N c) none (some (.int .i64 (n : Int))) none).run Try.prog w' = .ok V w') ∧ ListAt w V n (cellsOf strC (l.take n)) := by
  obtain ⟨m, rfl⟩ : ∃ m, N = n + m := ⟨N - n, by omega⟩
  have hl : l.length = n + m := by have := h.1; simpa [cellsOf] using this
  refine slice_to (q := l.drop n) (by rw [List.take_append_drop]; exact h) (by rw [List.length_take]; omega)
theorem map_mk_bs (l : List ByteArray) : (l.map bs).map mk = l := by
  rw [List.map_map]
  have : (mk ∘ bs) = id := by funext s; exact mk_bs s
  rw [this, List.map_id]
theorem small_bs {l : List ByteArray} (h : ∀ c ∈ l, c.size ≤ 65536) : ∀ b ∈ l.map bs, b.length ≤ 65536 := by
  intro b hb
  obtain ⟨c, hc, rfl⟩ := List.mem_map.1 hb
  rw [bs_size]; exact h c hc
theorem scan_chain (l : List ByteArray) (r : List UInt8) (h : ∀ c ∈ l, c.size ≤ 65536) : scanT (joinB l ++ r) = l ++ scanT r ∧ scanN (joinB l ++ r) = (joinB l).length + scanN r := by
  have e := scan_join (l.map bs) r (small_bs h)
  unfold scanT scanN joinB
  rw [e]
  exact ⟨by rw [List.map_append, map_mk_bs], rfl⟩
theorem scan_all (l : List ByteArray) (h : ∀ c ∈ l, c.size ≤ 65536) : scanT (joinB l) = l ∧ scanN (joinB l) = (joinB l).length := by
  have e := scan_join0 (l.map bs) (small_bs h)
  unfold scanT scanN joinB
  rw [e]
  exact ⟨map_mk_bs l, rfl⟩
/-- cut anywhere -/
theorem scan_some (l : List ByteArray) (k : Nat) (h : ∀ c ∈ l, c.size ≤ 65536) : ∃ m, m ≤ l.length ∧ scanT ((joinB l).take k) = l.take m ∧ scanN ((joinB l).take k) = (joinB (l.take m)).length ∧ (joinB (l.take m)).length ≤ k ∧
    (joinB l).take (joinB (l.take m)).length = joinB (l.take m) ∧ (m = l.length ∨ ∃ x, l[m]? = some x ∧ k < (joinB (l.take m)).length + 8 + x.size) := by
  obtain ⟨m, h1, h2, h3, h4⟩ := scan_cut (l.map bs) k (small_bs h)
  rw [List.length_map] at h1 h4
  rw [← List.map_take] at h2 h3 h4
  refine ⟨m, h1, ?_, ?_, h3, ?_, ?_⟩
  · unfold scanT joinB; rw [h2]; exact map_mk_bs _
  · unfold scanN joinB; rw [h2]
  · have e : joinB l = joinB (l.take m) ++ joinB (l.drop m) := by
      unfold joinB joinL; rw [← List.flatMap_append, ← List.map_append, List.take_append_drop]
    rw [e, List.take_left]
  · rcases h4 with h4 | h4
    · exact .inl h4
    · by_cases hm : m < l.length
      · refine .inr ⟨l[m], List.getElem?_eq_getElem hm, ?_⟩
        have e : (l.map bs).getD m [] = bs l[m] := by simp [List.getD, hm]
        rw [e, bs_size] at h4
        exact h4
      · exact .inl (by omega)
theorem same_n (va vb : Value) (l : List ByteArray) (n : Nat) (w : World) (ha : ListAt w va n (cellsOf strC l)) (hb : ListAt w vb n (cellsOf strC l)) (h : l.length = n) (hn : n ≤ 1099511627776) :
    Calls Try.prog 19 #[va, vb] w fun e w' => e = .returned (.bool true) ∧ Below w.heap.size w w' := by
  subst h
  refine (same_any va vb l l w ha hb hn hn).mono ?_
  rw [decide_eq_true (rfl : l = l)]
  exact fun e w' h => h
end Go.Proofs.Ytnffjoflkeagfaa.Fr
