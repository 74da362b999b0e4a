/- Entries among the arguments. -/
import Derived.Test.YtheldpdckgoniaaRows6
import Derived.OpenShut
namespace Go.Proofs.Ytheldpdckgoniaa
open Go.ChangeShapes Go.WideShapes Go.RowKit
open Go.ChangeMaps (open_string shut_string)
open Go.Deep (open_slice choose_lt)

section
variable {H : Type} {enc : TypeId × Value → H} {W : World}
theorem mem_all {P : Program} {e : TypeId} : ∀ {l : List (DataW H)} {d : DataW H}, d ∈ l → ∀ n ∈ d.weights P e, n ∈ DataW.weightsAll P e l
  | x :: r, d, h, n, hn => by
    simp only [DataW.weightsAll, List.mem_append]
    rcases List.mem_cons.1 h with rfl | h
    · exact .inl hn
    · exact .inr (mem_all h n hn)
theorem len2 {α : Type} : ∀ {l : List α}, l.length = 2 → ∃ a b, l = [a, b]
  | [a, b], _ => ⟨a, b, rfl⟩
def entL (e : Int × ByteArray) : List Value := [.int .i64 e.1, .string e.2]
theorem entC_flat (es : List (Int × ByteArray)) : es.flatMap entL = entC es := by
  induction es with
  | nil => rfl
  | cons p t ih => simp only [List.flatMap_cons, ih]; rfl
theorem read_ents6 {fuel : Nat} {v : Value} {y : DataW H × List MemPlace} (h : DataW.trod enc Try.prog W 0 (fun _ => true) true fuel 36 [v] = some y)
    (hz : ∀ n ∈ DataW.weights Try.prog 36 y.1, n ≤ reachBytes) : ∃ es : List (Int × ByteArray), Run (fun k => k < W.heap.size) W v es.length (entC es) ∧ es.length ≤ 9223372036854775807 ∧ ∀ e ∈ es, e.2.size ≤ 281474976710656 := by
  have hrb := reachBytes_lt
  rcases open_slice Try.underlying36 h with ⟨hcs, hx⟩ | ⟨a, len, cap, m, n, D, Pl, hcs, _, hl, hm, hmm, hx, hel⟩
  · simp only [List.cons.injEq, and_true] at hcs
    subst hcs
    exact ⟨[], Run.nil _ _ _, by simp, by simp⟩
  · simp only [List.cons.injEq, and_true] at hcs
    subst hcs
    have hce : Try.prog.cellsOf 52 = 2 := by kernel_rfl
    rw [hce] at hel
    simp only [if_true] at hmm
    rw [hmm] at hel hx
    clear hmm
    have hxd : y.1 = .slice ((List.range len).map D) ((List.range (cap - len)).map fun j => D (len + j)) := congrArg Prod.fst hx
    have each : ∀ i, i < len → ∃ e : Int × ByteArray, (∀ j u, (entL e)[j]? = some u → W.cell? (a.add (i * 2 + j)) = some u) ∧ e.2.size ≤ 281474976710656 := by
      intro i hi
      obtain ⟨cs, hcs, ht⟩ := hel i (by omega)
      obtain ⟨_, hlen, hcell⟩ := World.cells?_some hcs
      obtain ⟨xs, k, _, hD, _, hxl, hfld⟩ := DataW.trod_struct Try.underlying52 ht
      have hDi : D i = .agg (xs.map (·.1)) := congrArg Prod.fst hD
      have hw : ∀ q ∈ (D i).weights Try.prog 52, q ≤ reachBytes := fun q hq => by
        refine hz q ?_
        rw [hxd]
        simp only [DataW.weights, Try.underlying36, List.mem_cons, List.mem_append]
        exact .inr (.inl (mem_all (d := D i) (List.mem_map.2 ⟨i, List.mem_range.2 hi, rfl⟩) q hq))
      obtain ⟨y0, y1, rfl⟩ := len2 (l := xs) hxl
      obtain ⟨v0, v1, rfl⟩ := len2 hlen
      have e3 : Try.prog.cellsOf 3 = 1 := by kernel_rfl
      have e9 : Try.prog.cellsOf 9 = 1 := by kernel_rfl
      have g0 : DataW.trod enc Try.prog W 0 (fun _ => true) true k 3 [v0] = some y0 := by simpa [e3] using hfld 0 _ rfl
      have g1 : DataW.trod enc Try.prog W 0 (fun _ => true) true k 9 [v1] = some y1 := by simpa [e9] using hfld 1 _ rfl
      obtain ⟨z0, h0, hx0, w0⟩ := DataW.trod_int Try.underlying3 g0
      obtain ⟨s1, h1, hx1, w1⟩ := DataW.trod_string Try.underlying9 g1
      simp only [List.cons.injEq, and_true] at h0 h1
      subst h0 h1
      have hwe : ∀ (j : Nat) t y, [3, 9][j]? = some t → [y0.1, y1.1][j]? = some y → ∀ q ∈ DataW.weights Try.prog t y, q ≤ reachBytes := by
        intro j t y ht hy q hq
        refine hw q ?_
        rw [hDi]
        have := DataW.weights_mem_each ht hy q hq
        simpa [DataW.weights, Try.underlying52] using this
      have b1 := hwe 1 9 y1.1 rfl rfl s1.data.toList.length (by rw [hx1]; simp [DataW.weights])
      rw [← Lib.size_eq] at b1
      refine ⟨(z0, s1), fun j u hu => ?_, by show s1.size ≤ _; omega⟩
      have hj := (List.getElem?_eq_some_iff.1 hu).1
      rw [← Go.Deep.add_add, hcell j hj]
      exact hu
    obtain ⟨es, h1, h2, h3⟩ := run_rows 2 (by decide) entL (fun _ => rfl) (fun e => e.2.size ≤ 281474976710656) hl each
    subst h1
    rw [entC_flat] at h2
    exact ⟨es, h2, by unfold maxLen at hm; omega, h3⟩
theorem intL_flat (zs : List Int) : zs.flatMap (fun z => [Value.int .i64 z]) = intsC zs := by
  induction zs with
  | nil => rfl
  | cons p t ih => simp only [List.flatMap_cons, ih]; rfl
theorem read_ints6 {fuel : Nat} {v : Value} {y : DataW H × List MemPlace} (h : DataW.trod enc Try.prog W 0 (fun _ => true) true fuel 35 [v] = some y) : ∃ zs : List Int, Run (fun k => k < W.heap.size) W v zs.length (intsC zs) ∧ zs.length ≤ 9223372036854775807 := by
  rcases open_slice Try.underlying35 h with ⟨hcs, hx⟩ | ⟨a, len, cap, m, n, D, Pl, hcs, _, hl, hm, hmm, hx, hel⟩
  · simp only [List.cons.injEq, and_true] at hcs
    subst hcs
    exact ⟨[], Run.nil _ _ _, by simp⟩
  · simp only [List.cons.injEq, and_true] at hcs
    subst hcs
    have hce : Try.prog.cellsOf 3 = 1 := by kernel_rfl
    rw [hce] at hel
    simp only [if_true] at hmm
    rw [hmm] at hel hx
    clear hmm
    have each : ∀ i, i < len → ∃ z : Int, (∀ j u, ([Value.int .i64 z] : List Value)[j]? = some u → W.cell? (a.add (i * 1 + j)) = some u) ∧ True := by
      intro i hi
      obtain ⟨cs, hcs, ht⟩ := hel i (by omega)
      obtain ⟨_, hlen, hcell⟩ := World.cells?_some hcs
      obtain ⟨z0, h0, hx0, w0⟩ := DataW.trod_int Try.underlying3 ht
      subst h0
      refine ⟨z0, fun j u hu => ?_, trivial⟩
      have hj := (List.getElem?_eq_some_iff.1 hu).1
      rw [← Go.Deep.add_add, hcell j hj]
      exact hu
    obtain ⟨zs, h1, h2, h3⟩ := run_rows 1 (by decide) (fun z => [Value.int .i64 z]) (fun _ => rfl) (fun _ => True) hl each
    subst h1
    rw [intL_flat] at h2
    exact ⟨zs, h2, by unfold maxLen at hm; omega⟩
instance : Inhabited Msg := ⟨noMsg⟩
theorem len11 {α : Type} : ∀ {l : List α}, l.length = 11 → ∃ a b c d e f g h i j k, l = [a, b, c, d, e, f, g, h, i, j, k]
  | [a, b, c, d, e, f, g, h, i, j, k], _ => ⟨a, b, c, d, e, f, g, h, i, j, k, rfl⟩
/-- what the arguments' widths tell of a message -/
def WideX (x : X) : Prop := x.1.l.length ≤ 9223372036854775807 ∧ x.1.es.length ≤ 9223372036854775807 ∧ x.1.d.size ≤ 281474976710656 ∧ ∀ e ∈ x.1.es, e.2.size ≤ 281474976710656
theorem read_msgs6 {fuel : Nat} {v : Value} {y : DataW H × List MemPlace} (h : DataW.trod enc Try.prog W 0 (fun _ => true) true fuel 29 [v] = some y)
    (hz : ∀ n ∈ DataW.weights Try.prog 29 y.1, n ≤ reachBytes) : ∃ xs : List X, MsgsIn (fun k => k < W.heap.size) W v xs ∧ xs.length ≤ 9223372036854775807 ∧ ∀ x ∈ xs, WideX x := by
  have hrb := reachBytes_lt
  rcases open_slice Try.underlying29 h with ⟨hcs, hx⟩ | ⟨a, len, cap, m, n, D, Pl, hcs, _, hl, hm, hmm, hx, hel⟩
  · simp only [List.cons.injEq, and_true] at hcs
    subst hcs
    exact ⟨[], ⟨Run.nil _ _ _, fun x hx => by cases hx⟩, by simp, by simp⟩
  · simp only [List.cons.injEq, and_true] at hcs
    subst hcs
    have hce : Try.prog.cellsOf 38 = 11 := by kernel_rfl
    rw [hce] at hel
    simp only [if_true] at hmm
    rw [hmm] at hel hx
    clear hmm
    have hxd : y.1 = .slice ((List.range len).map D) ((List.range (cap - len)).map fun j => D (len + j)) := congrArg Prod.fst hx
    have each : ∀ i, i < len → ∃ x : X, (∀ j u, (x.1.list x.2.1 x.2.2)[j]? = some u → W.cell? (a.add (i * 11 + j)) = some u) ∧ LI (fun k => k < W.heap.size) W x.1 x.2.1 x.2.2 ∧ WideX x := by
      intro i hi
      obtain ⟨cs, hcs, ht⟩ := hel i (by omega)
      obtain ⟨_, hlen, hcell⟩ := World.cells?_some hcs
      obtain ⟨xs, k, _, hD, _, hxl, hfld⟩ := DataW.trod_struct Try.underlying38 ht
      have hDi : D i = .agg (xs.map (·.1)) := congrArg Prod.fst hD
      have hw : ∀ q ∈ (D i).weights Try.prog 38, q ≤ reachBytes := fun q hq => by
        refine hz q ?_
        rw [hxd]
        simp only [DataW.weights, Try.underlying29, List.mem_cons, List.mem_append]
        exact .inr (.inl (mem_all (d := D i) (List.mem_map.2 ⟨i, List.mem_range.2 hi, rfl⟩) q hq))
      obtain ⟨y0, y1, y2, y3, y4, y5, y6, y7, y8, y9, y10, rfl⟩ := len11 (l := xs) hxl
      obtain ⟨v0, v1, v2, v3, v4, v5, v6, v7, v8, v9, v10, rfl⟩ := len11 hlen
      have ek : Try.prog.cellsOf 34 = 1 := by kernel_rfl
      have e3 : Try.prog.cellsOf 3 = 1 := by kernel_rfl
      have e4 : Try.prog.cellsOf 4 = 1 := by kernel_rfl
      have e5 : Try.prog.cellsOf 35 = 1 := by kernel_rfl
      have e6 : Try.prog.cellsOf 36 = 1 := by kernel_rfl
      have e9 : Try.prog.cellsOf 9 = 1 := by kernel_rfl
      have g0 : DataW.trod enc Try.prog W 0 (fun _ => true) true k 34 [v0] = some y0 := by simpa [ek, e3, e4, e5, e6, e9] using hfld 0 _ rfl
      have g1 : DataW.trod enc Try.prog W 0 (fun _ => true) true k 3 [v1] = some y1 := by simpa [ek, e3, e4, e5, e6, e9] using hfld 1 _ rfl
      have g2 : DataW.trod enc Try.prog W 0 (fun _ => true) true k 3 [v2] = some y2 := by simpa [ek, e3, e4, e5, e6, e9] using hfld 2 _ rfl
      have g3 : DataW.trod enc Try.prog W 0 (fun _ => true) true k 3 [v3] = some y3 := by simpa [ek, e3, e4, e5, e6, e9] using hfld 3 _ rfl
      have g4 : DataW.trod enc Try.prog W 0 (fun _ => true) true k 3 [v4] = some y4 := by simpa [ek, e3, e4, e5, e6, e9] using hfld 4 _ rfl
      have g5 : DataW.trod enc Try.prog W 0 (fun _ => true) true k 3 [v5] = some y5 := by simpa [ek, e3, e4, e5, e6, e9] using hfld 5 _ rfl
      have g6 : DataW.trod enc Try.prog W 0 (fun _ => true) true k 3 [v6] = some y6 := by simpa [ek, e3, e4, e5, e6, e9] using hfld 6 _ rfl
      have g7 : DataW.trod enc Try.prog W 0 (fun _ => true) true k 4 [v7] = some y7 := by simpa [ek, e3, e4, e5, e6, e9] using hfld 7 _ rfl
      have g8 : DataW.trod enc Try.prog W 0 (fun _ => true) true k 35 [v8] = some y8 := by simpa [ek, e3, e4, e5, e6, e9] using hfld 8 _ rfl
      have g9 : DataW.trod enc Try.prog W 0 (fun _ => true) true k 36 [v9] = some y9 := by simpa [ek, e3, e4, e5, e6, e9] using hfld 9 _ rfl
      have g10 : DataW.trod enc Try.prog W 0 (fun _ => true) true k 9 [v10] = some y10 := by simpa [ek, e3, e4, e5, e6, e9] using hfld 10 _ rfl
      obtain ⟨z0, h0, hx0, w0⟩ := DataW.trod_int Try.underlying34 g0
      obtain ⟨z1, h1, hx1, w1⟩ := DataW.trod_int Try.underlying3 g1
      obtain ⟨z2, h2, hx2, w2⟩ := DataW.trod_int Try.underlying3 g2
      obtain ⟨z3, h3, hx3, w3⟩ := DataW.trod_int Try.underlying3 g3
      obtain ⟨z4, h4, hx4, w4⟩ := DataW.trod_int Try.underlying3 g4
      obtain ⟨z5, h5, hx5, w5⟩ := DataW.trod_int Try.underlying3 g5
      obtain ⟨z6, h6, hx6, w6⟩ := DataW.trod_int Try.underlying3 g6
      obtain ⟨z7, h7, hx7⟩ := DataW.trod_bool Try.underlying4 g7
      obtain ⟨z10, h10, hx10, w10⟩ := DataW.trod_string Try.underlying9 g10
      simp only [List.cons.injEq, and_true] at h0 h1 h2 h3 h4 h5 h6 h7 h10
      subst h0 h1 h2 h3 h4 h5 h6 h7 h10
      have hwe : ∀ (j : Nat) t y, [34, 3, 3, 3, 3, 3, 3, 4, 35, 36, 9][j]? = some t → [y0.1, y1.1, y2.1, y3.1, y4.1, y5.1, y6.1, y7.1, y8.1, y9.1, y10.1][j]? = some y → ∀ q ∈ DataW.weights Try.prog t y, q ≤ reachBytes := by
        intro j t y ht hy q hq
        refine hw q ?_
        rw [hDi]
        have := DataW.weights_mem_each ht hy q hq
        simpa [DataW.weights, Try.underlying38] using this
      have b10 := hwe 10 9 y10.1 rfl rfl z10.data.toList.length (by rw [hx10]; simp [DataW.weights])
      rw [← Lib.size_eq] at b10
      obtain ⟨zl, hl1, hl2⟩ := read_ints6 g8
      obtain ⟨es, he1, he2, he3⟩ := read_ents6 g9 (hwe 9 _ y9.1 rfl rfl)
      refine ⟨(⟨z0, z1, z2, z3, z4, z5, z6, z7, zl, es, z10⟩, v8, v9), fun j u hu => ?_, ⟨hl1, he1⟩, hl2, he2, by show z10.size ≤ _; omega, he3⟩
      have hj := (List.getElem?_eq_some_iff.1 hu).1
      rw [← Go.Deep.add_add, hcell j hj]
      exact hu
    obtain ⟨xs, h1, h2, h3⟩ := run_rows 11 (by decide) (fun x : X => x.1.list x.2.1 x.2.2) (fun _ => rfl) (fun x => LI (fun k => k < W.heap.size) W x.1 x.2.1 x.2.2 ∧ WideX x) hl each
    subst h1
    exact ⟨xs, ⟨h2, fun x hx => (h3 x hx).1⟩, by unfold maxLen at hm; omega, fun x hx => (h3 x hx).2⟩
instance : Inhabited ActV := ⟨⟨0, 0, .slice none 0 0, []⟩⟩
theorem len3 {α : Type} : ∀ {l : List α}, l.length = 3 → ∃ a b c, l = [a, b, c]
  | [a, b, c], _ => ⟨a, b, c, rfl⟩
def WideA (a : ActV) : Prop := 0 ≤ a.k ∧ a.n ≤ 9223372036854775807 ∧ a.xs.length ≤ 9223372036854775807 ∧ ∀ x ∈ a.xs, WideX x
theorem read_acts6 {fuel : Nat} {v : Value} {y : DataW H × List MemPlace} (h : DataW.trod enc Try.prog W 0 (fun _ => true) true fuel 22 [v] = some y)
    (hz : ∀ n ∈ DataW.weights Try.prog 22 y.1, n ≤ reachBytes) : ∃ l : List ActV, ActsIn (fun k => k < W.heap.size) W v l ∧ l.length ≤ 9223372036854775807 ∧ ∀ a ∈ l, WideA a := by
  rcases open_slice Try.underlying22 h with ⟨hcs, hx⟩ | ⟨a, len, cap, m, n, D, Pl, hcs, _, hl, hm, hmm, hx, hel⟩
  · simp only [List.cons.injEq, and_true] at hcs
    subst hcs
    exact ⟨[], ⟨Run.nil _ _ _, fun x hx => by cases hx⟩, by simp, by simp⟩
  · simp only [List.cons.injEq, and_true] at hcs
    subst hcs
    have hce : Try.prog.cellsOf 31 = 3 := by kernel_rfl
    rw [hce] at hel
    simp only [if_true] at hmm
    rw [hmm] at hel hx
    clear hmm
    have hxd : y.1 = .slice ((List.range len).map D) ((List.range (cap - len)).map fun j => D (len + j)) := congrArg Prod.fst hx
    have each : ∀ i, i < len → ∃ x : ActV, (∀ j u, ([Value.int .u8 x.k, .int .i64 x.n, x.lv] : List Value)[j]? = some u → W.cell? (a.add (i * 3 + j)) = some u) ∧ MsgsIn (fun k => k < W.heap.size) W x.lv x.xs ∧ WideA x := by
      intro i hi
      obtain ⟨cs, hcs, ht⟩ := hel i (by omega)
      obtain ⟨_, hlen, hcell⟩ := World.cells?_some hcs
      obtain ⟨xs, k, _, hD, _, hxl, hfld⟩ := DataW.trod_struct Try.underlying31 ht
      have hDi : D i = .agg (xs.map (·.1)) := congrArg Prod.fst hD
      have hw : ∀ q ∈ (D i).weights Try.prog 31, q ≤ reachBytes := fun q hq => by
        refine hz q ?_
        rw [hxd]
        simp only [DataW.weights, Try.underlying22, List.mem_cons, List.mem_append]
        exact .inr (.inl (mem_all (d := D i) (List.mem_map.2 ⟨i, List.mem_range.2 hi, rfl⟩) q hq))
      obtain ⟨y0, y1, y2, rfl⟩ := len3 (l := xs) hxl
      obtain ⟨v0, v1, v2, rfl⟩ := len3 hlen
      have e5 : Try.prog.cellsOf 5 = 1 := by kernel_rfl
      have e3 : Try.prog.cellsOf 3 = 1 := by kernel_rfl
      have e2 : Try.prog.cellsOf 29 = 1 := by kernel_rfl
      have g0 : DataW.trod enc Try.prog W 0 (fun _ => true) true k 5 [v0] = some y0 := by simpa [e5] using hfld 0 _ rfl
      have g1 : DataW.trod enc Try.prog W 0 (fun _ => true) true k 3 [v1] = some y1 := by simpa [e3] using hfld 1 _ rfl
      have g2 : DataW.trod enc Try.prog W 0 (fun _ => true) true k 29 [v2] = some y2 := by simpa [e2] using hfld 2 _ rfl
      obtain ⟨z0, h0, hx0, w0⟩ := DataW.trod_int Try.underlying5 g0
      obtain ⟨z1, h1, hx1, w1⟩ := DataW.trod_int Try.underlying3 g1
      simp only [List.cons.injEq, and_true] at h0 h1
      subst h0 h1
      have hwe : ∀ (j : Nat) t y, [5, 3, 29][j]? = some t → [y0.1, y1.1, y2.1][j]? = some y → ∀ q ∈ DataW.weights Try.prog t y, q ≤ reachBytes := by
        intro j t y ht hy q hq
        refine hw q ?_
        rw [hDi]
        have := DataW.weights_mem_each ht hy q hq
        simpa [DataW.weights, Try.underlying31] using this
      obtain ⟨xs, hm1, hm2, hm3⟩ := read_msgs6 g2 (hwe 2 _ y2.1 rfl rfl)
      have n0 := bounds_u8 w0
      have n1 := bounds_i64 w1
      refine ⟨⟨z0, z1, v2, xs⟩, fun j u hu => ?_, hm1, n0.1, n1.2, hm2, hm3⟩
      have hj := (List.getElem?_eq_some_iff.1 hu).1
      rw [← Go.Deep.add_add, hcell j hj]
      exact hu
    obtain ⟨l, h1, h2, h3⟩ := run_rows 3 (by decide) (fun x : ActV => [Value.int .u8 x.k, .int .i64 x.n, x.lv]) (fun _ => rfl) (fun x => MsgsIn (fun k => k < W.heap.size) W x.lv x.xs ∧ WideA x) hl each
    subst h1
    exact ⟨l, ⟨h2, fun x hx => (h3 x hx).1⟩, by unfold maxLen at hm; omega, fun x hx => (h3 x hx).2⟩
end
end Go.Proofs.Ytheldpdckgoniaa
