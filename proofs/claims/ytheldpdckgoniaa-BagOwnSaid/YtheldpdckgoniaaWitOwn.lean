/- A message among the arguments, by value. -/
import Derived.Test.YtheldpdckgoniaaWit
namespace Go.Proofs.Ytheldpdckgoniaa
open Go.ChangeShapes Go.WideShapes Go.RowKit
open Go.ChangeMaps (open_string shut_string)
open Go.Deep (open_slice choose_lt)

section
variable {H : Type} {enc : TypeId × Value → H} {W : World}
theorem read_msg1 {v : Value} {d : DataW H} {ps : List MemPlace} (h : DataW.Trod enc Try.prog W 0 (fun _ => true) true 38 v d ps) (hv : ∃ cs, v = .agg cs ∧ cs.size = Try.prog.cellsOf 38)
    (hz : ∀ n ∈ d.weights Try.prog 38, n ≤ reachBytes) : ∃ x : X, v = x.1.agg x.2.1 x.2.2 ∧ LI (fun k => k < W.heap.size) W x.1 x.2.1 x.2.2 ∧ WideX x := by
  have hrb := reachBytes_lt
  obtain ⟨cs, rfl, hsz⟩ := hv
  have hce : Try.prog.cellsOf 38 = 11 := by kernel_rfl
  rw [hce] at hsz
  obtain ⟨fuel, ht⟩ := h
  have hlen : cs.toList.length = 11 := by simpa using hsz
  obtain ⟨xs, k, _, hD, _, hxl, hfld⟩ := DataW.trod_struct Try.underlying38 ht
  have hDi : d = .agg (xs.map (·.1)) := congrArg Prod.fst hD
  have hw : ∀ q ∈ d.weights Try.prog 38, q ≤ reachBytes := hz
  obtain ⟨y0, y1, y2, y3, y4, y5, y6, y7, y8, y9, y10, rfl⟩ := len11 (l := xs) hxl
  obtain ⟨v0, v1, v2, v3, v4, v5, v6, v7, v8, v9, v10, hcl⟩ := len11 hlen
  have hcl2 : (Value.agg cs).cells.toList = [v0, v1, v2, v3, v4, v5, v6, v7, v8, v9, v10] := hcl
  rw [hcl2] at hfld
  have ek : Try.prog.cellsOf 34 = 1 := by kernel_rfl
  have e3 : Try.prog.cellsOf 3 = 1 := by kernel_rfl
  have e4 : Try.prog.cellsOf 4 = 1 := by kernel_rfl
  have e5 : Try.prog.cellsOf 35 = 1 := by kernel_rfl
  have e6 : Try.prog.cellsOf 36 = 1 := by kernel_rfl
  have e9 : Try.prog.cellsOf 9 = 1 := by kernel_rfl
  have g0 : DataW.trod enc Try.prog W 0 (fun _ => true) true k 34 [v0] = some y0 := by simpa [ek, e3, e4, e5, e6, e9] using hfld 0 _ rfl
  have g1 : DataW.trod enc Try.prog W 0 (fun _ => true) true k 3 [v1] = some y1 := by simpa [ek, e3, e4, e5, e6, e9] using hfld 1 _ rfl
  have g2 : DataW.trod enc Try.prog W 0 (fun _ => true) true k 3 [v2] = some y2 := by simpa [ek, e3, e4, e5, e6, e9] using hfld 2 _ rfl
  have g3 : DataW.trod enc Try.prog W 0 (fun _ => true) true k 3 [v3] = some y3 := by simpa [ek, e3, e4, e5, e6, e9] using hfld 3 _ rfl
  have g4 : DataW.trod enc Try.prog W 0 (fun _ => true) true k 3 [v4] = some y4 := by simpa [ek, e3, e4, e5, e6, e9] using hfld 4 _ rfl
  have g5 : DataW.trod enc Try.prog W 0 (fun _ => true) true k 3 [v5] = some y5 := by simpa [ek, e3, e4, e5, e6, e9] using hfld 5 _ rfl
  have g6 : DataW.trod enc Try.prog W 0 (fun _ => true) true k 3 [v6] = some y6 := by simpa [ek, e3, e4, e5, e6, e9] using hfld 6 _ rfl
  have g7 : DataW.trod enc Try.prog W 0 (fun _ => true) true k 4 [v7] = some y7 := by simpa [ek, e3, e4, e5, e6, e9] using hfld 7 _ rfl
  have g8 : DataW.trod enc Try.prog W 0 (fun _ => true) true k 35 [v8] = some y8 := by simpa [ek, e3, e4, e5, e6, e9] using hfld 8 _ rfl
  have g9 : DataW.trod enc Try.prog W 0 (fun _ => true) true k 36 [v9] = some y9 := by simpa [ek, e3, e4, e5, e6, e9] using hfld 9 _ rfl
  have g10 : DataW.trod enc Try.prog W 0 (fun _ => true) true k 9 [v10] = some y10 := by simpa [ek, e3, e4, e5, e6, e9] using hfld 10 _ rfl
  obtain ⟨z0, h0, hx0, w0⟩ := DataW.trod_int Try.underlying34 g0
  obtain ⟨z1, h1, hx1, w1⟩ := DataW.trod_int Try.underlying3 g1
  obtain ⟨z2, h2, hx2, w2⟩ := DataW.trod_int Try.underlying3 g2
  obtain ⟨z3, h3, hx3, w3⟩ := DataW.trod_int Try.underlying3 g3
  obtain ⟨z4, h4, hx4, w4⟩ := DataW.trod_int Try.underlying3 g4
  obtain ⟨z5, h5, hx5, w5⟩ := DataW.trod_int Try.underlying3 g5
  obtain ⟨z6, h6, hx6, w6⟩ := DataW.trod_int Try.underlying3 g6
  obtain ⟨z7, h7, hx7⟩ := DataW.trod_bool Try.underlying4 g7
  obtain ⟨z10, h10, hx10, w10⟩ := DataW.trod_string Try.underlying9 g10
  simp only [List.cons.injEq, and_true] at h0 h1 h2 h3 h4 h5 h6 h7 h10
  subst h0 h1 h2 h3 h4 h5 h6 h7 h10
  have hwe : ∀ (j : Nat) t y, [34, 3, 3, 3, 3, 3, 3, 4, 35, 36, 9][j]? = some t → [y0.1, y1.1, y2.1, y3.1, y4.1, y5.1, y6.1, y7.1, y8.1, y9.1, y10.1][j]? = some y → ∀ q ∈ DataW.weights Try.prog t y, q ≤ reachBytes := by
    intro j t y ht hy q hq
    refine hw q ?_
    rw [hDi]
    have := DataW.weights_mem_each ht hy q hq
    simpa [DataW.weights, Try.underlying38] using this
  have b10 := hwe 10 9 y10.1 rfl rfl z10.data.toList.length (by rw [hx10]; simp [DataW.weights])
  rw [← Lib.size_eq] at b10
  obtain ⟨zl, hl1, hl2⟩ := read_ints6 g8
  obtain ⟨es, he1, he2, he3⟩ := read_ents6 g9 (hwe 9 _ y9.1 rfl rfl)
  have hcs : cs = #[.int .u8 z0, .int .i64 z1, .int .i64 z2, .int .i64 z3, .int .i64 z4, .int .i64 z5, .int .i64 z6, .bool z7, v8, v9, .string z10] := by rw [← Array.toArray_toList (xs := cs), hcl]
  exact ⟨(⟨z0, z1, z2, z3, z4, z5, z6, z7, zl, es, z10⟩, v8, v9), by rw [hcs], ⟨hl1, he1⟩, hl2, he2, by show z10.size ≤ _; omega, he3⟩
end
end Go.Proofs.Ytheldpdckgoniaa
