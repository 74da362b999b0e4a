/- What every law of this layer needs of its row: the witness's world; arguments read. -/
import Derived.Test.YtckbbakajabhmaaHad
import Derived.Test.YtckbbakajabhmaaRows
import Derived.Deep.Slices
import Derived.Deep.DeepHandedRow
import Derived.Deep.DeepWitnessRowRef
import Derived.ProofKit
import Derived.OpenShut
import Derived.SizedLaws
import Derived.SliceStrings
import Derived.Carry
namespace Go.Proofs.Ytckbbakajabhmaa
open Go.ChangeShapes Go.WideShapes Go.ChangeAt Go.RowKit
open Go.ChangeMaps (open_string shut_string)
open Go.Deep (open_slice choose_lt)

theorem own : ownKnob Try.prog.godebug = none := by kernel_rfl
theorem laidOut : laidOutB Try.prog = true := by kernel_rfl
noncomputable def laidWorld (os : Os) : World := World.holding Try.prog os ⟨#[], #[], []⟩
theorem laid_met (w : World) : laidMet Try.prog [] w := ⟨[], by first | trivial | rfl, List.nodup_nil, fun _ _ h => by cases h⟩
theorem flat_get {α : Type} (sz : Nat) (cell : α → List Value) (hc : ∀ x, (cell x).length = sz) : ∀ (l : List α) (j : Nat) (u : Value), (l.flatMap cell)[j]? = some u → ∃ (i r : Nat) (x : α), l[i]? = some x ∧ j = i * sz + r ∧ (cell x)[r]? = some u
  | [], j, u, h => by simp at h
  | p :: t, j, u, h => by
    simp only [List.flatMap_cons] at h
    by_cases hj : j < sz
    · rw [List.getElem?_append_left (by rw [hc]; exact hj)] at h
      exact ⟨0, j, p, rfl, by omega, h⟩
    · rw [List.getElem?_append_right (by rw [hc]; omega), hc] at h
      obtain ⟨i, r, x, h1, h2, h3⟩ := flat_get sz cell hc t (j - sz) u h
      exact ⟨i + 1, r, x, by simpa using h1, by rw [Nat.add_mul]; omega, h3⟩
theorem run_rows {α : Type} [Inhabited α] {W : World} (sz : Nat) (hsz : 0 < sz) (cell : α → List Value) (hc : ∀ x, (cell x).length = sz) (Q : α → Prop) {a : Addr} {len cap : Nat} (hl : len ≤ cap)
    (h : ∀ i, i < len → ∃ x, (∀ j u, (cell x)[j]? = some u → W.cell? (a.add (i * sz + j)) = some u) ∧ Q x) : ∃ l : List α, len = l.length ∧ Run (fun k => k < W.heap.size) W (.slice (some a) len cap) len (l.flatMap cell) ∧ ∀ x ∈ l, Q x := by
  obtain ⟨X, hX⟩ := choose_lt h
  refine ⟨(List.range len).map X, by simp, ⟨some a, cap, rfl, hl, (fun e => by cases e), ?_⟩, fun x hx => ?_⟩
  · by_cases h0 : len = 0
    · left; subst h0; rfl
    · right
      obtain ⟨b, off, spot⟩ := a
      obtain ⟨u0, hu0⟩ : ∃ u, (cell (X 0))[0]? = some u := ⟨_, List.getElem?_eq_getElem (by rw [hc]; exact hsz)⟩
      have h00 := (hX 0 (by omega)).1 0 u0 hu0
      have hspot : spot = none := by simpa [Addr.add] using World.cell?_spot h00
      subst hspot
      have hadd : ∀ j, (⟨b, off, none⟩ : Addr).add j = ⟨b, off + j, none⟩ := fun j => by
        unfold Addr.add
        by_cases h : j = 0
        · subst h; simp
        · simp [h]
      have hlt : b < W.heap.size := by
        rw [hadd] at h00
        exact World.block_lt_of_cell? W _ h00
      refine ⟨b, off, rfl, hlt, hlt, fun j u hu => ?_⟩
      obtain ⟨i, r, x, h1, rfl, h3⟩ := flat_get sz cell hc _ j u hu
      have hi : i < len := by have := (List.getElem?_eq_some_iff.1 h1).1; simpa using this
      have hxe : x = X i := by
        rw [List.getElem?_map, List.getElem?_range hi] at h1
        exact (Option.some.inj h1).symm
      subst hxe
      have := (hX i hi).1 r u h3
      rw [hadd] at this
      exact this
  · obtain ⟨i, hi, rfl⟩ := List.mem_map.1 hx
    exact (hX i (List.mem_range.1 hi)).2
section
variable {H : Type} {enc : TypeId × Value → H} {P : Program} {w : World} {base : Nat} {spare : Nat → Bool} {held : Bool}
theorem trodAll_five {t0 t1 t2 t3 t4 : TypeId} {args : Array Value} {ds : List (DataW H)} {ps : List MemPlace} (h : DataW.TrodAll enc P w base spare held [t0, t1, t2, t3, t4] args.toList ds ps) :
    ∃ v0 v1 v2 v3 v4 d0 d1 d2 d3 d4 p0 p1 p2 p3 p4, args = #[v0, v1, v2, v3, v4] ∧ ds = [d0, d1, d2, d3, d4] ∧ ps = p0 ++ p1 ++ p2 ++ p3 ++ p4 ∧ DataW.Trod enc P w base spare held t0 v0 d0 p0 ∧ DataW.Trod enc P w base spare held t1 v1 d1 p1 ∧ DataW.Trod enc P w base spare held t2 v2 d2 p2 ∧ DataW.Trod enc P w base spare held t3 v3 d3 p3 ∧ DataW.Trod enc P w base spare held t4 v4 d4 p4 := by
  obtain ⟨v0, vs0, d0, ds0, p0, q0, hargs, rfl, rfl, h0, r0⟩ := trodAll_cons h
  obtain ⟨v1, vs1, d1, ds1, p1, q1, rfl, rfl, rfl, h1, r1⟩ := trodAll_cons r0
  obtain ⟨v2, vs2, d2, ds2, p2, q2, rfl, rfl, rfl, h2, r2⟩ := trodAll_cons r1
  obtain ⟨v3, vs3, d3, ds3, p3, q3, rfl, rfl, rfl, h3, r3⟩ := trodAll_cons r2
  obtain ⟨v4, vs4, d4, ds4, p4, q4, rfl, rfl, rfl, h4, r4⟩ := trodAll_cons r3
  obtain ⟨rfl, rfl, rfl⟩ := trodAll_nil r4
  exact ⟨v0, v1, v2, v3, v4, d0, d1, d2, d3, d4, p0, p1, p2, p3, p4, by cases args; simp_all, rfl, by simp, h0, h1, h2, h3, h4⟩
theorem trodAll_six {t0 t1 t2 t3 t4 t5 : TypeId} {args : Array Value} {ds : List (DataW H)} {ps : List MemPlace} (h : DataW.TrodAll enc P w base spare held [t0, t1, t2, t3, t4, t5] args.toList ds ps) :
    ∃ v0 v1 v2 v3 v4 v5 d0 d1 d2 d3 d4 d5 p0 p1 p2 p3 p4 p5, args = #[v0, v1, v2, v3, v4, v5] ∧ ds = [d0, d1, d2, d3, d4, d5] ∧ ps = p0 ++ p1 ++ p2 ++ p3 ++ p4 ++ p5 ∧ DataW.Trod enc P w base spare held t0 v0 d0 p0 ∧ DataW.Trod enc P w base spare held t1 v1 d1 p1 ∧ DataW.Trod enc P w base spare held t2 v2 d2 p2 ∧ DataW.Trod enc P w base spare held t3 v3 d3 p3 ∧ DataW.Trod enc P w base spare held t4 v4 d4 p4 ∧ DataW.Trod enc P w base spare held t5 v5 d5 p5 := by
  obtain ⟨v0, vs0, d0, ds0, p0, q0, hargs, rfl, rfl, h0, r0⟩ := trodAll_cons h
  obtain ⟨v1, vs1, d1, ds1, p1, q1, rfl, rfl, rfl, h1, r1⟩ := trodAll_cons r0
  obtain ⟨v2, vs2, d2, ds2, p2, q2, rfl, rfl, rfl, h2, r2⟩ := trodAll_cons r1
  obtain ⟨v3, vs3, d3, ds3, p3, q3, rfl, rfl, rfl, h3, r3⟩ := trodAll_cons r2
  obtain ⟨v4, vs4, d4, ds4, p4, q4, rfl, rfl, rfl, h4, r4⟩ := trodAll_cons r3
  obtain ⟨v5, vs5, d5, ds5, p5, q5, rfl, rfl, rfl, h5, r5⟩ := trodAll_cons r4
  obtain ⟨rfl, rfl, rfl⟩ := trodAll_nil r5
  exact ⟨v0, v1, v2, v3, v4, v5, d0, d1, d2, d3, d4, d5, p0, p1, p2, p3, p4, p5, by cases args; simp_all, rfl, by simp, h0, h1, h2, h3, h4, h5⟩
theorem trodAll_nine {t0 t1 t2 t3 t4 t5 t6 t7 t8 : TypeId} {args : Array Value} {ds : List (DataW H)} {ps : List MemPlace} (h : DataW.TrodAll enc P w base spare held [t0, t1, t2, t3, t4, t5, t6, t7, t8] args.toList ds ps) :
    ∃ v0 v1 v2 v3 v4 v5 v6 v7 v8 d0 d1 d2 d3 d4 d5 d6 d7 d8 p0 p1 p2 p3 p4 p5 p6 p7 p8, args = #[v0, v1, v2, v3, v4, v5, v6, v7, v8] ∧ ds = [d0, d1, d2, d3, d4, d5, d6, d7, d8] ∧ ps = p0 ++ p1 ++ p2 ++ p3 ++ p4 ++ p5 ++ p6 ++ p7 ++ p8 ∧ DataW.Trod enc P w base spare held t0 v0 d0 p0 ∧ DataW.Trod enc P w base spare held t1 v1 d1 p1 ∧ DataW.Trod enc P w base spare held t2 v2 d2 p2 ∧ DataW.Trod enc P w base spare held t3 v3 d3 p3 ∧ DataW.Trod enc P w base spare held t4 v4 d4 p4 ∧ DataW.Trod enc P w base spare held t5 v5 d5 p5 ∧ DataW.Trod enc P w base spare held t6 v6 d6 p6 ∧ DataW.Trod enc P w base spare held t7 v7 d7 p7 ∧ DataW.Trod enc P w base spare held t8 v8 d8 p8 := by
  obtain ⟨v0, vs0, d0, ds0, p0, q0, hargs, rfl, rfl, h0, r0⟩ := trodAll_cons h
  obtain ⟨v1, vs1, d1, ds1, p1, q1, rfl, rfl, rfl, h1, r1⟩ := trodAll_cons r0
  obtain ⟨v2, vs2, d2, ds2, p2, q2, rfl, rfl, rfl, h2, r2⟩ := trodAll_cons r1
  obtain ⟨v3, vs3, d3, ds3, p3, q3, rfl, rfl, rfl, h3, r3⟩ := trodAll_cons r2
  obtain ⟨v4, vs4, d4, ds4, p4, q4, rfl, rfl, rfl, h4, r4⟩ := trodAll_cons r3
  obtain ⟨v5, vs5, d5, ds5, p5, q5, rfl, rfl, rfl, h5, r5⟩ := trodAll_cons r4
  obtain ⟨v6, vs6, d6, ds6, p6, q6, rfl, rfl, rfl, h6, r6⟩ := trodAll_cons r5
  obtain ⟨v7, vs7, d7, ds7, p7, q7, rfl, rfl, rfl, h7, r7⟩ := trodAll_cons r6
  obtain ⟨v8, vs8, d8, ds8, p8, q8, rfl, rfl, rfl, h8, r8⟩ := trodAll_cons r7
  obtain ⟨rfl, rfl, rfl⟩ := trodAll_nil r8
  exact ⟨v0, v1, v2, v3, v4, v5, v6, v7, v8, d0, d1, d2, d3, d4, d5, d6, d7, d8, p0, p1, p2, p3, p4, p5, p6, p7, p8, by cases args; simp_all, rfl, by simp, h0, h1, h2, h3, h4, h5, h6, h7, h8⟩
end
/-- an act -/
structure ActT where
  k : Int
  key : Int
  n : Int
  w : Int
instance : Inhabited ActT := ⟨⟨0, 0, 0, 0⟩⟩
def actL (a : ActT) : List Value := [.int .u8 a.k, .int .i64 a.key, .int .i64 a.n, .int .i64 a.w]
def WideT (a : ActT) : Prop := (0 ≤ a.k ∧ a.k ≤ 255) ∧ I64 a.key ∧ I64 a.n ∧ I64 a.w
section
variable {H : Type} {enc : TypeId × Value → H} {W : World}
theorem mem_all {P : Program} {e : TypeId} : ∀ {l : List (DataW H)} {d : DataW H}, d ∈ l → ∀ n ∈ d.weights P e, n ∈ DataW.weightsAll P e l
  | x :: r, d, h, n, hn => by
    simp only [DataW.weightsAll, List.mem_append]
    rcases List.mem_cons.1 h with rfl | h
    · exact .inl hn
    · exact .inr (mem_all h n hn)
theorem intL_flat (l : List Int) : l.flatMap (fun z => [Value.int .i64 z]) = intsC l := by
  induction l with
  | nil => rfl
  | cons p t ih => simp only [List.flatMap_cons, ih]; rfl
theorem len4 {α : Type} : ∀ {l : List α}, l.length = 4 → ∃ a b c d, l = [a, b, c, d]
  | [a, b, c, d], _ => ⟨a, b, c, d, rfl⟩
theorem read_ints7 {fuel : Nat} {v : Value} {y : DataW H × List MemPlace} (h : DataW.trod enc Try.prog W 0 (fun _ => true) true fuel 22 [v] = some y) : ∃ zs : List Int, Run (fun k => k < W.heap.size) W v zs.length (intsC zs) ∧ zs.length ≤ 9223372036854775807 ∧ ∀ x ∈ zs, I64 x := by
  rcases open_slice Try.underlying22 h with ⟨hcs, hx⟩ | ⟨a, len, cap, m, n, D, Pl, hcs, _, hl, hm, hmm, hx, hel⟩
  · simp only [List.cons.injEq, and_true] at hcs
    subst hcs
    exact ⟨[], Run.nil _ _ _, by simp, by simp⟩
  · simp only [List.cons.injEq, and_true] at hcs
    subst hcs
    have hce : Try.prog.cellsOf 3 = 1 := by kernel_rfl
    rw [hce] at hel
    simp only [if_true] at hmm
    rw [hmm] at hel hx
    clear hmm
    have each : ∀ i, i < len → ∃ z : Int, (∀ j u, ([Value.int .i64 z] : List Value)[j]? = some u → W.cell? (a.add (i * 1 + j)) = some u) ∧ I64 z := by
      intro i hi
      obtain ⟨cs, hcs, ht⟩ := hel i (by omega)
      obtain ⟨_, hlen, hcell⟩ := World.cells?_some hcs
      obtain ⟨z0, h0, hx0, w0⟩ := DataW.trod_int Try.underlying3 ht
      subst h0
      refine ⟨z0, fun j u hu => ?_, i64_of w0⟩
      have hj := (List.getElem?_eq_some_iff.1 hu).1
      rw [← Go.Deep.add_add, hcell j hj]
      exact hu
    obtain ⟨zs, h1, h2, h3⟩ := run_rows 1 (by decide) (fun z => [Value.int .i64 z]) (fun _ => rfl) I64 hl each
    subst h1
    rw [intL_flat] at h2
    exact ⟨zs, h2, by unfold maxLen at hm; omega, h3⟩
theorem read_acts7' {fuel : Nat} {v : Value} {y : DataW H × List MemPlace} (h : DataW.trod enc Try.prog W 0 (fun _ => true) true fuel 31 [v] = some y) :
    ∃ l : List ActT, Run (fun k => k < W.heap.size) W v l.length (l.flatMap actL) ∧ l.length ≤ 9223372036854775807 ∧ ∀ a ∈ l, WideT a := by
  rcases open_slice Try.underlying31 h with ⟨hcs, hx⟩ | ⟨a, len, cap, m, n, D, Pl, hcs, _, hl, hm, hmm, hx, hel⟩
  · simp only [List.cons.injEq, and_true] at hcs
    subst hcs
    exact ⟨[], Run.nil _ _ _, by simp, by simp⟩
  · simp only [List.cons.injEq, and_true] at hcs
    subst hcs
    have hce : Try.prog.cellsOf 41 = 4 := by kernel_rfl
    rw [hce] at hel
    simp only [if_true] at hmm
    rw [hmm] at hel hx
    clear hmm
    have each : ∀ i, i < len → ∃ x : ActT, (∀ j u, (actL x)[j]? = some u → W.cell? (a.add (i * 4 + j)) = some u) ∧ WideT x := by
      intro i hi
      obtain ⟨cs, hcs, ht⟩ := hel i (by omega)
      obtain ⟨_, hlen, hcell⟩ := World.cells?_some hcs
      obtain ⟨xs, k, _, hD, _, hxl, hfld⟩ := DataW.trod_struct Try.underlying41 ht
      obtain ⟨y0, y1, y2, y3, rfl⟩ := len4 (l := xs) hxl
      obtain ⟨v0, v1, v2, v3, rfl⟩ := len4 hlen
      have e5 : Try.prog.cellsOf 5 = 1 := by kernel_rfl
      have e3 : Try.prog.cellsOf 3 = 1 := by kernel_rfl
      have g0 : DataW.trod enc Try.prog W 0 (fun _ => true) true k 5 [v0] = some y0 := by simpa [e5] using hfld 0 _ rfl
      have g1 : DataW.trod enc Try.prog W 0 (fun _ => true) true k 3 [v1] = some y1 := by simpa [e3] using hfld 1 _ rfl
      have g2 : DataW.trod enc Try.prog W 0 (fun _ => true) true k 3 [v2] = some y2 := by simpa [e3] using hfld 2 _ rfl
      have g3 : DataW.trod enc Try.prog W 0 (fun _ => true) true k 3 [v3] = some y3 := by simpa [e3] using hfld 3 _ rfl
      obtain ⟨z0, h0, hx0, w0⟩ := DataW.trod_int Try.underlying5 g0
      obtain ⟨z1, h1, hx1, w1⟩ := DataW.trod_int Try.underlying3 g1
      obtain ⟨z2, h2, hx2, w2⟩ := DataW.trod_int Try.underlying3 g2
      obtain ⟨z3, h3, hx3, w3⟩ := DataW.trod_int Try.underlying3 g3
      simp only [List.cons.injEq, and_true] at h0 h1 h2 h3
      subst h0 h1 h2 h3
      have n0 := bounds_u8 w0
      refine ⟨⟨z0, z1, z2, z3⟩, fun j u hu => ?_, ⟨n0.1, by have := n0.2; simp only; omega⟩, i64_of w1, i64_of w2, i64_of w3⟩
      have hj := (List.getElem?_eq_some_iff.1 hu).1
      rw [← Go.Deep.add_add, hcell j hj]
      exact hu
    obtain ⟨l, h1, h2, h3⟩ := run_rows 4 (by decide) actL (fun _ => rfl) WideT hl each
    subst h1
    exact ⟨l, h2, by unfold maxLen at hm; omega, h3⟩
theorem run_len {B : Nat → Prop} {va : Option Addr} {len cap n : Nat} {cells : List Value} (h : Run B W (.slice va len cap) n cells) : len = n := by
  obtain ⟨a, c, e, _⟩ := h
  cases e; rfl
theorem read_int7 {va : Option Addr} {len cap : Nat} {d : DataW H} {ps : List MemPlace} (h : DataW.Trod enc Try.prog W 0 (fun _ => true) true 22 (.slice va len cap) d ps) :
    ∃ l : List Int, len = l.length ∧ Run (fun k => k < W.heap.size) W (.slice va len cap) l.length (intsC l) ∧ l.length ≤ 9223372036854775807 ∧ ∀ x ∈ l, I64 x := by
  obtain ⟨fuel, hf⟩ := h
  obtain ⟨l, h1, h2, h3⟩ := read_ints7 hf
  exact ⟨l, run_len h1, h1, h2, h3⟩
theorem read_acts7 {va : Option Addr} {len cap : Nat} {d : DataW H} {ps : List MemPlace} (h : DataW.Trod enc Try.prog W 0 (fun _ => true) true 31 (.slice va len cap) d ps) :
    ∃ l : List ActT, len = l.length ∧ Run (fun k => k < W.heap.size) W (.slice va len cap) l.length (l.flatMap actL) ∧ l.length ≤ 9223372036854775807 ∧ ∀ a ∈ l, WideT a := by
  obtain ⟨fuel, hf⟩ := h
  obtain ⟨l, h1, h2, h3⟩ := read_acts7' hf
  exact ⟨l, run_len h1, h1, h2, h3⟩
end
end Go.Proofs.Ytckbbakajabhmaa
