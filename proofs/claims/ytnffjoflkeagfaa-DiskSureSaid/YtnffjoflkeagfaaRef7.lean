/- The document's disk: its files as runs of a row. -/
import Derived.Test.YtnffjoflkeagfaaRef6
import Derived.Laws.AppendOwnNone
namespace Go.Proofs.Ytnffjoflkeagfaa
open Go.RowKit Go.Maps

/-- what an append takes in -/
def SrcAt (w : World) (V : Value) (m : Nat) (cells : List Value) : Prop :=
  (V = .slice none 0 0 ∧ m = 0 ∧ cells = []) ∨ ∃ ad c, V = .slice (some ad) m c ∧ ∀ j u, cells[j]? = some u → w.cell? (ad.add j) = some u
theorem wpList_append_src {P : Program} {w : World} {ops : Array Oper} {rest : List Oper} {o : Oper} {a : Act} {Q : Exit → Act → World → Prop} (hgd : o.guard = none) (s x : Operand) (t : TypeId)
    (ho : o.op = .call { callee := .builtin .append, args := #[s, x], argTypes := #[t, t] })
    (base : Nat) (e : TypeId) (i : TypeInfo) (z : Value) (size bytes : Nat) (ht : P.underlying t = some (.slice e)) (hi : P.info? e = some i) (hz : i.zero = some z)
    (hsize : i.size = size) (hby : i.bytes = bytes) (hzs : z.cells.size = size) (hsz : 0 < size)
    (v : Value) (n : Nat) (xs : List Value) (hs : a.eval s = v) (hown : w.ownsRow base e size v n xs)
    (V : Value) (m : Nat) (news : List Value) (hx : a.eval x = V) (hsrc : SrcAt w V m news) (hl : news.length = m * size) (h1 : ∀ u ∈ news, u.oneCell' = true)
    (h63 : n + m ≤ maxLen) (hbytes : (n + m) * bytes ≤ 140737488355328) (hbase : base ≤ w.heap.size)
    (h : ∀ v' w', w'.ownsRow base e size v' (n + m) (xs ++ news) → w.grownBy w' v.ownBlock → wpList P ops Q rest (a.put o.dst v') w') :
    wpList P ops Q (o :: rest) a w := by
  rcases hsrc with ⟨rfl, rfl, rfl⟩ | ⟨ad, c, rfl, hc⟩
  · refine wpList_append_own_none hgd s x t ho base e i size ht hi v n xs hs hown hx (h v w (by simpa using hown) ⟨rfl, rfl, rfl, Nat.le_refl _, fun _ _ _ => rfl⟩)
  · exact wpList_append_own _ hgd s x t ho base e i z size bytes ht hi hz hsize hby hzs hsz v n xs hs hown ad m c news hx hl hc h1 h63 hbytes hbase (fun v' w' p1 p2 _ => h v' w' p1 p2)
theorem elem_ref : Try.prog.elem 37 = 73 := by kernel_rfl
theorem under_ref : Try.prog.underlying 37 = some (.slice (Try.prog.elem 37)) := by rw [elem_ref]; exact Try.underlying37
theorem refL_take : ∀ (fs : Fs) (i : Nat), refL (fs.take i) = (refL fs).take (i * 4)
  | [], i => by simp [refL]
  | p :: r, 0 => by simp [refL]
  | p :: r, i + 1 => by
    rw [List.take_succ_cons, refL_cons, refL_cons, refL_take r i, List.take_append, refC_len, List.take_of_length_le (i := (i + 1) * 4) (l := refC p) (by rw [refC_len]; omega)]
    congr 2
    omega
theorem refL_drop : ∀ (fs : Fs) (i : Nat), refL (fs.drop i) = (refL fs).drop (i * 4)
  | [], i => by simp [refL]
  | p :: r, 0 => by simp
  | p :: r, i + 1 => by
    rw [List.drop_succ_cons, refL_cons, refL_drop r i, List.drop_append, refC_len, List.drop_of_length_le (i := (i + 1) * 4) (l := refC p) (by rw [refC_len]; omega), List.nil_append]
    congr 1
    omega
section
variable {S : Nat → Prop} {w : World} {a : Option Addr} {n c : Nat} {fs : Fs}
theorem row_cells (h : RowIn S w (.slice a n c) fs) : (a = none ∧ n = 0 ∧ c = 0 ∧ fs = []) ∨ ∃ g, a = some ⟨g, 0, none⟩ ∧ n = fs.length ∧ n ≤ c ∧ ∀ j u, (refL fs)[j]? = some u → w.cell? ⟨g, j, none⟩ = some u := by
  rcases h with ⟨e, rfl⟩ | ⟨g, cap, cur, e, h1, h2, h3, h4, h5, h6, h7⟩
  · cases e; exact .inl ⟨rfl, rfl, rfl, rfl⟩
  · cases e
    refine .inr ⟨g, rfl, rfl, h4, fun j u hu => ?_⟩
    rw [Lib.cell_of_heap h3]
    rw [← h7, List.getElem?_take] at hu
    split at hu
    · simpa using hu
    · cases hu
/-- x[:i] -/
theorem ref_slice_to (h : RowIn S w (.slice a n c) fs) (i : Nat) (hi : i ≤ fs.length) :
    ∃ V, (∀ w', (Instr.slice 37 (.slice a n c) none (some (.int .i64 (i : Int))) none).run Try.prog w' = .ok V w') ∧
      (∀ w', (Instr.sliceAt 37 (.slice a n c) none (some (.int .i64 (i : Int))) none).run Try.prog w' = .ok V w') ∧ SrcAt w V i (refL (fs.take i)) := by
  have hnc : n = fs.length ∧ n ≤ c := by
    rcases row_cells h with ⟨_, h1, h2, h3⟩ | ⟨_, _, h1, h2, _⟩
    · subst h3; exact ⟨by simpa using h1, by omega⟩
    · exact ⟨h1, h2⟩
  have hr : ∀ w', (Instr.slice 37 (.slice a n c) none (some (.int .i64 (i : Int))) none).run Try.prog w' = .ok (sliced a 0 i c 4) w' := fun w' => by
    rw [run_slice_h w' 37 a n c under_ref .i64 (i : Int) (by omega) (by omega), elem_ref, Try.sizeOf73]
    rfl
  refine ⟨sliced a 0 i c 4, hr, fun w' => by rw [run_sliceAt_slice w' _ _ _ _ _ under_ref]; exact hr w', ?_⟩
  rcases row_cells h with ⟨rfl, h1, rfl, rfl⟩ | ⟨g, rfl, h1, h2, hc⟩
  · have : i = 0 := by simpa using hi
    subst this
    exact .inl ⟨by simp [sliced], rfl, by simp [refL]⟩
  · refine .inr ⟨⟨g, 0, none⟩, c, ?_, fun j u hu => ?_⟩
    · unfold sliced
      simp [Addr.add]
    · rw [add_zero_off]
      refine hc j u ?_
      rw [refL_take, List.getElem?_take] at hu
      split at hu
      · exact hu
      · cases hu
/-- x[i:] -/
theorem ref_slice_from (h : RowIn S w (.slice a n c) fs) (i : Nat) (hi : i ≤ fs.length) :
    ∃ V, (∀ w', (Instr.slice 37 (.slice a n c) (some (.int .i64 (i : Int))) none none).run Try.prog w' = .ok V w') ∧
      (∀ w', (Instr.sliceAt 37 (.slice a n c) (some (.int .i64 (i : Int))) none none).run Try.prog w' = .ok V w') ∧ SrcAt w V (fs.length - i) (refL (fs.drop i)) := by
  have hnc : n = fs.length ∧ n ≤ c := by
    rcases row_cells h with ⟨_, h1, h2, h3⟩ | ⟨_, _, h1, h2, _⟩
    · subst h3; exact ⟨by simpa using h1, by omega⟩
    · exact ⟨h1, h2⟩
  have hr : ∀ w', (Instr.slice 37 (.slice a n c) (some (.int .i64 (i : Int))) none none).run Try.prog w' = .ok (sliced a i n c 4) w' := fun w' => by
    rw [run_slice_l w' 37 a n c under_ref .i64 (i : Int) (by omega) (by omega), elem_ref, Try.sizeOf73]
    rfl
  refine ⟨sliced a i n c 4, hr, fun w' => by rw [run_sliceAt_slice w' _ _ _ _ _ under_ref]; exact hr w', ?_⟩
  rcases row_cells h with ⟨rfl, h1, rfl, rfl⟩ | ⟨g, rfl, h1, h2, hc⟩
  · have : i = 0 := by simpa using hi
    subst this
    subst h1
    exact .inl ⟨by simp [sliced], rfl, by simp [refL]⟩
  · subst h1
    by_cases h0 : c = i
    · refine .inr ⟨⟨g, 0, none⟩, c - i, ?_, fun j u hu => ?_⟩
      · unfold sliced; simp [h0]
      · rw [List.drop_of_length_le (by omega)] at hu; simp [refL] at hu
    · refine .inr ⟨⟨g, i * 4, none⟩, c - i, ?_, fun j u hu => ?_⟩
      · unfold sliced
        rw [if_neg (by omega)]; simp [Addr.add]; omega
      · have e : (⟨g, i * 4, none⟩ : Addr).add j = ⟨g, i * 4 + j, none⟩ := by simp [Addr.add]
        rw [e]
        refine hc _ u ?_
        rw [refL_drop, List.getElem?_drop] at hu
        exact hu
theorem row_ref {v : Value} {base m : Nat} (h : w.ownsRow base 73 4 v m (refL fs)) (hm : m = fs.length) (hS : ∀ k, base ≤ k → S k) : RowIn S w v fs := by
  subst hm
  obtain ⟨h1, h2⟩ := h
  rcases h2 with ⟨rfl, h2⟩ | ⟨g, cap, cur, rfl, hB, hg, h3, h4, h5, h6⟩
  · exact .inl ⟨rfl, List.length_eq_zero_iff.1 h2⟩
  · exact .inr ⟨g, cap, cur, rfl, hS g hB, (Array.getElem?_eq_some_iff.1 hg).1, hg, h3, h4, h5, h6⟩
theorem refL_one (fs : Fs) : ∀ u ∈ refL fs, u.oneCell' = true := by
  intro u hu
  simp only [refL, List.mem_flatMap] at hu
  obtain ⟨p, _, hu⟩ := hu
  simp only [refC, List.mem_cons, List.not_mem_nil, or_false] at hu
  rcases hu with rfl | rfl | rfl | rfl <;> rfl
end
end Go.Proofs.Ytnffjoflkeagfaa
