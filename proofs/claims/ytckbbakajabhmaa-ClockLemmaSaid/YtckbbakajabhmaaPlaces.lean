/- places: where each node's ticks stand, by a map of rows. -/
import Derived.Test.YtckbbakajabhmaaTicks
import Derived.Test.YtckbbakajabhmaaRTab4
namespace Go.Proofs.Ytckbbakajabhmaa
open Go.RowKit Go.Maps

abbrev Slot := Option Addr × Nat × Nat
abbrev slV (s : Slot) : Value := .slice s.1 s.2.1 s.2.2
def natsC (xs : List Nat) : List Value := xs.map (fun (x : Nat) => Value.int .i64 (x : Int))
def intsC (l : List Int) : List Value := l.map (Value.int .i64)
theorem natsC_len (xs : List Nat) : (natsC xs).length = xs.length := by simp [natsC]
theorem intsC_len (l : List Int) : (intsC l).length = l.length := by simp [intsC]
theorem natsC_snoc (xs : List Nat) (p : Nat) : natsC (xs ++ [p]) = natsC xs ++ [.int .i64 (p : Int)] := by simp [natsC]
theorem pos_snoc : ∀ (l : List Int) (k : Nat) (x j : Int), pos k (l ++ [x]) j = pos k l j ++ (if x = j then [k + l.length] else [])
  | [], k, x, j => by simp [pos]
  | a :: t, k, x, j => by
    rw [List.cons_append, pos, pos, pos_snoc t (k + 1) x j]
    have e : k + 1 + t.length = k + (a :: t).length := by simp; omega
    rw [e]
    split <;> rfl
theorem pos_take {l : List Int} {i : Nat} {x : Int} (h : l[i]? = some x) (j : Int) : pos 0 (l.take (i + 1)) j = pos 0 (l.take i) j ++ (if x = j then [i] else []) := by
  have hi := (List.getElem?_eq_some_iff.1 h).1
  rw [List.take_add_one, h]
  have := pos_snoc (l.take i) 0 x j
  rw [List.length_take, Nat.min_eq_left (by omega), Nat.zero_add] at this
  exact this
theorem pos_len_le : ∀ (l : List Int) (k : Nat) (j : Int), (pos k l j).length ≤ l.length
  | [], _, _ => Nat.le_refl _
  | a :: t, k, j => by
    rw [pos]
    have := pos_len_le t (k + 1) j
    split <;> simp <;> omega

/-- the block mb is a map of rows of places -/
structure Pl (w : World) (base mb n : Nat) (g : Int → Option Slot) (P : Int → List Nat) : Prop where
  map : GMap slV w mb n g
  row : ∀ j s, g j = some s → w.ownsRow base 3 1 (slV s) (P j).length (natsC (P j))
  no : ∀ j, g j = none → P j = []
  mine : ∀ j s, g j = some s → ∀ b, (slV s).ownBlock = some b → b ≠ mb
  apart : ∀ i j si sj, g i = some si → g j = some sj → i ≠ j → ∀ b, (slV si).ownBlock = some b → (slV sj).ownBlock ≠ some b
theorem pl_made (w : World) (base : Nat) : Pl (w.alloc (.map #[] 0)) base w.heap.size 0 (fun _ => none) (fun _ => []) :=
  ⟨GMap.made slV w, fun _ _ h => (by cases h), fun _ _ => rfl, fun _ _ h => (by cases h), fun _ _ _ _ h => (by cases h)⟩
section
variable {w w2 w3 : World} {base mb n : Nat} {g : Int → Option Slot} {P : Int → List Nat}
theorem Pl.at_ (h : Pl w base mb n g P) (x : Int) : w.ownsRow base 3 1 (slV ((g x).getD (none, 0, 0))) (P x).length (natsC (P x)) ∧ ∀ b, (slV ((g x).getD (none, 0, 0))).ownBlock = some b → b ≠ mb := by
  cases e : g x with
  | none =>
    rw [h.no x e]
    exact ⟨World.ownsRow_nil w base 3 1, fun b hb => by simp [Value.ownBlock] at hb⟩
  | some s => exact ⟨h.row x s e, h.mine x s e⟩
/-- a place appended to a node's row -/
theorem Pl.step (h : Pl w base mb n g P) (hbm : base ≤ mb) {x : Int} {p : Nat} {s' : Slot} (o : Obj) (ho : w2.ownsRow base 3 1 (slV s') ((P x).length + 1) (natsC (P x) ++ [.int .i64 (p : Int)]))
    (hg : (w.alloc o).grownBy w2 (slV ((g x).getD (none, 0, 0))).ownBlock) (hw : (slV s').ownBlock = (slV ((g x).getD (none, 0, 0))).ownBlock ∨ (slV s').ownBlock = some (w.alloc o).heap.size) :
    GMap slV w2 mb n g ∧ (GMap slV w3 mb (n + 1) (upd g x (some s')) → w2.mapTurned w3 mb → Pl w3 base mb (n + 1) (upd g x (some s')) (fun j => P j ++ (if x = j then [p] else [])) ∧ Below base w w3) := by
  obtain ⟨hx1, hx2⟩ := h.at_ x
  have hmlt := h.map.lt
  have hbig : (w.alloc o).heap.size = w.heap.size + 1 := by simp
  have hold : ∀ b, b < w.heap.size → (slV ((g x).getD (none, 0, 0))).ownBlock ≠ some b → w2.heap[b]? = w.heap[b]? := fun b hb hne =>
    (hg.block b (by omega) (fun e => hne e.symm)).trans (Below.heap_alloc _ _ _ hb)
  have hmb : w2.heap[mb]? = w.heap[mb]? := hold mb hmlt (fun e => hx2 mb e rfl)
  refine ⟨h.map.keep hmb, fun hm ht => ?_⟩
  have hnew : ∀ b, (slV s').ownBlock = some b → b ≠ mb ∧ (∀ j sj, g j = some sj → x ≠ j → (slV sj).ownBlock ≠ some b) := fun b hb => by
    rcases hw with hw | hw
    · rw [hw] at hb
      refine ⟨hx2 b hb, fun j sj hj hne => ?_⟩
      cases e : g x with
      | none => rw [e] at hb; simp [Value.ownBlock] at hb
      | some s => rw [e] at hb; exact h.apart x j s sj e hj hne b hb
    · rw [hw] at hb
      cases hb
      refine ⟨by omega, fun j sj hj _ e => ?_⟩
      have := (h.row j sj hj).lt _ e
      omega
  have hturn : ∀ b, b ≠ mb → b < w2.heap.size → w3.heap[b]? = w2.heap[b]? := fun b hne hlt => ht.grown.block b hlt (fun e => hne (by cases e; rfl))
  refine ⟨⟨hm, fun j s hj => ?_, fun j hj => ?_, fun j s hj b hb => ?_, fun i j si sj hi hj hne b hb => ?_⟩, ?_⟩
  · by_cases e : j = x
    · subst e
      rw [upd_same] at hj; cases hj
      rw [if_pos rfl, List.length_append, natsC_snoc]
      exact own_keep ho (fun b hb _ hl => hturn b (hnew b hb).1 hl)
    · rw [upd_other _ _ e] at hj
      have e' : ¬ x = j := fun c => e c.symm
      simp only [if_neg e', List.append_nil]
      have hr := h.row j s hj
      refine own_keep hr (fun b hb _ hl => ?_)
      have hb2 : w2.heap[b]? = w.heap[b]? := hold b hl (fun c => by
        cases e2 : g x with
        | none => rw [e2] at c; simp [Value.ownBlock] at c
        | some sx => rw [e2] at c; exact h.apart x j sx s e2 hj e' b c hb)
      exact (hturn b (h.mine j s hj b hb) (Nat.lt_of_lt_of_le hl (Nat.le_trans (by omega) hg.size))).trans hb2
  · by_cases e : j = x
    · subst e; rw [upd_same] at hj; cases hj
    · rw [upd_other _ _ e] at hj
      have e' : ¬ x = j := fun c => e c.symm
      simp only [if_neg e', List.append_nil]
      exact h.no j hj
  · by_cases e : j = x
    · subst e; rw [upd_same] at hj; cases hj; exact (hnew b hb).1
    · rw [upd_other _ _ e] at hj; exact h.mine j s hj b hb
  · by_cases e1 : i = x
    · subst e1
      rw [upd_same] at hi; cases hi
      have e2 : ¬ j = i := fun c => hne c.symm
      rw [upd_other _ _ e2] at hj
      exact (hnew b hb).2 j sj hj hne
    · rw [upd_other _ _ e1] at hi
      by_cases e2 : j = x
      · subst e2
        rw [upd_same] at hj; cases hj
        exact fun c => (hnew b c).2 i si hi (fun c => e1 c.symm) hb
      · rw [upd_other _ _ e2] at hj
        exact h.apart i j si sj hi hj hne b hb
  · refine ⟨ht.grown.os.trans hg.os, ht.grown.tape.trans hg.tape, ht.grown.output.trans hg.output, by rw [turned_size ht]; exact Nat.le_trans (by omega) hg.size, fun b hb => ?_⟩
    rw [hturn b (by omega) (Nat.lt_of_lt_of_le (by omega) hg.size)]
    exact hold b (by omega) (fun c => by have := (hx1.lt b c).1; omega)
end
/-- rows that are only read -/
structure Rd (w : World) (base mb n : Nat) (g : Int → Option Slot) (P : Int → List Nat) : Prop where
  map : GMap slV w mb n g
  run : ∀ j s, g j = some s → Run (fun k => base ≤ k ∧ k ≠ mb) w (slV s) (P j).length (natsC (P j))
  no : ∀ j, g j = none → P j = []
theorem Pl.rd {w : World} {base mb n : Nat} {g : Int → Option Slot} {P : Int → List Nat} (h : Pl w base mb n g P) : Rd w base mb n g P := by
  refine ⟨h.map, fun j s hj => ?_, h.no⟩
  have hr := h.row j s hj
  rcases hr.2 with ⟨e, e0⟩ | ⟨b, cap, cur, e, _, hb, hc, _, _, _⟩
  · rw [e]; rw [e0]; exact Run.nil _ _ _
  · have hlt := hr.lt b (by rw [e]; rfl)
    have hm := h.mine j s hj b (by rw [e]; rfl)
    have hcell := fun t u hu => hr.cells (g := b) (by rw [e]; rfl) t u hu
    rw [e]
    refine ⟨_, _, rfl, hc, (fun c => by cases c), .inr ⟨b, 0, rfl, ⟨hlt.1, hm⟩, hlt.2, fun t u hu => ?_⟩⟩
    have := hcell t u hu
    rw [add_zero_off] at this
    rw [Nat.zero_add]; exact this
theorem zeroSl (w : World) : (zeroValue 22).run Try.prog w = .ok (slV (none, 0, 0)) w := by kernel_rfl
theorem getD_slV (o : Option Slot) : (o.map slV).getD (slV (none, 0, 0)) = slV (o.getD (none, 0, 0)) := by cases o <;> rfl
theorem info_int : (Try.prog.info? 3).map (fun i => (i.zero, i.size, i.bytes)) = some (some (.int .i64 0), 1, 8) := by kernel_rfl
set_option maxRecDepth 100000 in
set_option maxHeartbeats 2000000 in
theorem places_any {w : World} {lv : Value} {l : List Int} (h : Run (fun k => k < w.heap.size) w lv l.length (intsC l)) (hi64 : ∀ x ∈ l, I64 x) (hc : l.length ≤ 1048576) :
    Calls Try.prog 32 #[lv] w fun e w' => e = .returned (.map (some w.heap.size)) ∧ (∃ g, Pl w' w.heap.size w.heap.size l.length g (fun j => pos 0 l j)) ∧ Below w.heap.size w w' := by
  obtain ⟨i0, hi0, hz0, hz1, hz2⟩ := info_parts info_int
  have hmm := @run_makeMap Try.prog
  have H := Lib.hid h
  obtain ⟨a, c, rfl, hac⟩ := h.slice
  clear h
  go_enter Try.func32, Try.ntmps32
  go_wp2
  go_loopw [9] (fun i wr => ∃ (k n : Nat) (g : Int → Option Slot), k ≤ l.length ∧ n = k ∧ i = .int .i64 k ∧ Hid (Pl wr w.heap.size w.heap.size n g (fun j => pos 0 (l.take k) j)) ∧ Hid (Below w.heap.size w wr)) (fun i _ => l.length - (intOf i).toNat)
  case atStart => exact ⟨0, 0, _, Nat.zero_le _, rfl, rfl, pl_made w w.heap.size, (Below.refl _ _).alloc (Nat.le_refl _) _⟩
  case round =>
    obtain ⟨k, n, g, hk, rfl, rfl, HP, HB⟩ := hrel
    by_cases hlt : n < l.length
    · have hlti : (n : Int) < (l.length : Int) := by omega
      obtain ⟨x, hx⟩ : ∃ x, l[n]? = some x := ⟨_, List.getElem?_eq_getElem hlt⟩
      have hx64 := hi64 x (List.mem_of_getElem? hx)
      obtain ⟨b, off, rfl, hb1, hb2, hb3⟩ := Run.get (j := n) H.out (by omega) (by rw [intsC, List.getElem?_map, hx]; rfl)
      have hcx : wr.cell? ⟨b, off + n, none⟩ = some (.int .i64 x) := (HB.out.cell (p := ⟨b, off + n, none⟩) hb2).trans hb3
      have hlk := (HP.out.map.look 57 22 Try.underlying57 (fun w => zeroSl w) hx64 wr rfl).1
      rw [getD_slV] at hlk
      have HX := Lib.hid hx
      clear hx hb3
      obtain ⟨w0, hw0⟩ : ∃ w0, w0 = wr.alloc (.cells #[.int .i64 (n : Int)] 3) := ⟨_, rfl⟩
      have HR0 : Hid (w0.ownsRow w.heap.size 3 1 (slV ((g x).getD (none, 0, 0))) (pos 0 (l.take n) x).length (natsC (pos 0 (l.take n) x))) := by rw [hw0]; exact (HP.out.at_ x).1.alloc _
      have hsrc : Src w0 (.slice (some ⟨wr.heap.size, 0, none⟩) 1 1) 1 [.int .i64 (n : Int)] :=
        .inr ⟨_, _, rfl, fun j x hx => by
          rw [add_zero_off, hw0, Lib.cell_of_heap (heap_alloc_new wr _)]
          have := (List.getElem?_eq_some_iff.1 hx).1
          simp only [List.length_cons, List.length_nil] at this
          obtain rfl : j = 0 := by omega
          exact hx⟩
      have hpl := pos_len_le (l.take n) 0 x
      have hpt : (l.take n).length ≤ 1048576 := by rw [List.length_take]; omega
      have hw0s : w.heap.size ≤ w0.heap.size := by rw [hw0]; have := HB.out.size; simp; omega
      obtain ⟨va, hva⟩ : ∃ va, va = (g x).getD (none, 0, 0) := ⟨_, rfl⟩
      have HVA := Lib.hid hva
      rw [← hva] at hlk HR0
      obtain ⟨va, vn, vc⟩ := va
      have hvn : vn = (pos 0 (l.take n) x).length := by
        rcases HR0.out.2 with ⟨e, e0⟩ | ⟨_, _, _, e, _⟩
        · cases e; exact e0.symm
        · cases e; rfl
      subst hvn
      have HW0 := Lib.hid hw0
      clear hw0 hva
      go_wp2_with (at_builtin; rw [← HW0.out]; go_loud (refine wpList_append_row rfl _ _ 22 rfl w.heap.size 3 i0 (.int .i64 0) 1 8 Try.underlying22 hi0 hz0 hz1 hz2 rfl (by decide) _ (pos 0 (l.take n) x).length (natsC (pos 0 (l.take n) x)) rfl HR0.out _ 1 [.int .i64 (n : Int)] rfl hsrc rfl (by intro x hx; simp only [List.mem_cons, List.not_mem_nil, or_false] at hx; subst hx; rfl) (by unfold maxLen; omega) (by omega) hw0s ?_))
      intro v' w2 ho hg hw
      obtain ⟨ra, rc, rfl⟩ := row_slice ho
      have hst := fun w3 => Pl.step (w3 := w3) HP.out (Nat.le_refl _) (x := x) (p := n) (s' := (ra, (pos 0 (l.take n) x).length + 1, rc)) (w2 := w2) (.cells #[.int .i64 (n : Int)] 3) ho (by rw [← HVA.out, ← HW0.out]; exact hg) (by rw [← HVA.out, ← HW0.out]; exact hw)
      obtain ⟨w3, r3, m3, u3⟩ := ((hst w2).1).put 57 22 Try.underlying57 hx64 (by unfold maxLen; omega) (ra, (pos 0 (l.take n) x).length + 1, rc)
      obtain ⟨hp3, hb3⟩ := (hst w3).2 m3 u3
      have HP3 : Hid (Pl w3 w.heap.size w.heap.size (n + 1) (upd g x (some (ra, (pos 0 (l.take n) x).length + 1, rc))) (fun j => pos 0 (l.take (n + 1)) j)) := by
        show Pl _ _ _ _ _ _
        have e : (fun j => pos 0 (l.take (n + 1)) j) = fun j => pos 0 (l.take n) j ++ (if x = j then [n] else []) := funext fun j => pos_take HX.out j
        rw [e]; exact hp3
      have HB3 : Hid (Below w.heap.size w w3) := HB.out.trans hb3
      clear ho hg hw hst m3 u3 hp3 hb3 hsrc
      go_wp2
      go_roundw
      case rel => exact ⟨n + 1, n + 1, _, by omega, rfl, by go_num, HP3, HB3⟩
      case measure => simp [intOf]; omega
    · have hlti : ¬ (n : Int) < (l.length : Int) := by omega
      have e : n = l.length := by omega
      subst e
      rw [List.take_length] at HP
      go_wp2
      go_ret
      exact ⟨rfl, ⟨g, HP.out⟩, HB.out⟩
end Go.Proofs.Ytckbbakajabhmaa
