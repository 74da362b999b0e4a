/- rising; Set, Inter, Minus. -/
import Derived.Test.YtcgoggkaiiljmaaSort
import Derived.Test.YtcgoggkaiiljmaaMeets
namespace Go.Proofs.Ytcgoggkaiiljmaa
open Go.RowKit Go.Maps

theorem i64_of {x : Int} (h : (Lit.int .i64 x).wf = true) : I64 x := by
  have e1 : IntKind.i64.min = -9223372036854775808 := by decide
  have e2 : IntKind.i64.max = 9223372036854775807 := by decide
  have h' : (decide (IntKind.i64.min ≤ x) && decide (x ≤ IntKind.i64.max)) = true := h
  rw [e1, e2, Bool.and_eq_true] at h'
  exact ⟨of_decide_eq_true h'.1, of_decide_eq_true h'.2⟩
theorem owns_size {w : World} {b n : Nat} {D : DataW Value} (h : w.ownsMap Try.prog 3 Rv b n D) : Maps.size D ≤ n := by
  obtain ⟨es, clock, hb, F, hs, rfl⟩ := h
  simp [Maps.size, length_sorted]; exact hs
/-- what is known of the keys that are done -/
structure Picked (l : List Int) (p : Int → Bool) (done ks : List Int) : Prop where
  nodup : done.Nodup
  sub : ∀ x ∈ done, x ∈ l
  ks : ks = done.reverse.filter p
theorem picked_start (l : List Int) (p : Int → Bool) : Picked l p [] [] := ⟨List.nodup_nil, fun _ h => (by cases h), rfl⟩
theorem picked_step {l : List Int} {p : Int → Bool} {done ks : List Int} (h : Picked l p done ks) {x : Int} (hx : x ∉ done) (hl : x ∈ l) : Picked l p (x :: done) (if p x then ks ++ [x] else ks) := by
  refine ⟨List.nodup_cons.2 ⟨hx, h.nodup⟩, fun y hy => ?_, ?_⟩
  · rcases List.mem_cons.1 hy with rfl | hy
    · exact hl
    · exact h.sub y hy
  · rw [List.reverse_cons, List.filter_append, ← h.ks]
    cases hp : p x <;> simp [hp]
theorem picked_len {l : List Int} {p : Int → Bool} {done ks : List Int} (h : Picked l p done ks) : ks.length ≤ done.length ∧ done.length ≤ l.length := by
  refine ⟨?_, sub_len h.nodup h.sub⟩
  rw [h.ks]
  exact Nat.le_trans (List.length_filter_le _ _) (by rw [List.length_reverse]; exact Nat.le_refl _)
theorem picked_end {l : List Int} {p : Int → Bool} {done ks : List Int} (h : Picked l p done ks) (hall : ∀ x ∈ l, x ∈ done) : sortS ks = setS (l.filter p) := by
  refine sorted_setS ?_ (fun x => ?_)
  · rw [h.ks]; exact ((List.reverse_perm done).nodup_iff.2 h.nodup).filter _
  · rw [h.ks, List.mem_filter, List.mem_filter, List.mem_reverse]
    constructor
    · rintro ⟨h1, h2⟩; exact ⟨h.sub x h1, h2⟩
    · rintro ⟨h1, h2⟩; exact ⟨hall x h1, h2⟩
theorem info_int : (Try.prog.info? 3).map (fun i => (i.zero, i.size, i.bytes)) = some (some (.int .i64 0), 1, 8) := by kernel_rfl
/-- append(s, z) onto a row of one's own -/
theorem wpList_append_one {wr : World} {ops : Array Oper} {rest : List Oper} {o : Oper} {a : Act} {Q : Exit → Act → World → Prop} (hgd : o.guard = none) (s x : Operand)
    (ho : o.op = .call { callee := .builtin .append, args := #[s, x], argTypes := #[22, 22] }) (base : Nat) (v : Value) (ks : List Int) (z : Int) (hs : a.eval s = v) (hown : wr.ownsRow base 3 1 v ks.length (intsC ks))
    (hx : a.eval x = .slice (some ⟨wr.heap.size, 0, none⟩) 1 1) (hl : ks.length ≤ 1048576) (hbase : base ≤ wr.heap.size)
    (h : ∀ v' w', w'.ownsRow base 3 1 v' (ks ++ [z]).length (intsC (ks ++ [z])) → wr.grownBy w' v.ownBlock → wpList Try.prog ops Q rest (a.put o.dst v') w') :
    wpList Try.prog ops Q (o :: rest) a (wr.alloc (.cells #[.int .i64 z] 3)) := by
  obtain ⟨i0, hi0, hz0, hz1, hz2⟩ := info_parts info_int
  refine wpList_append_row hgd s x 22 ho base 3 i0 (.int .i64 0) 1 8 Try.underlying22 hi0 hz0 hz1 hz2 rfl (by decide) v ks.length (intsC ks) hs (hown.alloc _) _ 1 [.int .i64 z] hx
    (.inr ⟨_, _, rfl, fun j u hu => by
      rw [add_zero_off, Lib.cell_of_heap (heap_alloc_new wr _)]
      have := (List.getElem?_eq_some_iff.1 hu).1
      simp only [List.length_cons, List.length_nil] at this
      obtain rfl : j = 0 := by omega
      exact hu⟩) rfl (by intro u hu; simp only [List.mem_cons, List.not_mem_nil, or_false] at hu; subst hu; rfl) (by unfold maxLen; omega) (by omega) (by simp; omega) ?_
  intro v' w' h1 h2 _
  refine h v' w' (by rw [List.length_append, intsC_app]; exact h1) ⟨h2.os, h2.tape, h2.output, Nat.le_trans (by simp) h2.size, fun k hk hne => (h2.block k (by simp; omega) hne).trans (Below.heap_alloc _ _ _ hk)⟩
theorem own_nil (w : World) (base : Nat) : w.ownsRow base 3 1 (.slice none 0 0) 0 (intsC []) := ⟨rfl, .inl ⟨rfl, rfl⟩⟩

set_option maxRecDepth 100000 in
set_option maxHeartbeats 4000000 in
theorem rising_any {w : World} {v : Value} {l : List Int} {g : Nat} {lb : Array Value} {p : Int → Bool} (h : IA w v l) (hw : Wf l) (hl : l.length ≤ 1048576) (eg : Ent g) (hg : Gives w g lb p) :
    Calls Try.prog 32 #[v, .func (.func g) #[] lb] w fun e w' => ∃ v', e = .returned v' ∧ IA w' v' (setS (l.filter p)) ∧ Below w.heap.size w w' := by
  have hm := met_any h hw hl
  have HW := Lib.hid hw
  have HG := Lib.hid hg
  have eg' : ∀ args w, (callFunc g args).run Try.prog w = .ok (.enter g args) w := eg
  clear h hw hg eg
  go_enter Try.func32, Try.ntmps32
  go_wp2_with fail
  refine hm.mono ?_
  rintro e w1 ⟨mb, rfl, hmb, hM, hB⟩
  obtain ⟨D, h1, h2, h3⟩ := hM
  have HM := Lib.hid h1
  have H2 := Lib.hid h2
  have HB1 := Lib.hid hB
  clear h1 h2 h3 hB hm
  go_wp2_with (first | (at_range; refine wpList_range_own _ rfl _ 41 rfl 3 3 lawI Try.underlying41 Rv mb l.length D rfl HM.out ?_; intro w0 hrg0 hg0 hs0))
  have hb0 : Below w.heap.size w w0 := HB1.out.grown hg0 HB1.out.size (fun k hk => by cases hk)
  have hbase : w.heap.size ≤ w0.heap.size := hb0.size
  have hmb0 : mb < w1.heap.size := HM.out.lt
  have hsz := owns_size HM.out
  have hs0' : w1.heap.size < w0.heap.size := by omega
  have HG0 := Lib.hid hg0
  clear hs0 hg0
  go_frame
  go_loopw [5, 6] (fun s _ wr => ∃ (left : Lit → Bool) (cnt : Nat) (done ks : List Int), wr.ranges Try.prog 3 Rv mb w1.heap.size l.length D left cnt ∧ Hid (wr.ownsRow w0.heap.size 3 1 s ks.length (intsC ks)) ∧ w0.heap.size ≤ wr.heap.size ∧ Hid (Below w.heap.size w wr) ∧ Hid (∀ x, left (.int .i64 x) = (Maps.has D (.int .i64 x) && !done.contains x)) ∧ Hid (Picked l p done ks)) (fun _ _ wr => wr.rangeLeft mb w1.heap.size)
  case atStart => exact ⟨_, _, [], [], hrg0, own_nil _ _, Nat.le_refl _, hb0, fun x => by simp, picked_start _ _⟩
  case round =>
    obtain ⟨left, cnt, done, ks, hrg, HO, hwr, HB, HL, HP⟩ := hrel
    have hinvK : ∀ key kl, keyOf Try.prog 3 key = some kl → ∃ x, key = Value.int .i64 x := fun key kl h => by
      obtain ⟨x, e, _⟩ := Maps.keyOf_int_inv Try.underlying3 h
      exact ⟨x, e⟩
    have hinvV : ∀ (v : Value) (y : DataW Value × List MemPlace), Rv v = some y → ∃ c : Value, v = c := fun v _ _ => ⟨v, rfl⟩
    go_wp2_with (first | (at_next; refine wpList_next_ranges _ rfl _ rfl 3 lawI Rv (Value.int .i64) (fun (v : Value) => v) hinvK hinvV mb w1.heap.size l.length D left cnt rfl hrg ?_ ?_))
    · intro _ hl0
      have hall : ∀ x ∈ l, x ∈ done := fun x hx => by
        have h1 := HL.out x
        rw [hl0, H2.out, oft_some, List.contains_iff_mem.2 hx] at h1
        simpa using h1
      have HE := Lib.hid (picked_end HP.out hall)
      have hkl := picked_len HP.out
      have hs := Sort_own (own_base HO.out hbase) HB.out (by omega)
      rw [HE.out] at hs
      clear hl0 hall
      go_wp2_with fail
      refine hs.mono ?_
      rintro e w3 ⟨rfl, hi, hb⟩
      have HI := Lib.hid hi
      have HB3 := Lib.hid hb
      clear hi hb hs
      go_wp2
      go_ret
      exact ⟨_, rfl, HI.out, HB3.out⟩
    · intro x c kl y1 y2 w2 cnt2 hkey hlx hv hat hrg1 hlt1 hg1 hs1 hen
      obtain ⟨x', ex, rfl, hwx⟩ := Maps.keyOf_int_inv Try.underlying3 hkey
      cases ex
      have hx64 : I64 x := i64_of hwx
      have h1 := HL.out x
      rw [hlx, H2.out, oft_some] at h1
      have h1' := h1.symm
      rw [Bool.and_eq_true] at h1'
      have hxl : x ∈ l := List.contains_iff_mem.1 h1'.1
      have hnd : x ∉ done := by simpa using h1'.2
      have HP1 := Lib.hid (picked_step HP.out hnd hxl)
      have hB1 : Below w.heap.size w w2 := HB.out.grown hg1 (by omega) (fun k hk => by cases hk; exact HB1.out.size)
      have hrow : w2.ownsRow w0.heap.size 3 1 u5 ks.length (intsC ks) := own_keep HO.out (fun g _ h1 h2 => hg1.block g h2 (fun e => by cases e; omega))
      have HO1 := Lib.hid hrow
      have HL1 : Hid (∀ y, (left (.int .i64 y) && !(Lit.int .i64 y).sameKey (.int .i64 x)) = (Maps.has D (.int .i64 y) && !(x :: done).contains y)) := fun y => by
        by_cases e : y = x
        · subst e; simp [Lit.sameKey]
        · rw [Maps.sameKey_ne (by simpa using e), HL.out y]
          simp [e]
      have HBW := Lib.hid hB1
      have hkl := picked_len HP.out
      have hcall := HG.out w2 x hB1 hx64
      have HRG := Lib.hid hrg1
      have HRG0 := Lib.hid hrg
      have hw2 : w0.heap.size ≤ w2.heap.size := by omega
      clear hkey hlx hv hat h1 h1' hwx hg1 hB1 hrow hrg1 hrg hs1
      cases hp : p x with
      | false =>
        rw [hp] at hcall
        have HP2 : Hid (Picked l p (x :: done) ks) := by have := HP1.out; rw [hp] at this; exact this
        clear hp HP1
        go_wp2_with fail
        refine hcall.mono ?_
        rintro e w3 ⟨rfl, rfl⟩
        go_wp2
        go_roundw
        case rel => exact ⟨_, cnt2, _, ks, HRG.out, HO1, hw2, HBW, HL1, HP2⟩
        case measure => rw [HRG.out.left_eq, HRG0.out.left_eq]; omega
      | true =>
        rw [hp] at hcall
        have HP2 : Hid (Picked l p (x :: done) (ks ++ [x])) := by have := HP1.out; rw [hp, if_pos rfl] at this; exact this
        clear hp HP1
        go_wp2_with fail
        refine hcall.mono ?_
        rintro e w3 ⟨rfl, rfl⟩
        go_wp2_with (at_builtin; go_loud (refine wpList_append_one rfl _ _ rfl w0.heap.size u5 ks x rfl HO1.out rfl (by omega) hw2 ?_))
        intro v' w3 ho hg
        have HO3 : Hid (w3.ownsRow w0.heap.size 3 1 v' (ks ++ [x]).length (intsC (ks ++ [x]))) := by show World.ownsRow _ _ _ _ _ _ _; rw [List.length_append]; exact ho
        have hun : ∀ k, k < w0.heap.size → some k ≠ u5.ownBlock := fun k hk e => by have := (HO1.out.lt k e.symm).1; omega
        have HRG3 := Lib.hid (HRG.out.kept hg (hun mb (by omega)) (hun _ (by omega)))
        have HB3 : Hid (Below w.heap.size w w3) := HBW.out.grown hg (by omega) (fun k hk => by have := (HO1.out.lt k hk).1; omega)
        have hw3 : w0.heap.size ≤ w3.heap.size := Nat.le_trans hw2 hg.size
        clear ho hg hun
        go_wp2
        go_roundw
        case rel => exact ⟨_, cnt2, _, ks ++ [x], HRG3.out, HO3, hw3, HB3, HL1, HP2⟩
        case measure => rw [HRG3.out.left_eq, HRG0.out.left_eq]; omega
end Go.Proofs.Ytcgoggkaiiljmaa
