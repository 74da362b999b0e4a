/- leave, and Lose. -/
import Derived.Test.YtheldpdckgoniaaAll
import Derived.Maps.OwnIn
namespace Go.Proofs.Ytheldpdckgoniaa
open Go.RowKit

/-- whatever is cells lies as it lay -/
def KeepC (W W' : World) : Prop := W.heap.size ≤ W'.heap.size ∧ ∀ (g : Nat) (o : Obj), W.heap[g]? = some o → o.isCells = true → W'.heap[g]? = some o
theorem KeepC.of_own {B : Nat} {W W' : World} {row : Option Nat} (hg : W.grownBy W' row) (hr : ∀ r, row = some r → B ≤ r ∧ ∃ o : Obj, W.heap[r]? = some o ∧ o.isCells = false) : KeepC W W' :=
  ⟨hg.size, fun g o ho hc => (hg.block g (Array.getElem?_eq_some_iff.1 ho).1 (fun e => by
    obtain ⟨_, o', ho', hc'⟩ := hr g e.symm
    rw [ho] at ho'; cases ho'; rw [hc] at hc'; cases hc')).trans ho⟩
theorem cells_of_cell {w : World} {a : Addr} {u : Value} (h : w.cell? a = some u) : ∃ o : Obj, w.heap[a.block]? = some o ∧ o.isCells = true := by
  unfold World.cell? at h
  cases ho : w.heap[a.block]? with
  | none => simp [ho] at h
  | some o => exact ⟨o, rfl, by cases o <;> simp_all [Obj.isCells]⟩
theorem Run.keepC {B : Nat → Prop} {w w' : World} {v : Value} {n : Nat} {cells : List Value} (h : Run B w v n cells) (hk : KeepC w w') : Run B w' v n cells := by
  obtain ⟨a, c, e, h1, h2, h3⟩ := h
  refine ⟨a, c, e, h1, h2, ?_⟩
  rcases h3 with h3 | ⟨b, off, rfl, hb, hlt, hc⟩
  · exact .inl h3
  · refine .inr ⟨b, off, rfl, hb, Nat.lt_of_lt_of_le hlt hk.1, fun j u hu => ?_⟩
    have h5 := hc j u hu
    obtain ⟨o, ho, hoc⟩ := cells_of_cell h5
    exact (World.cell?_of_block (a := ⟨b, off + j, none⟩) ((hk.2 b o ho hoc).trans ho.symm)).trans h5
theorem LI.keepC {B : Nat → Prop} {w w' : World} {m : Msg} {lv ev : Value} (h : LI B w m lv ev) (hk : KeepC w w') : LI B w' m lv ev := ⟨h.1.keepC hk, h.2.keepC hk⟩
theorem own_keepC {w w' : World} {base : Nat} {e : TypeId} {size : Nat} {v : Value} {n : Nat} {xs : List Value} (h : w.ownsRow base e size v n xs) (hk : KeepC w w') : w'.ownsRow base e size v n xs := by
  refine ⟨h.1, ?_⟩
  rcases h.2 with h2 | ⟨g, cap, cur, e1, e2, e3, e4⟩
  · exact .inl h2
  · exact .inr ⟨g, cap, cur, e1, e2, hk.2 g _ e3 rfl, e4⟩
theorem BagO.keepC {T : TypeId} {S : Nat → Prop} {w w' : World} {b most : Nat} {v : Value} {xs : List X} (h : BagO T S w b most v xs) (hk : KeepC w w') : BagO T S w' b most v xs :=
  ⟨h.mine, hk.2 _ _ h.block rfl, ⟨own_keepC h.rm.row hk, h.rm.own, fun x hx => (h.rm.li x hx).keepC hk, h.rm.sm⟩, h.fit, h.lim⟩
theorem keepC_put {w : World} {D : Nat} {o : Obj} (o' : Obj) (h : w.heap[D]? = some o) (hc : o.isCells = false) : KeepC w (w.putObj D o') :=
  ⟨by simp, fun g o2 ho h2 => (World.putObj_heap_other (fun e => by subst e; rw [h] at ho; cases ho; rw [hc] at h2; cases h2)).trans ho⟩
/-- the messages that stay -/
def stayS (ms : List Msg) (to : Int) : List Msg := ms.filter (fun m => m.t != to)
theorem stayS_snoc (ms : List Msg) (m : Msg) (to : Int) : stayS (ms ++ [m]) to = if (m.t != to) = true then stayS ms to ++ [m] else stayS ms to := by
  unfold stayS
  rw [List.filter_append]
  by_cases h : (m.t != to) = true
  · rw [if_pos h]; simp [h]
  · rw [if_neg h]; simp [h]
theorem stayS_len (ms : List Msg) (to : Int) : (stayS ms to).length ≤ ms.length := List.length_filter_le _ _
theorem stayS_all (ms : List Msg) (to : Int) (h : (stayS ms to).length = ms.length) : stayS ms to = ms := by
  unfold stayS at h ⊢
  exact List.filter_eq_self.2 (List.length_filter_eq_length_iff.1 h)
set_option maxHeartbeats 1000000 in
theorem Lose1_any {B : Nat → Prop} {w : World} {m : Msg} {lv ev : Value} (h : LI B w m lv ev) (bt : Nat) (to : Int) (hb : w.cell? ⟨bt, 0, none⟩ = some (.int .i64 to)) :
    Calls Try.prog 31 #[m.agg lv ev, ptrV bt] w fun e w' => e = .returned (.bool (m.t != to)) ∧ Below w.heap.size w w' := by
  obtain ⟨la, lc, rfl, _⟩ := h.1.slice
  obtain ⟨ea, ec, rfl, _⟩ := h.2.slice
  clear h
  have hlt : bt < w.heap.size := World.block_lt_of_cell? w _ hb
  go_enter Try.func31, Try.ntmps31
  go_wp2
  go_ret
  exact ⟨rfl, (Below.refl _ _).alloc (Nat.le_refl _) _⟩
/-- what leave holds between two rounds: its own list -/
structure LeftIn (base bl : Nat) (to : Int) (ms : List Msg) (w W : World) : Prop where
  kept : Kept (fun j => j = bl) w W
  left : ∃ la lc ys, W.heap[bl]? = some (.cells #[.slice la ys.length lc] 29 (0, 0)) ∧ ys.map (·.1) = stayS ms to ∧ W.ownsRow base 38 11 (.slice la ys.length lc) ys.length (rowC ys) ∧
    (∀ y ∈ ys, LI (fun j => base ≤ j ∧ (Value.slice la ys.length lc).ownBlock ≠ some j) W y.1 y.2.1 y.2.2) ∧ ∀ y ∈ ys, Sm y.1
theorem LeftIn.keepC {base bl : Nat} {to : Int} {ms : List Msg} {w W W' : World} (h : LeftIn base bl to ms w W) (hk : KeepC W W') (hb : Kept (fun j => j = bl) W W') : LeftIn base bl to ms w W' := by
  obtain ⟨h1, la, lc, ys, h2, h3, h4, h5, h6⟩ := h
  exact ⟨h1.trans hb, la, lc, ys, hk.2 _ _ h2 rfl, h3, own_keepC h4 hk, fun y hy => (h5 y hy).keepC hk, h6⟩
theorem kept_of_own {B : Nat} {S : Nat → Prop} {w W W' : World} {row : Option Nat} (h : Kept S w W) (hw : w.heap.size ≤ B) (hg : W.grownBy W' row) (hr : ∀ r, row = some r → B ≤ r ∧ ∃ o : Obj, W.heap[r]? = some o ∧ o.isCells = false) : Kept S w W' :=
  ⟨hg.os.trans h.os, hg.tape.trans h.tape, hg.output.trans h.output, Nat.le_trans h.size hg.size, fun k hk hs => (hg.block k (Nat.lt_of_lt_of_le hk h.size) (fun e => by have := (hr k e.symm).1; omega)).trans (h.block k hk hs)⟩
theorem LeftIn.own (base bl : Nat) (to : Int) (f : Nat → List Msg) (w : World) (hb : w.heap.size ≤ base) : OwnFrom base (fun k W => LeftIn base bl to (f k) w W) := by
  intro k W W' row h hg hr
  have hk := KeepC.of_own hg hr
  obtain ⟨h1, la, lc, ys, h2, h3, h4, h5, h6⟩ := h
  exact ⟨kept_of_own h1 hb hg hr, la, lc, ys, hk.2 _ _ h2 rfl, h3, own_keepC h4 hk, fun y hy => (h5 y hy).keepC hk, h6⟩
/-- a round's box, and the message in it -/
def BoxAt (base bl : Nat) (xs : List X) (k : Nat) (v : Value) (bm : Nat) (W : World) : Prop :=
  ∃ x la lc ea ec qa qn qc, xs[k]? = some x ∧ v = x.1.agg (.slice la x.1.l.length lc) (.slice ea x.1.es.length ec) ∧ W.heap[bm]? = some (msgO x.1 (.slice la x.1.l.length lc) (.slice ea x.1.es.length ec)) ∧ base ≤ bm ∧
    W.heap[bl]? = some (.cells #[.slice qa qn qc] 29 (0, 0)) ∧ LI (fun j => base ≤ j ∧ (Value.slice qa qn qc).ownBlock ≠ some j) W x.1 (.slice la x.1.l.length lc) (.slice ea x.1.es.length ec)
theorem BoxAt.own {base bl : Nat} {xs : List X} {k : Nat} {v : Value} {bm : Nat} {W W' : World} (h : BoxAt base bl xs k v bm W) (hk : KeepC W W') : BoxAt base bl xs k v bm W' := by
  obtain ⟨x, la, lc, ea, ec, qa, qn, qc, h1, h2, h3, h4, h5, h6⟩ := h
  exact ⟨x, la, lc, ea, ec, qa, qn, qc, h1, h2, hk.2 _ _ h3 rfl, h4, hk.2 _ _ h5 rfl, h6.keepC hk⟩
theorem keepC_of_below {W W' : World} (h : Below W.heap.size W W') : KeepC W W' := ⟨h.size, fun g o ho _ => (h.block g (Array.getElem?_eq_some_iff.1 ho).1).trans ho⟩
theorem own_ne {w : World} {base : Nat} {e : TypeId} {size : Nat} {v : Value} {n : Nat} {xs : List Value} {bl : Nat} {c : Array Value} {T : TypeId} {k : Nat × Nat} (h : w.ownsRow base e size v n xs) (hb : w.heap[bl]? = some (.cells c T k)) (hT : T ≠ e) : v.ownBlock ≠ some bl := by
  intro eq
  rcases h.2 with ⟨rfl, _⟩ | ⟨g, cap, cur, rfl, _, hg, _⟩
  · simp [Value.ownBlock] at eq
  · have : g = bl := by simpa [Value.ownBlock] using eq
    subst this
    have := hg.symm.trans hb
    simp at this
    exact hT this.2.1.symm
/-- a message more in leave's list -/
theorem LeftIn.push {base bl : Nat} {to : Int} {ms' : List Msg} {w W w3 w5 : World} {qa : Option Addr} {qc g cap : Nat} {ys : List X} {y : X}
    (h1 : Kept (fun j => j = bl) w W) (hwb : w.heap.size ≤ base) (hb3 : Below W.heap.size W w3) (hq1 : w3.heap[bl]? = some (.cells #[.slice qa ys.length qc] 29 (0, 0))) (hq2 : (ys ++ [y]).map (·.1) = stayS ms' to)
    (hlt : ∀ j, (Value.slice qa ys.length qc).ownBlock = some j → base ≤ j ∧ j < W.heap.size) (hq4 : ∀ z ∈ ys ++ [y], LI (fun j => base ≤ j ∧ (Value.slice qa ys.length qc).ownBlock ≠ some j) W z.1 z.2.1 z.2.2) (hq5 : ∀ z ∈ ys ++ [y], Sm z.1)
    (hne : (Value.slice qa ys.length qc).ownBlock ≠ some bl) (hbl : bl < base) (hwB : base ≤ W.heap.size)
    (ho : w5.ownsRow base 38 11 (.slice (some ⟨g, 0, none⟩) (ys.length + 1) cap) (ys.length + 1) (rowC ys ++ y.1.list y.2.1 y.2.2)) (hg : w3.grownBy w5 (Value.slice qa ys.length qc).ownBlock) (hat : (Value.slice qa ys.length qc).ownBlock = some g ∨ w3.heap.size ≤ g) :
    LeftIn base bl to ms' w (w5.setCell ⟨bl, 0, none⟩ (.slice (some ⟨g, 0, none⟩) (ys.length + 1) cap)) ∧ Kept (fun j => j = bl ∨ (Value.slice qa ys.length qc).ownBlock = some j) W (w5.setCell ⟨bl, 0, none⟩ (.slice (some ⟨g, 0, none⟩) (ys.length + 1) cap)) := by
  have hb5 : w5.heap[bl]? = _ := (hg.block bl (Array.getElem?_eq_some_iff.1 hq1).1 (fun e => hne e.symm)).trans hq1
  have hgb : g ≠ bl := by
    have := own_ne ho hb5 (by decide)
    simpa [Value.ownBlock] using this
  have hk5 : Kept (fun j => j = bl ∨ (Value.slice qa ys.length qc).ownBlock = some j) W w5 := (Kept.of_below hb3).trans (Kept.of_grown hg (fun p hp => .inr hp))
  have hk6 := hk5.set (p := ⟨bl, 0, none⟩) (.inl (.inl rfl)) (.slice (some ⟨g, 0, none⟩) (ys.length + 1) cap)
  have hs := hb3.size
  refine ⟨⟨⟨hk6.os.trans h1.os, hk6.tape.trans h1.tape, hk6.output.trans h1.output, Nat.le_trans h1.size hk6.size, fun k hk hs => ?_⟩, some ⟨g, 0, none⟩, cap, ys ++ [y], ?_, hq2, ?_, ?_, hq5⟩, hk6⟩
  · exact (hk6.block k (Nat.lt_of_lt_of_le hk h1.size) (fun e => e.elim hs (fun e => by have := (hlt k e).1; omega))).trans (h1.block k hk hs)
  · rw [List.length_append]; exact heap_set hb5
  · have e : rowC (ys ++ [y]) = rowC ys ++ y.1.list y.2.1 y.2.2 := by rw [rowC_append]; simp [rowC]
    rw [e, List.length_append]
    exact own_keep ho (fun j hj _ _ => Below.heap_setCell _ _ _ _ (by simp [Value.ownBlock] at hj; subst hj; exact hgb))
  · intro z hz
    have h5 : LI (fun j => (base ≤ j ∧ (Value.slice qa ys.length qc).ownBlock ≠ some j) ∧ j < W.heap.size) W z.1 z.2.1 z.2.2 := (hq4 z hz).mono (fun k hk hh => ⟨hh, hk⟩)
    have h6 := h5.keep (w' := w5.setCell ⟨bl, 0, none⟩ (.slice (some ⟨g, 0, none⟩) (ys.length + 1) cap)) hk6.size (fun j hj hl => hk6.block j hl (fun e => e.elim (fun e => by omega) (fun e => hj.1.2 e)))
    refine h6.mono (fun j _ hh => ⟨hh.1.1, ?_⟩)
    simp only [Value.ownBlock, List.length_append, ne_eq, Option.some.injEq]
    intro e
    subst e
    exact hat.elim hh.1.2 (fun e => by omega)
attribute [local go_sem] Oper.semAt_some
set_option maxHeartbeats 4000000 in
set_option maxRecDepth 100000 in
theorem leave_any {S : Nat → Prop} {w : World} {b most : Nat} {v : Value} {xs : List X} (h : BagO BagT S w b most v xs) (hS : ∀ k, w.heap.size ≤ k → S k) (hc : xs.length ≤ 1048576) (bt : Nat) (to : Int) (hbt : w.cell? ⟨bt, 0, none⟩ = some (.int .i64 to)) (htb : bt ≠ b) :
    Calls Try.prog 30 #[ptrV b, .func (.func 31) #[] #[ptrV bt]] w fun e w' => e = .returned (.int .i64 ((xs.length : Int) - ((stayS (xs.map (·.1)) to).length : Int))) ∧ BagAt BagT S w' b most (stayS (xs.map (·.1)) to) ∧ Kept S w w' := by
  have hbtl : bt < w.heap.size := World.block_lt_of_cell? w _ hbt
  -- the two boxes
  obtain ⟨w1, hw1⟩ : ∃ w1, w1 = (w.alloc (.cells #[.func (.func 31) #[] #[ptrV bt]] 63)).alloc (.cells #[.slice none 0 0] 29) := ⟨_, rfl⟩
  have hb1 : Below w.heap.size w w1 := by rw [hw1]; exact ((Below.refl _ _).alloc (Nat.le_refl _) _).alloc (by simp) _
  have hf1 : w1.heap[w.heap.size]? = some (.cells #[.func (.func 31) #[] #[ptrV bt]] 63 (0, 0)) := by rw [hw1]; exact (Below.heap_alloc _ _ _ (by simp)).trans (heap_alloc_new w _)
  have hl1 : w1.heap[w.heap.size + 1]? = some (.cells #[.slice none 0 0] 29 (0, 0)) := by rw [hw1]; have := heap_alloc_new (w.alloc (.cells #[.func (.func 31) #[] #[ptrV bt]] 63)) (.cells #[.slice none 0 0] 29); rwa [World.size_alloc] at this
  have hs1 : w1.heap.size = w.heap.size + 2 := by rw [hw1]; simp
  have hbag1 := h.keep (S' := fun k => S k ∧ k < w.heap.size) hb1.size (fun g _ hl => hb1.block g hl) (fun _ hk hg => ⟨hg, hk⟩)
  have hall := All_any hbag1 hc
  have HA := Lib.hid hw1
  refine calls_marks Try.func30 rfl ?_
  simp only [Try.ntmps30, List.size_toArray, List.length_cons, List.length_nil, Nat.reduceAdd, Nat.reduceSub, Array.replicate_succ, Array.replicate_zero, List.push_toArray, List.append_toArray, List.nil_append, List.cons_append]
  go_wp2_with fail
  rw [← HA.out]
  refine hall.mono ?_
  rintro e w2 ⟨bx, v', rfl, hat, hb2⟩
  have hs2 := hb2.size
  obtain ⟨o, ho⟩ : ∃ o : World → World → Prop, o = fun _ _ => True := ⟨_, rfl⟩
  have HB2 : Hid (Below w.heap.size w w2) := hb1.trans (hb2.mono hb1.size)
  have HF2 := Lib.hid (box_below hf1 hb2)
  have HL2 := Lib.hid (box_below hl1 hb2)
  have HBG : Hid (BagO BagT (fun k => S k ∧ k < w.heap.size) w2 b most v xs) := hbag1.keep hb2.size (fun g _ hl => hb2.block g hl) (fun _ _ hg => hg)
  have HBT : Hid (w2.cell? ⟨bt, 0, none⟩ = some (.int .i64 to)) := ((HB2.out.cell (p := ⟨bt, 0, none⟩) hbtl).trans hbt)
  have HAT := Lib.hid hat
  have hTl : Hid (∀ k, (((S k ∧ k < w.heap.size) ∧ k < w1.heap.size ∧ k ≠ b) ∨ (w1.heap.size ≤ k ∧ k < w2.heap.size)) → k < w2.heap.size ∧ k ≠ w.heap.size + 1) := fun k hk => by
    rcases hk with ⟨⟨_, h1⟩, h2, _⟩ | ⟨h1, h2⟩
    · exact ⟨by omega, by omega⟩
    · exact ⟨h2, by omega⟩
  have hcm := all_comes hat hc
  have HC := Lib.hid hcm
  have HS := Lib.hid hS
  have HLT : Hid (bt < w.heap.size ∧ b < w.heap.size ∧ w.heap.size + 2 ≤ w2.heap.size) := ⟨hbtl, h.lt, by omega⟩
  clear h hS hbt hb1 hf1 hl1 hbag1 hall hat hb2 hcm ho o
  go_wp2
  refine range_walk (gf := 35) (lb := #[ptrV bx]) rfl (enters_of Try.func35 (by kernel_rfl) rfl) rfl HC.out (fun k hk => (hTl.out k hk).1)
    (fun k W => LeftIn w2.heap.size (w.heap.size + 1) to ((xs.map (·.1)).take k) w2 W)
    (fun _ _ _ => False) (LeftIn.own w2.heap.size (w.heap.size + 1) to (fun k => (xs.map (·.1)).take k) w2 (Nat.le_refl _)) (fun _ _ _ _ _ h _ _ => h) ⟨Kept.refl _ _, none, 0, [], HL2.out, rfl, World.ownsRow_nil _ _ _ _, (fun y hy => by cases hy), (fun y hy => by cases hy)⟩
    (fun k v a' W => ∃ bm, BoxAt w2.heap.size (w.heap.size + 1) xs k v bm W ∧ a' = { tmps := #[ptrV b, .func (.func 31) #[] #[ptrV bt], undef, ptrV w.heap.size, .int .i64 0, ptrV (w.heap.size + 1), undef, ptrV bm, undef, ptrV b, .func (.func 35) #[] #[ptrV bx], .int .i64 (k : Int), v, undef, undef, undef, undef, undef, undef, undef, undef, undef, undef, undef, undef, undef, undef, undef, undef, undef, undef, undef], defers := [] })
    (fun k v a' s W W' row h hg hr => by obtain ⟨bm, h1, h2⟩ := h; exact ⟨bm, h1.own (KeepC.of_own hg hr), h2⟩) ?assign ?body ?done ?stop
  case assign =>
    intro l k v W0 W K hsz hk hi hb hr hK
    obtain ⟨x, la, lc, ea, ec, hx, rfl, hli⟩ := hr
    have hiW := hi.keepC (keepC_of_below hb) (Kept.of_below hb)
    obtain ⟨hik, qa, qc, ys, hq1, hq2, hq3, hq4, hq5⟩ := hi
    have hsz2 := hb.size
    have hbx : ∀ W', W' = W.alloc (.cells (x.1.arr (.slice la x.1.l.length lc) (.slice ea x.1.es.length ec)) 38) → K { tmps := #[ptrV b, .func (.func 31) #[] #[ptrV bt], undef, ptrV w.heap.size, .int .i64 0, ptrV (w.heap.size + 1), undef, ptrV W.heap.size, undef, ptrV b, .func (.func 35) #[] #[ptrV bx], .int .i64 (k : Int), x.1.agg (.slice la x.1.l.length lc) (.slice ea x.1.es.length ec), undef, undef, undef, undef, undef, undef, undef, undef, undef, undef, undef, undef, undef, undef, undef, undef, undef, undef, undef], defers := [] } W' := by
      intro W' hW'
      have hal : Below W.heap.size W W' := by rw [hW']; exact (Below.refl _ _).alloc (Nat.le_refl _) _
      refine hK _ W' (by rw [hW']; exact (KeepsOthers.alloc _ _).from _) (KeepT.of_below hal) (hiW.keepC (keepC_of_below hal) (Kept.of_below hal)) ⟨W.heap.size, ⟨x, la, lc, ea, ec, qa, ys.length, qc, hx, rfl, by rw [hW']; exact heap_alloc_new W _, by omega, box_below hq1 (bw hb hal), ?_⟩, rfl⟩
      exact ((hli.mono (fun j _ hj => ⟨by omega, fun e => by have := (hq3.lt j e).2; omega⟩)).below hal)
    have HK := Lib.hid hbx
    clear hK hbx hli hiW hq1 hq2 hq3 hq4 hq5 hik hb
    gi_wp2
    exact HK.out _ rfl
  case body =>
    rintro l k v a' W hl hk hi ⟨bm, ⟨x, la, lc, ea, ec, qa, qn, qc, hx, rfl, hbm, hbm2, hql, hli⟩, rfl⟩
    obtain ⟨m, lw, ew⟩ := x
    simp only at hbm hli
    obtain ⟨hkp, la', lc', ys, hq1, hq2, hq3, hq4, hq5⟩ := hi
    have e0 := hql.symm.trans hq1
    simp only [Option.some.injEq, Obj.cells.injEq, Array.mk.injEq, List.cons.injEq, Value.slice.injEq, and_true] at e0
    obtain ⟨rfl, rfl, rfl⟩ := e0
    obtain ⟨hl1, hl2, hl3⟩ := HLT.out
    have hF : W.heap[w.heap.size]? = _ := (hkp.block w.heap.size (by omega) (by omega)).trans HF2.out
    have hbtW : W.cell? ⟨bt, 0, none⟩ = some (.int .i64 to) := (World.cell?_of_block (a := ⟨bt, 0, none⟩) (hkp.block bt (by omega) (by omega))).trans HBT.out
    have cF : W.cell? ⟨w.heap.size, 0, none⟩ = some (.func (.func 31) #[] #[ptrV bt]) := by rw [Lib.cell_of_heap hF]; rfl
    obtain ⟨y0, y1, y2, y3, y4, y5, y6, y7, y8, y9, y10, -⟩ := box_cells hbm
    have HL1 := Lib.hid (Lose1_any hli bt to hbtW)
    have HKP := Lib.hid hkp
    have HBM := Lib.hid hbm
    have HLI := Lib.hid hli
    have HQ1 := Lib.hid hq1
    have HQ2 := Lib.hid hq2
    have HQ3 := Lib.hid hq3
    have HQ4 := Lib.hid hq4
    have HQ5 := Lib.hid hq5
    have HX := Lib.hid hx
    obtain ⟨i0, hi0, hz0, hz1, hz2⟩ := info_parts info_msg
    have hyl : ys.length ≤ k := by
      have := congrArg List.length hq2
      have h2 := stayS_len ((xs.map (·.1)).take k) to
      rw [List.length_map] at this
      rw [List.length_take, List.length_map] at h2
      omega
    have hyb : ys.length + 1 ≤ 1048576 := by omega
    have HSW : Hid (w2.heap.size ≤ W.heap.size) := hkp.size
    have HBL : Hid (w.heap.size + 1 < w2.heap.size) := by show _ < _; omega
    clear hkp hbm hli hq1 hq2 hq3 hq4 hq5 hx hF hbtW hql hyl
    by_cases hs : (m.t != to) = true
    · gi_wp2_with (first
        | (refine ⟨trivial, ?_⟩; gi_at_call 31; refine (CallsIn.inRound l (callsIn_wide.2 HL1.out)).mono ?_; rintro e w3 ⟨rfl, hb3⟩; have HB3 := Lib.hid hb3; obtain ⟨z0, z1, z2, z3, z4, z5, z6, z7, z8, z9, z10, -⟩ := box_cells (box_below HBM.out hb3); have hq3 := box_below HQ1.out hb3; have cq3 := Lib.cell_of_heap hq3 0; have fq3 := Lib.frozen_of_heap hq3 0; have HH3 := Lib.hid hq3; have HO3 := Lib.hid (own_keep HQ3.out (fun g _ _ hl => hb3.block g hl)); clear hb3 hq3 y0 y1 y2 y3 y4 y5 y6 y7 y8 y9 y10 cF)
        | (gi_at_builtin; go_loud (refine wpListIn_append_own_at _ rfl _ _ 29 rfl w2.heap.size 38 i0 (.agg #[.int .u8 0, .int .i64 0, .int .i64 0, .int .i64 0, .int .i64 0, .int .i64 0, .int .i64 0, .bool false, .slice none 0 0, .slice none 0 0, .string ⟨#[]⟩]) 11 128 Try.underlying29 hi0 hz0 hz1 hz2 rfl (by decide) _ _ _ rfl (HO3.out.alloc _) ⟨w3.heap.size, 0, none⟩ 1 1 (m.list (.slice la m.l.length lc) (.slice ea m.es.length ec)) rfl rfl (newsAt _ _ _ _ rfl) (list_one m _ _ _ _ _ _) (by unfold maxLen; omega) (by omega) (by have := HB3.out.size; have := HSW.out; simp; omega) ?_; intro v5 w5 ho5 hg5 _ hat5; obtain ⟨g5, cap5, rfl⟩ := ownsRow_succ ho5; have HO5 := Lib.hid ho5; have HG5 := Lib.hid hg5; have HAT5 := Lib.hid hat5; have hb5 : w5.heap[w.heap.size + 1]? = _ := (hg5.block _ (by have := HBL.out; have := HB3.out.size; have := HSW.out; simp; omega) (fun e => (own_ne HQ3.out HQ1.out (by decide)) e.symm)).trans ((Below.heap_alloc _ _ _ (by have := HBL.out; have := HB3.out.size; have := HSW.out; omega)).trans HH3.out); have c5 := Lib.cell_of_heap hb5 0; have f5 := Lib.frozen_of_heap hb5 0; clear ho5 hg5 hat5 hb5)))
      have hmk : (xs.map (·.1))[k]? = some m := by rw [List.getElem?_map, HX.out]; rfl
      have hp := LeftIn.push (base := w2.heap.size) (to := to) (ms' := (xs.map (·.1)).take (k + 1)) (w3 := w3.alloc (.cells (m.arr (.slice la m.l.length lc) (.slice ea m.es.length ec)) 38)) (y := (m, .slice la m.l.length lc, .slice ea m.es.length ec)) HKP.out (Nat.le_refl _) (HB3.out.alloc HB3.out.size _) ((Below.heap_alloc _ _ _ (Array.getElem?_eq_some_iff.1 HH3.out).1).trans HH3.out)
        (by rw [take_snocA _ _ _ hmk, stayS_snoc, if_pos hs, ← HQ2.out]; simp) HQ3.out.lt (fun z hz => by
          rcases List.mem_append.1 hz with hz | hz
          · exact HQ4.out z hz
          · simp only [List.mem_singleton] at hz; subst hz; exact HLI.out) (fun z hz => by
          rcases List.mem_append.1 hz with hz | hz
          · exact HQ5.out z hz
          · simp only [List.mem_singleton] at hz; subst hz; exact HAT.out.sm (m, lw, ew) (List.mem_of_getElem? HX.out)) (own_ne HQ3.out HQ1.out (by decide)) HBL.out HSW.out HO5.out HG5.out (HAT5.out.imp (fun e => e.symm) (fun e => by
          have : g5 = (w3.alloc (.cells (m.arr (.slice la m.l.length lc) (.slice ea m.es.length ec)) 38)).heap.size := by simpa [Value.ownBlock] using e
          omega))
      refine ⟨⟨hp.2.size, fun j o hj ho hno => (hp.2.block j (Array.getElem?_eq_some_iff.1 ho).1 (fun e => e.elim (fun e => by have := HBL.out; omega) (fun e => ?_))).trans ho⟩, ⟨hp.2.size, fun j hj hjl => hp.2.block j hjl (fun e => e.elim (fun e => (hTl.out j hj).2 e) (fun e => by have := (hTl.out j hj).1; have := (HQ3.out.lt j e).1; omega))⟩, hp.1⟩
      rcases HQ3.out.2 with ⟨e1, _⟩ | ⟨g, cap, cur, e1, _, hg, _⟩
      · rw [e1] at e; simp [Value.ownBlock] at e
      · rw [e1] at e
        have : g = j := by simpa [Value.ownBlock] using e
        subst this
        rw [hg] at ho
        cases ho
        simp [Obj.isCells] at hno
    · have hsf : (m.t != to) = false := by simpa using hs
      have HSF := Lib.hid hs
      clear hs
      gi_wp2_with (refine ⟨trivial, ?_⟩; gi_at_call 31; refine (CallsIn.inRound l (callsIn_wide.2 HL1.out)).mono ?_; rintro e w3 ⟨rfl, hb3⟩; have HB3 := Lib.hid hb3; clear hb3)
      have hmk : (xs.map (·.1))[k]? = some m := by rw [List.getElem?_map, HX.out]; rfl
      refine ⟨⟨HB3.out.size, fun j o _ ho _ => (HB3.out.block j (Array.getElem?_eq_some_iff.1 ho).1).trans ho⟩, KeepT.of_below HB3.out, ?_⟩
      rw [take_snocA _ _ _ hmk]
      have hl : LeftIn w2.heap.size (w.heap.size + 1) to ((xs.map (·.1)).take k ++ [m]) w2 W := ⟨HKP.out, qa, qc, ys, HQ1.out, by rw [stayS_snoc, if_neg HSF.out]; exact HQ2.out, HQ3.out, HQ4.out, HQ5.out⟩
      exact hl.keepC (keepC_of_below HB3.out) (Kept.of_below HB3.out)
  case done =>
    intro D W hD hi hK
    rw [List.take_of_length_le (by simp)] at hi
    obtain ⟨hkp, qa, qc, ys, hq1, hq2, hq3, hq4, hq5⟩ := hi
    obtain ⟨hl1, hl2, hl3⟩ := HLT.out
    have hbgW : BagO BagT (fun k => S k ∧ k < w.heap.size) W b most v xs := HBG.out.keep hkp.size (fun g hg hl => hkp.block g hl (by have := hg.2; omega)) (fun _ _ hg => hg)
    have hlen : ∀ q, Calls Try.prog 21 #[ptrV b] (W.drewN q) fun e w' => e = .returned (.int .i64 (xs.length : Int)) ∧ ∃ r, w' = (W.drewN q).drewN r := fun q =>
      (Len_any (ms := xs.map (·.1)) ⟨v, xs, rfl, hbgW.keep (below_drewN (Below.refl W.heap.size W) q).size (fun g _ hl => (below_drewN (Below.refl W.heap.size W) q).block g hl) (fun _ _ hg => hg)⟩).mono (fun e w' hh => ⟨by rw [hh.1, List.length_map], 0, hh.2⟩)
    have cq := Lib.cell_of_heap hq1 0
    have hyl : ys.length ≤ xs.length := by
      have := congrArg List.length hq2
      have h2 := stayS_len (xs.map (·.1)) to
      rw [List.length_map] at this h2
      omega
    have hyn : Hid ((stayS (xs.map (·.1)) to).length = ys.length) := by show _ = _; rw [← hq2, List.length_map]
    have hwr : IntKind.i64.wrap ((xs.length : Int) - (ys.length : Int)) = (xs.length : Int) - (ys.length : Int) := IntWalk.i64_in _ (by omega)
    have HLEN := Lib.hid hlen
    have HKP := Lib.hid hkp
    have HQ1 := Lib.hid hq1
    have HQ2 := Lib.hid hq2
    have HQ3 := Lib.hid hq3
    have HQ4 := Lib.hid hq4
    have HQ5 := Lib.hid hq5
    have HBW := Lib.hid hbgW
    have HKD := Lib.hid hK
    clear hlen hkp hq1 hq2 hq3 hq4 hq5 hbgW hK hl1 hl2 hl3
    go_wp2_with fail
    go_quiet ((go_at_call 21; exact Calls.quiet_of (HLEN.out _)))
    obtain ⟨W1, hW1⟩ : ∃ W1, W1 = W.drewN nq := ⟨_, rfl⟩
    have hbW : Below W.heap.size W W1 := by rw [hW1]; exact below_drewN (Below.refl _ _) _
    have hK1 : W1.heap[D]? = some (.deferred (some [])) := (hbW.block D (Array.getElem?_eq_some_iff.1 HKD.out).1).trans HKD.out
    have hb1 : BagO BagT (fun k => S k ∧ k < w.heap.size) W1 b most v xs := HBW.out.keep hbW.size (fun g _ hl => hbW.block g hl) (fun _ _ hg => hg)
    have hk1 : Kept (fun j => j = w.heap.size + 1) w2 W1 := HKP.out.trans (Kept.of_below hbW)
    have hc1 : W1.cell? ⟨b, 1, none⟩ = some v := hb1.c1
    have hf1 := hb1.f 1
    have hh1 : W1.heap[b]? = _ := hb1.block
    have KW1 : Hid (Kept S w W1) := ⟨hk1.os.trans HB2.out.os, hk1.tape.trans HB2.out.tape, hk1.output.trans HB2.out.output, Nat.le_trans HB2.out.size hk1.size, fun j hj _ => (hk1.block j (by have := HB2.out.size; omega) (by omega)).trans (HB2.out.block j hj)⟩
    have row1 := Lib.hid (own_keep HQ3.out (fun g _ _ hl => hbW.block g hl))
    have li1 : Hid (∀ y ∈ ys, LI (fun j => w2.heap.size ≤ j ∧ (Value.slice qa ys.length qc).ownBlock ≠ some j) W1 y.1 y.2.1 y.2.2) := fun y hy => (HQ4.out y hy).below hbW
    have HK1 := Lib.hid hK1
    have HB1 := Lib.hid hb1
    have HD : Hid (w2.heap.size ≤ D) := hD
    have hDb : Hid (D ≠ b) := by have := HLT.out.2.1; have := HLT.out.2.2; show D ≠ b; omega
    rw [← hW1]
    have hputk : ∀ (W' : World), W'.heap[D]? = some (.deferred (some [])) → Kept S w W' → Kept S w (W'.putObj D (.deferred none)) := fun W' hd hk => ⟨hk.os, hk.tape, hk.output, by simp; exact hk.size, fun j hj hs => (World.putObj_heap_other (by have := HLT.out.2.2; have := HD.out; omega)).trans (hk.block j hj hs)⟩
    have HPK := Lib.hid hputk
    have hlS := HLT.out
    have cq1 : W1.cell? ⟨w.heap.size + 1, 0, none⟩ = some (.slice qa ys.length qc) := by rw [Lib.cell_of_heap ((hbW.block _ (Array.getElem?_eq_some_iff.1 HQ1.out).1).trans HQ1.out)]; rfl
    clear hbW hK1 hb1 hk1 hh1 hputk
    by_cases he : ys.length = xs.length
    · have hgi : ¬ (0 : Int) < (xs.length : Int) - (ys.length : Int) := by omega
      have HE := Lib.hid he
      clear he
      clear hW1
      go_wp2
      refine left_marks (fn := Try.f30) (D := D) (v := .int .i64 ((xs.length : Int) - (ys.length : Int))) (by rfl) HK1.out (results_tmp (t := 4) rfl _ _ _) ?_
      refine ⟨?_, ?_, HPK.out _ HK1.out KW1.out⟩
      · show Ending.returned (.int .i64 ((xs.length : Int) - (ys.length : Int))) = _
        rw [hyn.out]
      · have e := stayS_all (xs.map (·.1)) to (by rw [hyn.out, HE.out, List.length_map])
        rw [e]
        refine ⟨v, xs, rfl, HB1.out.keep (by simp) (fun g hg _ => World.putObj_heap_other (by have := hg.2; have := HD.out; omega)) (fun _ _ hg => hg.1)⟩
    · have hgi : (0 : Int) < (xs.length : Int) - (ys.length : Int) := by omega
      have hei : ys.length < xs.length := by omega
      have HE : Hid (ys.length < xs.length) := hei
      clear he
      clear hW1
      go_wp2
      have hK2 : (W1.setCell ⟨b, 1, none⟩ (.slice qa ys.length qc)).heap[D]? = some (.deferred (some [])) := (Below.heap_setCell _ _ _ _ hDb.out).trans HK1.out
      have hkS : Kept S w (W1.setCell ⟨b, 1, none⟩ (.slice qa ys.length qc)) := KW1.out.set (.inl HB1.out.mine.1) _
      refine left_marks (fn := Try.f30) (D := D) (v := .int .i64 ((xs.length : Int) - (ys.length : Int))) (by rfl) hK2 (results_tmp (t := 4) rfl _ _ _) ?_
      refine ⟨?_, ?_, HPK.out _ hK2 hkS⟩
      · show Ending.returned (.int .i64 ((xs.length : Int) - (ys.length : Int))) = _
        rw [hyn.out]
      · have hbo : BagO BagT S (W1.setCell ⟨b, 1, none⟩ (.slice qa ys.length qc)) b most (.slice qa ys.length qc) ys := by
          have hlt2 : ∀ g, (Value.slice qa ys.length qc).ownBlock = some g → w2.heap.size ≤ g := fun g hg => (row1.out.lt g hg).1
          refine ⟨HB1.out.mine.1, heap_set HB1.out.block, ⟨own_base (own_keep row1.out (fun g hg hb _ => Below.heap_setCell _ _ _ _ (fun e => by have e : g = b := e; omega))) (Nat.zero_le _), fun g hg => HS.out g (by have := hlt2 g hg; omega), fun y hy => ?_, HQ5.out⟩, Nat.le_trans (Nat.le_of_lt HE.out) HB1.out.fit, HB1.out.lim⟩
          have h1 := (li1.out y hy).keep (w' := W1.setCell ⟨b, 1, none⟩ (.slice qa ys.length qc)) (by simp [World.setCell]) (fun g hg _ => Below.heap_setCell _ _ _ _ (fun e => by have e : g = b := e; omega))
          exact h1.mono (fun j _ hj => ⟨HS.out j (by omega), by omega, hj.2⟩)
        exact ⟨_, ys, HQ2.out.symm, hbo.keepC (keepC_put _ hK2 rfl)⟩
  case stop => exact fun _ _ _ _ _ _ _ h _ => h.elim
end Go.Proofs.Ytheldpdckgoniaa
