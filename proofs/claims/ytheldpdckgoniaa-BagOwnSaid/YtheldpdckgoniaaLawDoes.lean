/- Whatever is done, in whatever order: each call answers, and what is there is, as the document says. -/
import Derived.Test.YtheldpdckgoniaaPair6
import Derived.Test.YtheldpdckgoniaaActs
import Derived.Test.YtheldpdckgoniaaWorks
import Derived.Deep.RegionHeld3
import Derived.Test.YtheldpdckgoniaaRound
import Derived.Sort.QuietIn
namespace Go.Proofs.Ytheldpdckgoniaa
open Go.RowKit
open Go.Sort (grow)

theorem left_plain {P : Program} {fn : Func} {a : Act} {w : World} {R : Ending → World → Prop} {v : Value} (hd : a.defers = [])
    (hr : (results fn a.tmps).run P w = .ok v w) (h : R (.returned v) w) : bodyPostM Fence.wide 3 P fn R .ret a w := by
  show LeavesInM _ _ _ _ _ _ a.defers _ _
  rw [hd]
  exact ⟨_, hr, h⟩
theorem range_walk2 {P : Program} {g : Operand} {ps : Array Tmp} {assign body : Code} {Q : Exit → Act → World → Prop} {A : Array Value} {w : World} {gf : Nat} {lb : Array Value} (hg : Act.eval { tmps := A, defers := [] } g = .func (.func gf) #[] lb) (eg : ∀ args w, (callFunc gf args).run P w = .ok (.enter gf args) w) (hps : ps.size = 2)
    {T : Nat → Prop} {N : Nat} {R : Nat → Nat → Value → World → Prop} (hseq : Comes P gf lb T N R w) (hn : ∀ k, T k → k < w.heap.size)
    (I : Nat → World → Prop) (Ix : Code → Nat → World → Prop) (hI : OwnFrom w.heap.size I) (hIx : ∀ c, OwnFrom w.heap.size (Ix c)) (h0 : I 0 w)
    (Ax : Array Value → Nat → Value → Act → World → Prop) (hAx : ∀ k v a', OwnFrom w.heap.size (fun (_ : Unit) W => Ax A k v a' W))
    (hassign : ∀ (l k : Nat) (v : Value) (W0 W : World) (K : Act → World → Prop), w.heap.size ≤ W0.heap.size → k < N → I k W0 → Below W0.heap.size W0 W → R W0.heap.size k v W → (∀ a' W', KeepsFrom w.heap.size W W' → KeepT T W W' → I k W' → Ax A k v a' W' → K a' W') →
      assign.wpIn (Fence.wide.inRound l) 1 P (Exit.then K (fun _ _ _ => False)) { tmps := (ps.zip #[.int .i64 (k : Int), v]).foldl (fun t (p, v) => t.setIfInBounds p v) A, defers := [] } W)
    (hbody : ∀ (l k : Nat) (v : Value) (a' : Act) (W : World), w.heap.size ≤ l → k < N → I k W → Ax A k v a' W → body.wpIn (Fence.wide.inRound l) 1 P (leftBy w.heap.size T (I (k + 1)) (fun c => Ix c (k + 1)) W) a' W)
    (hdone : ∀ (D : Nat) (W : World), w.heap.size ≤ D → I N W → W.heap[D]? = some (.deferred (some [])) → Q .normal { tmps := A, defers := [{ target := .collected D, args := #[] }] } W)
    (hstop : ∀ (D k : Nat) (c : Code) (W : World), w.heap.size ≤ D → 0 < k → k ≤ N → Ix c k W → W.heap[D]? = some (.deferred (some [])) → c.wp P Q { tmps := A, defers := [{ target := .collected D, args := #[] }] } W) :
    (Code.rangeFunc g ps assign body).wp P Q { tmps := A, defers := [] } w :=
  range_walk (a := { tmps := A, defers := [] }) hg eg hps hseq hn I Ix hI hIx h0 (Ax A) hAx hassign hbody hdone hstop
theorem kb_own {wq W W' : World} {kb : Nat} {row : Option Nat} (hlt : kb < wq.heap.size) {o : Obj} (h : W.heap[kb]? = some o ∧ Kept (fun j => j = kb) wq W) (hg : W.grownBy W' row) (hr : ∀ r, row = some r → wq.heap.size ≤ r ∧ ∃ o : Obj, W.heap[r]? = some o ∧ o.isCells = false) : W'.heap[kb]? = some o ∧ Kept (fun j => j = kb) wq W' :=
  ⟨(hg.block kb (Array.getElem?_eq_some_iff.1 h.1).1 (fun e => by have := (hr kb e.symm).1; omega)).trans h.1, kept_of_own h.2 (Nat.le_refl _) hg hr⟩
/-- a round's box -/
def BoxQ (base : Nat) (xs : List X) (k : Nat) (v : Value) (bm : Nat) (W : World) : Prop :=
  ∃ x la lc ea ec, xs[k]? = some x ∧ v = x.1.agg (.slice la x.1.l.length lc) (.slice ea x.1.es.length ec) ∧ W.heap[bm]? = some (msgO x.1 (.slice la x.1.l.length lc) (.slice ea x.1.es.length ec)) ∧ base ≤ bm ∧ LI (fun j => base ≤ j) W x.1 (.slice la x.1.l.length lc) (.slice ea x.1.es.length ec)
theorem BoxQ.own {base : Nat} {xs : List X} {k : Nat} {v : Value} {bm : Nat} {W W' : World} (h : BoxQ base xs k v bm W) (hk : KeepC W W') : BoxQ base xs k v bm W' := by
  obtain ⟨x, la, lc, ea, ec, h1, h2, h3, h4, h6⟩ := h
  exact ⟨x, la, lc, ea, ec, h1, h2, hk.2 _ _ h3 rfl, h4, h6.keepC hk⟩
theorem results_one {P : Program} {fn : Func} {p : Tmp} {ty : TypeId} {d : TypeDesc} {a : Addr} (h : fn.results = #[.cell p ty]) (tmps : Array Value) (w : World) (v : Value) (hp : tmps.getD p undef = .pointer (some a)) (hu : P.underlying ty = some d)
    (hd : (match d with | .struct _ | .array _ _ => true | _ => false) = false) (hc : w.cell? a = some v) : (results fn tmps).run P w = .ok v w := by
  have hp' : tmps[p]?.getD undef = .pointer (some a) := by simpa using hp
  have hagg : (isAgg ty).run P w = .ok false w := by
    unfold isAgg
    rw [Sem.run_bind, run_underlying hu w]
    cases d <;> simp_all
  simp [results, h, hp', asAddr, loadVar, Sem.run_bind, hagg, hc]
theorem takeS_len (ms : List Msg) (i : Int) : (takeS ms i).length ≤ ms.length := by
  unfold takeS
  split
  · exact List.length_eraseIdx_le _ _
  · exact Nat.le_refl _
theorem doubleS_len (most : Nat) (ms : List Msg) (i : Int) : (doubleS most ms i).2.length ≤ ms.length + 1 := by
  unfold doubleS
  split
  · simp
  · split <;> simp
theorem noMsg_sm : Sm noMsg := ⟨by simp [noMsg], by simp [noMsg], (by show (0 : Nat) ≤ _; omega), fun e he => by simp [noMsg] at he⟩
theorem getI_sm {ms : List Msg} (h : ∀ m ∈ ms, Sm m) (i : Int) : Sm ((getI ms i).getD noMsg) := by
  cases hg : getI ms i with
  | none => exact noMsg_sm
  | some m =>
    obtain ⟨k, _, _, e⟩ := getI_some hg
    exact h m (List.mem_of_getElem? e)
theorem below_set {B g j : Nat} {w w' : World} {u : Value} (h : Below B w w') (hB : B ≤ g) : Below B w (w'.setCell ⟨g, j, none⟩ u) :=
  ⟨h.os, h.tape, h.output, by simp [World.setCell]; exact h.size, fun k hk => (Below.heap_setCell _ _ _ _ (fun e => by have e : k = g := e; omega)).trans (h.block k hk)⟩
def putMsg (w : World) (g : Nat) (m : Msg) (lv ev : Value) : World := (((((((((((w.setCell ⟨g, 0, none⟩ (.int .u8 m.k)).setCell ⟨g, 1, none⟩ (.int .i64 m.f)).setCell ⟨g, 2, none⟩ (.int .i64 m.t)).setCell ⟨g, 3, none⟩ (.int .i64 m.tm)).setCell ⟨g, 4, none⟩ (.int .i64 m.a)).setCell ⟨g, 5, none⟩ (.int .i64 m.b)).setCell ⟨g, 6, none⟩ (.int .i64 m.c)).setCell ⟨g, 7, none⟩ (.bool m.ok)).setCell ⟨g, 8, none⟩ (lv)).setCell ⟨g, 9, none⟩ (ev)).setCell ⟨g, 10, none⟩ (.string m.d))
theorem putMsg_heap {w : World} {g : Nat} {m m0 : Msg} {lv ev lv0 ev0 : Value} (h : w.heap[g]? = some (msgO m0 lv0 ev0)) : (putMsg w g m lv ev).heap[g]? = some (msgO m lv ev) := by
  have e := (heap_set (j := 10) (u := .string m.d) (heap_set (j := 9) (u := ev) (heap_set (j := 8) (u := lv) (heap_set (j := 7) (u := .bool m.ok) (heap_set (j := 6) (u := .int .i64 m.c) (heap_set (j := 5) (u := .int .i64 m.b) (heap_set (j := 4) (u := .int .i64 m.a) (heap_set (j := 3) (u := .int .i64 m.tm) (heap_set (j := 2) (u := .int .i64 m.t) (heap_set (j := 1) (u := .int .i64 m.f) (heap_set (j := 0) (u := .int .u8 m.k) h)))))))))))
  simp only [List.setIfInBounds_toArray, List.set_cons_zero, List.set_cons_succ] at e
  unfold putMsg
  exact e
theorem putMsg_below {B g : Nat} {w w' : World} {m : Msg} {lv ev : Value} (h : Below B w w') (hB : B ≤ g) : Below B w (putMsg w' g m lv ev) := (below_set (below_set (below_set (below_set (below_set (below_set (below_set (below_set (below_set (below_set (below_set h hB) hB) hB) hB) hB) hB) hB) hB) hB) hB) hB)
theorem putMsg_kept {S : Nat → Prop} {w : World} {g : Nat} {m : Msg} {lv ev : Value} (hS : S g) : Kept S w (putMsg w g m lv ev) := by
  unfold putMsg
  exact ((((((((((((((((((((((Kept.refl S w).set (.inl hS) _)).set (.inl hS) _)).set (.inl hS) _)).set (.inl hS) _)).set (.inl hS) _)).set (.inl hS) _)).set (.inl hS) _)).set (.inl hS) _)).set (.inl hS) _)).set (.inl hS) _)).set (.inl hS) _)
theorem kept_set {S : Nat → Prop} {a w : World} {g j : Nat} {u : Value} (h : Kept S a w) (hg : a.heap.size ≤ g) : Kept S a (w.setCell ⟨g, j, none⟩ u) := h.set (.inr hg) u
theorem kept_drew {S : Nat → Prop} {a w : World} (h : Kept S a w) : Kept S a w.drew := h.drewN 1
theorem zero_kept {S : Nat → Prop} {w w' : World} (h : Kept S (w.alloc (.cells #[.int .u8 0, .int .i64 0, .int .i64 0, .int .i64 0, .int .i64 0, .int .i64 0, .int .i64 0, .bool false, .slice none 0 0, .slice none 0 0, .string ⟨#[]⟩] 38)).drew w') (hS : ¬ S w.heap.size) : w'.heap[w.heap.size]? = some (msgO noMsg (.slice none 0 0) (.slice none 0 0)) :=
  (h.block w.heap.size (by show w.heap.size < (w.alloc _).heap.size; simp) hS).trans (heap_alloc_new w _)
theorem below_put {B D : Nat} {w w' : World} {o : Obj} (h : Below B w w') (hD : B ≤ D) : Below B w (w'.putObj D o) :=
  ⟨h.os, h.tape, h.output, by simp; exact h.size, fun k hk => (World.putObj_heap_other (by omega)).trans (h.block k hk)⟩
theorem size_zd (w : World) (o : Obj) : (w.alloc o).drew.heap.size = w.heap.size + 1 := by show (w.alloc o).heap.size = _; simp
theorem zero_box {w w' : World} (h : Below (w.alloc (.cells #[.int .u8 0, .int .i64 0, .int .i64 0, .int .i64 0, .int .i64 0, .int .i64 0, .int .i64 0, .bool false, .slice none 0 0, .slice none 0 0, .string ⟨#[]⟩] 38)).drew.heap.size (w.alloc (.cells #[.int .u8 0, .int .i64 0, .int .i64 0, .int .i64 0, .int .i64 0, .int .i64 0, .int .i64 0, .bool false, .slice none 0 0, .slice none 0 0, .string ⟨#[]⟩] 38)).drew w') : w'.heap[w.heap.size]? = some (msgO noMsg (.slice none 0 0) (.slice none 0 0)) :=
  box_below (w := (w.alloc (.cells #[.int .u8 0, .int .i64 0, .int .i64 0, .int .i64 0, .int .i64 0, .int .i64 0, .int .i64 0, .bool false, .slice none 0 0, .slice none 0 0, .string ⟨#[]⟩] 38)).drew) (heap_alloc_new w _) h
theorem step_store_row {P : Program} {ops : Array Oper} {o : Oper} {a : Act} {w : World} {K : Act → World → Prop} {Q : Exit → Act → World → Prop} {E : Prop} (hgd : o.guard = none) (ty : TypeId) (x y : Operand) (ho : o.op = .store ty x y)
    (g : Nat) (cells : Array Value) (hx : a.eval x = .pointer (some ⟨g, 0, none⟩)) (hy : a.eval y = .agg cells)
    (t : TypeId) (old : Array Value) (hg : w.heap[g]? = some (.cells old t (0, 0))) (hi : (P.info? ty).map (·.size) = some cells.size)
    (hold : old.size = cells.size) (h1 : cells.all (·.oneCell') = true)
    (h : K (a.put o.dst undef) (w.setRow g cells)) : if Region.wanted o (yielded ops a.tmps) = true then Oper.wp P o a w K Q else E := by
  have hw : Region.wanted o (yielded ops a.tmps) = true := by simp [Region.wanted, hgd]
  rw [if_pos hw]
  exact wp_store_row ty x y ho g cells hx hy t old hg hi hold h1 h
attribute [local go_sem] Oper.semAt_some
set_option maxHeartbeats 8000000 in
set_option maxRecDepth 100000 in
theorem BagDoes_law {w0 : World} {v : Value} {l : List ActV} (most stop : Int) (hm : most ≤ 9223372036854775807) (h : ActsIn (fun k => k < w0.heap.size) w0 v l) (hl : l.length ≤ 9223372036854775807)
    (hk : ∀ a ∈ l, a.xs.length ≤ 9223372036854775807 ∧ ∀ x ∈ a.xs, x.1.l.length ≤ 9223372036854775807 ∧ x.1.es.length ≤ 9223372036854775807) (hsm : ∀ a ∈ l, ∀ x ∈ a.xs, x.1.d.size ≤ 281474976710656 ∧ ∀ e ∈ x.1.es, e.2.size ≤ 281474976710656) (hn : ∀ a ∈ l, 0 ≤ a.k ∧ a.n ≤ 9223372036854775807) :
    Calls Try.prog 3 #[.int .i64 most, v, .int .i64 stop] w0 fun e w' => e = .returned (.bool true) ∧ Below w0.heap.size w0 w' := by
  have HI : Hid ((Try.prog.info? 38).map (·.size) = some 11) := infoMsg
  obtain ⟨a0, c0, rfl, _⟩ := h.1.slice
  -- the two boxes
  obtain ⟨w1, hw1⟩ : ∃ w1, w1 = (w0.alloc (.cells #[.int .i64 stop] 3)).alloc (.cells #[.bool false] 4) := ⟨_, rfl⟩
  have hb1 : Below w0.heap.size w0 w1 := by rw [hw1]; exact ((Below.refl _ _).alloc (Nat.le_refl _) _).alloc (by simp) _
  have hf1 : w1.heap[w0.heap.size]? = some (.cells #[.int .i64 stop] 3 (0, 0)) := by rw [hw1]; exact (Below.heap_alloc _ _ _ (by simp)).trans (heap_alloc_new w0 _)
  have hl1 : w1.heap[w0.heap.size + 1]? = some (.cells #[.bool false] 4 (0, 0)) := by rw [hw1]; have := heap_alloc_new (w0.alloc (.cells #[.int .i64 stop] 3)) (.cells #[.bool false] 4); rwa [World.size_alloc] at this
  have hs1 : w1.heap.size = w0.heap.size + 2 := by rw [hw1]; simp
  have HA := Lib.hid hw1
  have HB1 := Lib.hid hb1
  have HF1 := Lib.hid hf1
  have HL1 := Lib.hid hl1
  have HS1 := Lib.hid hs1
  have H := Lib.hid h
  have HK := Lib.hid hk
  have HSM := Lib.hid hsm
  have HN := Lib.hid hn
  have HW := Lib.hid (works_any w1)
  clear h hk hsm hn hb1 hf1 hl1 hs1 hw1
  refine calls_marks Try.func3 rfl ?_
  simp only [Try.ntmps3, List.size_toArray, List.length_cons, List.length_nil, Nat.reduceAdd, Nat.reduceSub, Array.replicate_succ, Array.replicate_zero, List.push_toArray, List.append_toArray, List.nil_append, List.cons_append]
  go_wp2_with fail
  rw [← HA.out]
  refine HW.out.mono ?_
  rintro e w2 ⟨rfl, hb2⟩
  have hv2 : ActsIn (fun k => k < w0.heap.size) w2 (.slice a0 l.length c0) l := (H.out.below HB1.out).below (hb2.mono (Nat.le_refl _))
  have HB2 := Lib.hid hb2
  have c2 : w2.cell? ⟨w0.heap.size + 1, 0, none⟩ = some (.bool false) := by rw [Lib.cell_of_heap (box_below HL1.out hb2)]; rfl
  have f2 : w2.frozen? ⟨w0.heap.size + 1, 0, none⟩ = false := Lib.frozen_of_heap (box_below HL1.out hb2) 0
  clear hb2
  have HV2 := Lib.hid hv2
  have HH2 := Lib.hid (heavy_any hv2 hl HK.out)
  clear hv2 HW
  go_wp2_with fail
  refine HH2.out.mono ?_
  rintro e w3 ⟨⟨hv, rfl, hA⟩, hb3⟩
  cases hv with
  | true =>
    have c3 : w3.cell? ⟨w0.heap.size + 1, 0, none⟩ = some (.bool false) := (hb3.cell (p := ⟨w0.heap.size + 1, 0, none⟩) (World.block_lt_of_cell? _ _ c2)).trans c2
    have f3 : w3.frozen? ⟨w0.heap.size + 1, 0, none⟩ = false := (World.frozen?_of_block (a := ⟨w0.heap.size + 1, 0, none⟩) (hb3.block _ (World.block_lt_of_cell? _ _ c2))).trans f2
    have hBb : Hid (Below w0.heap.size w0 w3) := bw HB1.out (bw HB2.out hb3)
    clear hA hb3
    go_wp2
    exact left_plain rfl (results_one (p := 6) (a := ⟨w0.heap.size + 1, 0, none⟩) rfl _ _ _ rfl Try.underlying4 rfl (World.cell?_setCell_same _ _ _ (by rw [c3]))) ⟨rfl, below_set hBb.out (Nat.le_succ _)⟩
  | false =>
    obtain ⟨hl3, hA3⟩ := hA rfl
    have HA3 := Lib.hid hA3
    have HB3 : Hid (Below w1.heap.size w1 w3) := bw HB2.out hb3
    clear hA hA3 hb3
    go_wp2_with fail
    refine (New_any (S := fun k => w3.heap.size ≤ k) w3 (fun _ h => h) most hm).mono ?_
    rintro e w4 ⟨rfl, d4, b4⟩
    have D4 := Lib.hid d4
    have B4 := Lib.hid b4
    clear d4 b4
    go_wp2_with fail
    refine (refNew_any (S := fun k => w4.heap.size ≤ k) w4 (fun _ h => h) most hm).mono ?_
    rintro e w5 ⟨rfl, d5, b5⟩
    have t5 := TwoM.of (S := fun k => w3.heap.size ≤ k) D4.out b5 d5 (fun k hk => Nat.le_trans B4.out.size hk)
    obtain ⟨ws, hws⟩ : ∃ ws, ws = w5.alloc (.cells #[ptrV w4.heap.size] 27) := ⟨_, rfl⟩
    have b5s : Below w5.heap.size w5 ws := by rw [hws]; exact (Below.refl _ _).alloc (Nat.le_refl _) _
    have b1s : Below w1.heap.size w1 ws := bw HB3.out (bw B4.out (bw b5 b5s))
    have HB0S : Hid (Below w0.heap.size w0 ws) := bw HB1.out b1s
    have HT : Hid (TwoM (fun k => w3.heap.size ≤ k ∧ k ≠ w5.heap.size) ws w3.heap.size w4.heap.size most.toNat [] []) := (t5.mono (fun k hl hk => ⟨hk, by omega⟩)).below b5s
    have HX : Hid (ws.heap[w5.heap.size]? = some (.cells #[ptrV w4.heap.size] 27 (0, 0))) := by rw [hws]; exact heap_alloc_new w5 _
    have HFS := Lib.hid (box_below HF1.out b1s)
    have HLS := Lib.hid (box_below HL1.out b1s)
    have HVS : Hid (ActsIn (fun k => k < w0.heap.size) ws (.slice a0 l.length c0) l) := (H.out.below HB1.out).below b1s
    have HSZ : Hid (w0.heap.size + 2 ≤ w3.heap.size ∧ w3.heap.size ≤ w5.heap.size ∧ w5.heap.size < ws.heap.size) := ⟨by rw [← HS1.out]; exact HB3.out.size, Nat.le_trans B4.out.size b5.size, by rw [hws]; simp⟩
    go_wp2_with fail
    rw [← hws]
    clear hws t5 b5s b1s b5 d5 D4 B4 HB3 HF1 HL1 HB1 HA
    generalize w3.heap.size = bb at *
    generalize w4.heap.size = rb at *
    generalize w5.heap.size = rx at *
    generalize most.toNat = M at *
    go_wp2
    go_loopw [11] (fun i wr => ∃ (k : Nat) (ms : List Msg), k ≤ l.length ∧ i = .int .i64 k ∧ Hid (TwoM (fun k => bb ≤ k ∧ k ≠ rx) wr bb rb M ms ms) ∧ Hid (Kept (fun k => bb ≤ k ∧ k ≠ rx) ws wr) ∧ Hid (ms.length ≤ 100 * k)) (fun i _ => l.length - (intOf i).toNat)
    case atStart => exact ⟨0, [], by omega, rfl, HT, Kept.refl _ _, Nat.zero_le _⟩
    case round =>
    obtain ⟨k, ms, hkl, rfl, HTW, KR, HML⟩ := hrel
    by_cases hlt : k < l.length
    case neg =>
      have hke : k = l.length := by omega
      have hms : ms.length ≤ 30100 := by have := HML.out; omega
      obtain ⟨Sa, Sb, a1, a2, a3, a4, a5⟩ := HTW.out
      obtain ⟨v1, xs, hmx, hbo⟩ := a1
      obtain ⟨v2, ys, hmy, hbr⟩ := a2
      have hxl : xs.length = ms.length := by rw [hmx, List.length_map]
      have hyl : ys.length = ms.length := by rw [hmy, List.length_map]
      obtain ⟨wa, hwa⟩ : ∃ wa, wa = wr.alloc (.cells #[.int .i64 0] 3) := ⟨_, rfl⟩
      have hba : Below wr.heap.size wr wa := by rw [hwa]; exact (Below.refl _ _).alloc (Nat.le_refl _) _
      have hka : wa.heap[wr.heap.size]? = some (.cells #[.int .i64 0] 3 (0, 0)) := by rw [hwa]; exact heap_alloc_new wr _
      have hsa : wa.heap.size = wr.heap.size + 1 := by rw [hwa]; simp
      have hboa := hbo.keep (S' := Sa) hba.size (fun g _ hl => hba.block g hl) (fun _ _ hg => hg)
      have hbra := hbr.keep (S' := Sb) hba.size (fun g _ hl => hba.block g hl) (fun _ _ hg => hg)
      have hall := All_any hboa (by omega)
      have hbr2 : Sb rb := hbr.mine
      have HALL := Lib.hid hall
      have HKA := Lib.hid hka
      have HBRA := Lib.hid hbra
      have HWA := Lib.hid hwa
      have HBA := Lib.hid hba
      have HMX := Lib.hid hmx
      have HMY := Lib.hid hmy
      have HA5 := Lib.hid a5
      have HA4 := Lib.hid a4
      clear hall hka hbra hwa hba hmx hmy hbo hbr hboa a5 a4 a3
      go_wp2_with fail
      rw [← HWA.out]
      refine HALL.out.mono ?_
      rintro e wq ⟨bx, v', rfl, hat, hb2⟩
      obtain ⟨kb, hkb⟩ : ∃ kb, kb = wr.heap.size := ⟨_, rfl⟩
      rw [← hkb] at HKA ⊢
      have hwq := hb2.size
      have hrxs := HSZ.out
      have hbq : Below wr.heap.size wr wq := bw HBA.out hb2
      have hksz := KR.out.size
      have HB0Q : Hid (Below w0.heap.size w0 wq) := (HB0S.out.trans (KR.out.below HB0S.out.size (fun k hk => by have := HSZ.out; omega))).trans (hbq.mono (Nat.le_trans HB0S.out.size KR.out.size))
      have HKQ := Lib.hid (box_below HKA.out hb2)
      have HXQ : Hid (wq.heap[rx]? = some (.cells #[ptrV rb] 27 (0, 0))) := (hbq.block rx (by omega)).trans ((KR.out.block rx (by omega) (fun h => h.2 rfl)).trans HX.out)
      have HFQ : Hid (wq.heap[w0.heap.size]? = some (.cells #[.int .i64 stop] 3 (0, 0))) := (hbq.block _ (by omega)).trans ((KR.out.block _ (by omega) (by omega)).trans HFS.out)
      have HLQ : Hid (wq.heap[w0.heap.size + 1]? = some (.cells #[.bool false] 4 (0, 0))) := (hbq.block _ (by omega)).trans ((KR.out.block _ (by omega) (by omega)).trans HLS.out)
      have HBRQ : Hid (BagO RefT Sb wq rb M v2 ys) := HBRA.out.keep hb2.size (fun g _ hl => hb2.block g hl) (fun _ _ hg => hg)
      have NRB : Hid (rb ≠ w0.heap.size + 1) := by have := (HA5.out rb hbr2).1.1; have := HSZ.out; show rb ≠ _; omega
      have HSB : Hid (∀ j, Sb j → j < kb) := fun j hj => by rw [hkb]; exact (HA5.out j hj).2
      have HLT : Hid (w0.heap.size + 1 < rx ∧ rx < kb ∧ kb < wq.heap.size) := ⟨by omega, by omega, by omega⟩
      have hTl : Hid (∀ j, ((Sa j ∧ j < wa.heap.size ∧ j ≠ bb) ∨ (wa.heap.size ≤ j ∧ j < wq.heap.size)) → j < wq.heap.size ∧ j ≠ kb) := fun j hj => by
        rcases hj with ⟨h1, h2, _⟩ | ⟨h1, h2⟩
        · have := (HA4.out j h1).2; exact ⟨by omega, by omega⟩
        · exact ⟨h2, by omega⟩
      have hcm := all_comes hat (by omega)
      have HC := Lib.hid hcm
      have HXSM : Hid (∀ x ∈ xs, Sm x.1) := hat.sm
      have HXY : Hid (∀ (j : Nat) x y, xs[j]? = some x → ys[j]? = some y → x.1 = y.1) := fun j x y h1 h2 => by
        have e := congrArg (fun z => z[j]?) (HMX.out.symm.trans HMY.out)
        simp only [List.getElem?_map, h1, h2, Option.map_some, Option.some.injEq] at e
        exact e
      obtain ⟨ra, rc, rfl⟩ := HBRQ.out.rm.slice
      have hxy : xs.length = ys.length := by omega
      have hyb : ys.length ≤ 30100 := by omega
      clear hat hb2 hcm HALL HKA HBRA HWA HBA hwq hrxs hbq hksz HMX HMY HA5 HA4 hkb hxl hyl hms hke hlt hkl HML HTW KR HX HFS HLS HVS HT HSZ HA3 HV2 HB2 c2 f2 H HSM HN hsa
      go_wp2
      refine range_walk2 (gf := 35) (lb := #[ptrV bx]) rfl (enters_of Try.func35 (by kernel_rfl) rfl) rfl HC.out (fun k hk => (hTl.out k hk).1)
        (fun k W => W.heap[kb]? = some (.cells #[.int .i64 (k : Int)] 3 (0, 0)) ∧ Kept (fun j => j = kb) wq W)
        (fun c k W => ∃ j : Nat, k = j + 1 ∧ c = .exit 3 ∧ stop = (j : Int) ∧ W.heap[kb]? = some (.cells #[.int .i64 (j : Int)] 3 (0, 0)) ∧ Kept (fun j => j = kb) wq W)
        (fun k W W' row h hg hr => kb_own HLT.out.2.2 h hg hr)
        (fun c k W W' row h hg hr => by obtain ⟨j, h1, h2, h3, h4⟩ := h; exact ⟨j, h1, h2, h3, kb_own HLT.out.2.2 h4 hg hr⟩) ⟨HKQ.out, Kept.refl _ _⟩
        (fun A k v a' W => ∃ bm, BoxQ wq.heap.size xs k v bm W ∧ a' = { tmps := (((A.setIfInBounds 171 (.int .i64 (k : Int))).setIfInBounds 172 v).setIfInBounds 22 (.int .i64 (k : Int))).setIfInBounds 23 (ptrV bm), defers := [] })
        (fun k v a' s W W' row h hg hr => by obtain ⟨bm, h1, h2⟩ := h; exact ⟨bm, h1.own (KeepC.of_own hg hr), h2⟩) ?assign ?body ?done ?stop
      case assign =>
        intro l k v W0 W K hsz hk hi hb hr hK
        obtain ⟨x, la, lc, ea, ec, hx, rfl, hli⟩ := hr
        have hiW : W.heap[kb]? = _ ∧ Kept (fun j => j = kb) wq W := ⟨box_below hi.1 hb, hi.2.trans (Kept.of_below hb)⟩
        have hsz2 := hb.size
        have hbx := fun W' (hW' : W' = W.alloc (.cells (x.1.arr (.slice la x.1.l.length lc) (.slice ea x.1.es.length ec)) 38)) =>
          have hal : Below W.heap.size W W' := by rw [hW']; exact (Below.refl _ _).alloc (Nat.le_refl _) _
          hK _ W' (by rw [hW']; exact (KeepsOthers.alloc _ _).from _) (KeepT.of_below hal) ⟨box_below hiW.1 hal, hiW.2.trans (Kept.of_below hal)⟩ ⟨W.heap.size, ⟨x, la, lc, ea, ec, hx, rfl, by rw [hW']; exact heap_alloc_new W _, by omega, (hli.mono (fun j _ hj => by omega)).below hal⟩, rfl⟩
        simp only [List.setIfInBounds_toArray, List.set_cons_zero, List.set_cons_succ] at hbx
        have HK := Lib.hid hbx
        clear hK hbx hli hiW hi hb
        gi_wp2
        exact HK.out _ rfl
      case body =>
        rintro l k v a' W hl hk ⟨hkb, hkp⟩ ⟨bm, ⟨x, la, lc, ea, ec, hx, rfl, hbm, hbm2, hli⟩, rfl⟩
        simp only [List.setIfInBounds_toArray, List.set_cons_zero, List.set_cons_succ]
        obtain ⟨hl1, hl2, hl3⟩ := HLT.out
        obtain ⟨y, hy⟩ : ∃ y, ys[k]? = some y := ⟨ys[k]'(by omega), List.getElem?_eq_getElem (by omega)⟩
        have hxe := HXY.out k x y hx hy
        have hbrW : BagO RefT Sb W rb M (.slice ra ys.length rc) ys := HBRQ.out.keep hkp.size (fun g hg hl => hkp.block g hl (by have := HSB.out g hg; omega)) (fun _ _ hg => hg)
        have hxr : W.heap[rx]? = some (.cells #[ptrV rb] 27 (0, 0)) := (hkp.block _ (by omega) (by omega)).trans HXQ.out
        have hfr : W.heap[w0.heap.size]? = some (.cells #[.int .i64 stop] 3 (0, 0)) := (hkp.block _ (by omega) (by omega)).trans HFQ.out
        have ck : W.cell? ⟨kb, 0, none⟩ = some (.int .i64 (k : Int)) := by rw [Lib.cell_of_heap hkb]; rfl
        have fk := Lib.frozen_of_heap hkb 0
        have cx : W.cell? ⟨rx, 0, none⟩ = some (ptrV rb) := by rw [Lib.cell_of_heap hxr]; rfl
        have cs : W.cell? ⟨w0.heap.size, 0, none⟩ = some (.int .i64 stop) := by rw [Lib.cell_of_heap hfr]; rfl
        have cr := hbrW.c1
        have hlr := hbrW.rm.li y (List.mem_of_getElem? hy)
        obtain ⟨⟨ya, yc, e8⟩, za, zc, e9⟩ := hlr.slv
        obtain ⟨g, off, rfl, -, hcap, -, hgl, x0, x1, x2, x3, x4, x5, x6, x7, x8, x9, x10⟩ := hbrW.rm.msgs.get hy
        obtain ⟨m, lw, ew⟩ := x
        obtain ⟨m', lw', ew'⟩ := y
        simp only at hxe hbm hli e8 e9 x0 x1 x2 x3 x4 x5 x6 x7 x8 x9 x10 hlr
        subst hxe e8 e9
        obtain ⟨y0, y1, y2, y3, y4, y5, y6, y7, y8, y9, y10, -⟩ := box_cells hbm
        have hsx := HXSM.out _ (List.mem_of_getElem? hx)
        have HSMC : Hid (∀ w', Below W.heap.size W w' → Calls Try.prog 14 #[m.agg (.slice la m.l.length lc) (.slice ea m.es.length ec), m.agg (.slice ya m.l.length yc) (.slice za m.es.length zc)] w' fun e w'' => SameQ (m = m) e ∧ Below w'.heap.size w' w'') := fun w' hb => sameM_any (hli.below hb) (hlr.below hb) hsx hsx
        have hki : (k : Int) < (ys.length : Int) := by omega
        have HKB := Lib.hid hkb
        have HKP := Lib.hid hkp
        clear hlr hli hbm hx hy hbrW hxr hfr hsx hkb hkp
        have hd : decide ((ys.length : Int) ≤ (k : Int)) = false := by simp; omega
        have hdn : decide (ys.length ≤ k) = false := by simp; omega
        have hwk : IntKind.i64.wrap ((k : Int) + 1) = (k : Int) + 1 := IntWalk.i64_in _ (by omega)
        gi_wp2
        refine quiet_round_lit rfl (by kernel_rfl) (by kernel_rfl) (by kernel_rfl) ?_
        repeat (gi_big_quiet_step (fail))
        refine wpQuietIn_nil ?_
        intro _ hw'
        obtain ⟨nq, hw''⟩ := hw'
        subst hw''
        obtain ⟨W1, hW1⟩ : ∃ W1, W1 = W.drewN nq := ⟨_, rfl⟩
        have hh : W1.heap = W.heap := by rw [hW1]; exact heap_drewN _ _
        have hb1 : Below W.heap.size W W1 := by rw [hW1]; exact below_drewN (Below.refl _ _) _
        have e1 : ∀ a, W.cell? a = W1.cell? a := fun a => by unfold World.cell?; rw [hh]
        have fk1 : W1.frozen? ⟨kb, 0, none⟩ = false := Lib.frozen_of_heap (by rw [hh]; exact HKB.out) 0
        rw [e1] at ck cx cs cr x0 x1 x2 x3 x4 x5 x6 x7 x8 x9 x10 y0 y1 y2 y3 y4 y5 y6 y7 y8 y9 y10
        rw [← hW1]
        have HB1 := Lib.hid hb1
        have HCQ : Hid (∀ (r : Nat) d os, CallsIn Fence.wide r Try.prog 14 #[m.agg (.slice la m.l.length lc) (.slice ea m.es.length ec), m.agg (.slice ya m.l.length yc) (.slice za m.es.length zc)] (grow (redrawn W1 d) os) fun e w'' => e = .returned (.bool true) ∧ ∃ p : Regrown, w'' = grow (redrawn W1 p.d) p.os) := fun r d os =>
          CallsIn.regrown_of (callsIn_wide.2 ((HSMC.out _ (bw HB1.out (Go.below_regrown W1 d os))).mono (fun e w'' hh => by obtain ⟨⟨bv, h1, h2⟩, h3⟩ := hh; exact ⟨by rw [h1, h2 trivial], h3⟩)))
        clear hW1 hh hb1 e1 fk
        gi_wp2
        have gck := fun d os => cell_regrown ck d os
        have gcx := fun d os => cell_regrown cx d os
        have gcr := fun d os => cell_regrown cr d os
        have gx0 := fun d os => cell_regrown x0 d os
        have gx1 := fun d os => cell_regrown x1 d os
        have gx2 := fun d os => cell_regrown x2 d os
        have gx3 := fun d os => cell_regrown x3 d os
        have gx4 := fun d os => cell_regrown x4 d os
        have gx5 := fun d os => cell_regrown x5 d os
        have gx6 := fun d os => cell_regrown x6 d os
        have gx7 := fun d os => cell_regrown x7 d os
        have gx8 := fun d os => cell_regrown x8 d os
        have gx9 := fun d os => cell_regrown x9 d os
        have gx10 := fun d os => cell_regrown x10 d os
        have gy0 := fun d os => cell_regrown y0 d os
        have gy1 := fun d os => cell_regrown y1 d os
        have gy2 := fun d os => cell_regrown y2 d os
        have gy3 := fun d os => cell_regrown y3 d os
        have gy4 := fun d os => cell_regrown y4 d os
        have gy5 := fun d os => cell_regrown y5 d os
        have gy6 := fun d os => cell_regrown y6 d os
        have gy7 := fun d os => cell_regrown y7 d os
        have gy8 := fun d os => cell_regrown y8 d os
        have gy9 := fun d os => cell_regrown y9 d os
        have gy10 := fun d os => cell_regrown y10 d os
        have ckk := Lib.hid ck
        clear ck cx cr x0 x1 x2 x3 x4 x5 x6 x7 x8 x9 x10 y0 y1 y2 y3 y4 y5 y6 y7 y8 y9 y10
        refine quiet_round_below rfl (by kernel_rfl) (by kernel_rfl) (by kernel_rfl) ?_
        iterate 8 (quiet_step_in (fail))
        refine wpQuietIn_step (fun _ _ _ _ => trivial) (fun K hK => ?_)
        go_simp
        apply Exists.intro
        refine ⟨fun _ => ?_, hK _ ?_⟩
        first
          | exact ⟨trivial, HCQ.out _ _ _⟩
          | exact HCQ.out _ _ _
        clear hK K
        quiet_step_in (fail)
        refine wpQuietIn_nil ?_
        intro _ hw'
        obtain ⟨⟨dq, osq⟩, hw''⟩ := hw'
        subst hw''
        obtain ⟨W2, hW2⟩ : ∃ W2, W2 = grow (redrawn W1 dq) osq := ⟨_, rfl⟩
        have hb2 : Below W1.heap.size W1 W2 := by rw [hW2]; exact Go.below_regrown W1 dq osq
        have ck2 : W2.cell? ⟨kb, 0, none⟩ = some (.int .i64 (k : Int)) := by rw [hW2]; exact gck dq osq
        have cs2 : W2.cell? ⟨w0.heap.size, 0, none⟩ = some (.int .i64 stop) := by rw [hW2]; exact cell_regrown cs dq osq
        have fk2 : W2.frozen? ⟨kb, 0, none⟩ = false := (World.frozen?_of_block (a := ⟨kb, 0, none⟩) (hb2.block kb (World.block_lt_of_cell? _ _ ckk.out))).trans fk1
        have HB2 := Lib.hid (bw HB1.out hb2)
        rw [← hW2]
        clear hW2 hb2 gck gcx gcr gx0 gy0 gx1 gy1 gx2 gy2 gx3 gy3 gx4 gy4 gx5 gy5 gx6 gy6 gx7 gy7 gx8 gy8 gx9 gy9 gx10 gy10 fk1 cs ckk HCQ HSMC
        by_cases hst : (k : Int) = stop
        · gi_wp2
          exact ⟨⟨HB2.out.size, fun j o _ ho _ => (HB2.out.block j (Array.getElem?_eq_some_iff.1 ho).1).trans ho⟩, k, rfl, rfl, hst.symm, box_below HKB.out HB2.out, HKP.out.trans (Kept.of_below HB2.out)⟩
        · gi_wp2
          refine ⟨⟨by simp [World.setCell]; exact HB2.out.size, fun j o hj ho _ => (Below.heap_setCell _ _ _ _ (fun e => by have e : j = kb := e; omega)).trans ((HB2.out.block j (Array.getElem?_eq_some_iff.1 ho).1).trans ho)⟩, (KeepT.of_below HB2.out).set (fun h => (hTl.out _ h).2 rfl) _, ?_, (HKP.out.trans (Kept.of_below HB2.out)).set (.inl rfl) _⟩
          exact (heap_set (box_below HKB.out HB2.out)).trans (by simp)
      case done =>
        intro D W hD hi hKD
        obtain ⟨hkb, hkp⟩ := hi
        rw [hxy] at hkb
        obtain ⟨hl1, hl2, hl3⟩ := HLT.out
        have hbrW : BagO RefT Sb W rb M (.slice ra ys.length rc) ys := HBRQ.out.keep hkp.size (fun g hg hl => hkp.block g hl (by have := HSB.out g hg; omega)) (fun _ _ hg => hg)
        have hxr : W.heap[rx]? = some (.cells #[ptrV rb] 27 (0, 0)) := (hkp.block _ (by omega) (by omega)).trans HXQ.out
        have hfr : W.heap[w0.heap.size]? = some (.cells #[.int .i64 stop] 3 (0, 0)) := (hkp.block _ (by omega) (by omega)).trans HFQ.out
        have hlr : W.heap[w0.heap.size + 1]? = some (.cells #[.bool false] 4 (0, 0)) := (hkp.block _ (by omega) (by omega)).trans HLQ.out
        have ck : W.cell? ⟨kb, 0, none⟩ = some (.int .i64 (ys.length : Int)) := by rw [Lib.cell_of_heap hkb]; rfl
        have cx : W.cell? ⟨rx, 0, none⟩ = some (ptrV rb) := by rw [Lib.cell_of_heap hxr]; rfl
        have cs : W.cell? ⟨w0.heap.size, 0, none⟩ = some (.int .i64 stop) := by rw [Lib.cell_of_heap hfr]; rfl
        have cl : W.cell? ⟨w0.heap.size + 1, 0, none⟩ = some (.bool false) := by rw [Lib.cell_of_heap hlr]; rfl
        have fl : W.frozen? ⟨w0.heap.size + 1, 0, none⟩ = false := Lib.frozen_of_heap hlr 0
        have cr := hbrW.c1
        have hbW : Hid (Below w0.heap.size w0 W) := HB0Q.out.trans (hkp.below HB0Q.out.size (fun k hk => by omega))
        have HKD := Lib.hid hKD
        clear hKD hbrW hxr hfr hlr hkb hkp
        go_wp2_with fail
        go_region
        all_goals
          go_wp2
          refine left_marks (D := D) (v := .bool true) rfl ((Below.heap_setCell _ _ _ _ (fun e => by have e : D = w0.heap.size + 1 := e; omega)).trans HKD.out) (results_one (p := 6) (a := ⟨w0.heap.size + 1, 0, none⟩) rfl _ _ _ rfl Try.underlying4 rfl ((World.cell?_of_block (a := ⟨w0.heap.size + 1, 0, none⟩) (World.putObj_heap_other (fun e => by have e : w0.heap.size + 1 = D := e; omega))).trans (World.cell?_setCell_same _ _ _ cl))) ⟨rfl, by first | exact below_put (below_set (Below.drew hbW.out) (Nat.le_succ _)) (by omega) | exact below_put (Below.drew (below_set hbW.out (Nat.le_succ _))) (by omega)⟩
      case stop =>
        rintro D k c W hD hk0 hkN ⟨j, rfl, rfl, hst, hkb, hkp⟩ hKD
        have hne : decide ((j : Int) = (ys.length : Int)) = false := by simp; omega
        have hnn : decide (j = ys.length) = false := by simp; omega
        have hn3 : ¬ (j : Int) = (ys.length : Int) := by omega
        have hn4 : ¬ j = ys.length := by omega
        have hbe : ((j : Int) == (ys.length : Int)) = false := by simp; omega
        have hbn : (j == ys.length) = false := by simp; omega
        subst hst
        obtain ⟨hl1, hl2, hl3⟩ := HLT.out
        have hbrW : BagO RefT Sb W rb M (.slice ra ys.length rc) ys := HBRQ.out.keep hkp.size (fun g hg hl => hkp.block g hl (by have := HSB.out g hg; omega)) (fun _ _ hg => hg)
        have hxr : W.heap[rx]? = some (.cells #[ptrV rb] 27 (0, 0)) := (hkp.block _ (by omega) (by omega)).trans HXQ.out
        have hfr : W.heap[w0.heap.size]? = some (.cells #[.int .i64 (j : Int)] 3 (0, 0)) := (hkp.block _ (by omega) (by omega)).trans HFQ.out
        have hlr : W.heap[w0.heap.size + 1]? = some (.cells #[.bool false] 4 (0, 0)) := (hkp.block _ (by omega) (by omega)).trans HLQ.out
        have ck : W.cell? ⟨kb, 0, none⟩ = some (.int .i64 (j : Int)) := by rw [Lib.cell_of_heap hkb]; rfl
        have cx : W.cell? ⟨rx, 0, none⟩ = some (ptrV rb) := by rw [Lib.cell_of_heap hxr]; rfl
        have cs : W.cell? ⟨w0.heap.size, 0, none⟩ = some (.int .i64 (j : Int)) := by rw [Lib.cell_of_heap hfr]; rfl
        have cl : W.cell? ⟨w0.heap.size + 1, 0, none⟩ = some (.bool false) := by rw [Lib.cell_of_heap hlr]; rfl
        have fl : W.frozen? ⟨w0.heap.size + 1, 0, none⟩ = false := Lib.frozen_of_heap hlr 0
        have cr := hbrW.c1
        have hbW : Hid (Below w0.heap.size w0 W) := HB0Q.out.trans (hkp.below HB0Q.out.size (fun k hk => by omega))
        have HKD := Lib.hid hKD
        clear hKD hbrW hxr hfr hlr hkb hkp
        go_wp2_with fail
        have n1 : ¬ kb = w0.heap.size + 1 := by omega
        have n1' : ¬ w0.heap.size + 1 = kb := by omega
        have n2' : ¬ w0.heap.size + 1 = rx := by omega
        have n3' : ¬ w0.heap.size + 1 = rb := by have := NRB.out; omega
        have n2 : ¬ rx = w0.heap.size + 1 := by omega
        have n3 : ¬ rb = w0.heap.size + 1 := by have := NRB.out; omega
        go_region_held3 (fun w' => w'.cell? ⟨kb, 0, none⟩ = some (.int .i64 (j : Int)) ∧ w'.cell? ⟨rx, 0, none⟩ = some (ptrV rb) ∧ w'.cell? ⟨rb, 1, none⟩ = some (.slice ra ys.length rc) ∧ w'.cell? ⟨w0.heap.size, 0, none⟩ = some (.int .i64 (j : Int)))
          (first | exact ⟨ck, cx, cr, cs⟩ | exact ⟨(World.cell?_setCell_other_block _ _ _ _ n1).trans ck, (World.cell?_setCell_other_block _ _ _ _ n2).trans cx, (World.cell?_setCell_other_block _ _ _ _ n3).trans cr, (World.cell?_setCell_other_block _ _ _ _ (by omega)).trans cs⟩ | go_keep) (fail)
        all_goals
          go_wp2
          refine left_marks (D := D) (v := .bool true) rfl ((Below.heap_setCell _ _ _ _ (fun e => by have e : D = w0.heap.size + 1 := e; omega)).trans HKD.out) (results_one (p := 6) (a := ⟨w0.heap.size + 1, 0, none⟩) rfl _ _ _ rfl Try.underlying4 rfl ((World.cell?_of_block (a := ⟨w0.heap.size + 1, 0, none⟩) (World.putObj_heap_other (fun e => by have e : w0.heap.size + 1 = D := e; omega))).trans (World.cell?_setCell_same _ _ _ cl))) ⟨rfl, by first | exact below_put (below_set (Below.drew hbW.out) (Nat.le_succ _)) (by omega) | exact below_put (Below.drew (below_set hbW.out (Nat.le_succ _))) (by omega)⟩
    have hlti : (k : Int) < (l.length : Int) := by omega
    obtain ⟨x, hx⟩ : ∃ x, l[k]? = some x := ⟨l[k], List.getElem?_eq_getElem hlt⟩
    have hmem := List.mem_of_getElem? hx
    have hvr : ActsIn (fun k => k < w0.heap.size) wr (.slice a0 l.length c0) l := HVS.out.keep KR.out.size (fun g hg hl => KR.out.block g hl (by have := HSZ.out; omega))
    obtain ⟨ab, ao, rfl, -, hcap, habl, x0, x1, x2, hxm⟩ := hvr.get hx
    have hn5 := HN.out x hmem
    have HSX : Hid (∀ y ∈ x.xs, Sm y.1) := fun y hy => ⟨Nat.le_trans ((HA3.out x hmem).2 y hy).1 (by decide), Nat.le_trans ((HA3.out x hmem).2 y hy).2 (by decide), (HSM.out x hmem y hy).1, (HSM.out x hmem y hy).2⟩
    have hxs := (HA3.out x hmem).1
    have HRX : Hid (bb ≤ rx ∧ rx < wr.heap.size) := ⟨HSZ.out.2.1, Nat.lt_of_lt_of_le HSZ.out.2.2 KR.out.size⟩
    obtain ⟨xa, xc, hxa, _⟩ := hxm.1.slice
    rw [hxa] at x2 hxm
    have cx : wr.cell? ⟨rx, 0, none⟩ = some (ptrV rb) := by rw [Lib.cell_of_heap ((KR.out.block _ HSZ.out.2.2 (fun h => h.2 rfl)).trans HX.out)]; rfl
    have hab0 : ab < w0.heap.size := by
      obtain ⟨a', c', e, _, _, h3⟩ := hvr.1
      rcases h3 with h3 | ⟨b, off, e2, hb, _⟩
      · omega
      · cases e; cases e2; exact hb
    have HC : Hid (∀ w', Kept (fun k => bb ≤ k ∧ k ≠ rx) wr w' → w'.cell? ⟨ab, ao + k * 3, none⟩ = some (.int .u8 x.k) ∧ w'.cell? ⟨ab, ao + k * 3 + 1, none⟩ = some (.int .i64 x.n) ∧ w'.cell? ⟨rx, 0, none⟩ = some (ptrV rb) ∧ w'.cell? ⟨ab, ao + k * 3 + 2, none⟩ = some (.slice xa x.xs.length xc) ∧ MsgsIn (fun k => ¬ (bb ≤ k ∧ k ≠ rx)) w' (.slice xa x.xs.length xc) x.xs) := fun w' hk => by
      have hq := HSZ.out
      have e : ∀ j, w'.cell? ⟨ab, j, none⟩ = wr.cell? ⟨ab, j, none⟩ := fun j => World.cell?_of_block (a := ⟨ab, j, none⟩) (hk.block ab habl (by omega))
      have e2 : w'.cell? ⟨rx, 0, none⟩ = wr.cell? ⟨rx, 0, none⟩ := World.cell?_of_block (a := ⟨rx, 0, none⟩) (hk.block rx HRX.out.2 (fun h => h.2 rfl))
      exact ⟨(e _).trans x0, (e _).trans x1, e2.trans cx, (e _).trans x2, (hxm.mono (fun j _ hj => by omega)).off hk⟩
    have hms : ms.length ≤ 30100 := by have := HML.out; omega
    have hml := HML.out
    obtain ⟨r, hr⟩ : ∃ r, r = x.k.toNat % 5 := ⟨_, rfl⟩
    have hit : x.k.tmod 5 = (r : Int) := by rw [Int.tmod_eq_emod_of_nonneg hn5.1]; omega
    have hr5 : r = 0 ∨ r = 1 ∨ r = 2 ∨ r = 3 ∨ r = 4 := by omega
    clear hr hvr hx hxm hmem x0 x1 x2 cx hxa
    have i0 := (HC.out _ (Kept.refl _ _)).1
    rcases hr5 with rfl | rfl | rfl | rfl | rfl
    · have hit0 : x.k.tmod 5 = 0 := hit
      clear hit
      have HLN : Hid ((ms ++ (x.xs.take (min x.xs.length (M - ms.length))).map (·.1)).length ≤ 100 * (k + 1)) := by show _ ≤ _; rw [List.length_append, List.length_map, List.length_take]; omega
      have hcall : ∀ w', Below wr.heap.size wr w' → Calls Try.prog 10 #[ptrV bb, .slice xa x.xs.length xc] w' fun e w'' => e = .returned (.int .i64 (min x.xs.length (M - ms.length) : Nat)) ∧ Kept (fun k => bb ≤ k ∧ k ≠ rx) wr w'' ∧ Calls Try.prog 11 #[ptrV rb, .slice xa x.xs.length xc] w'' fun e w3 => e = .returned (.int .i64 (min x.xs.length (M - ms.length) : Nat)) ∧ TwoM (fun k => bb ≤ k ∧ k ≠ rx) w3 bb rb M (ms ++ (x.xs.take (min x.xs.length (M - ms.length))).map (·.1)) (ms ++ (x.xs.take (min x.xs.length (M - ms.length))).map (·.1)) ∧ Kept (fun k => bb ≤ k ∧ k ≠ rx) wr w3 := by
        intro w' hb
        have hSw : ∀ k, w'.heap.size ≤ k → bb ≤ k ∧ k ≠ rx := fun k hk => by have := hb.size; have := HRX.out; omega
        refine (two_step (HTW.out.below hb) hSw (fun T w1' hT hk1 hq hTs => Send_any hq hTs ((HC.out _ ((Kept.of_below hb).trans hk1)).2.2.2.2.mono (fun j _ hj ht => hj (hT j ht))) HSX.out (by omega)) (fun T w1' hT hk1 hq hTs => refSend_any hq hTs ((HC.out _ ((Kept.of_below hb).trans hk1)).2.2.2.2.mono (fun j _ hj ht => hj (hT j ht))) HSX.out (by omega))).mono ?_
        rintro e w'' ⟨he, k1, c1⟩
        exact ⟨he, (Kept.of_below hb).trans k1, c1.mono (fun e w3 hh => ⟨hh.1, hh.2.1, (Kept.of_below hb).trans hh.2.2⟩)⟩
      have HCALL := Lib.hid hcall
      obtain ⟨i1, i2, i3, i4, i5⟩ := HC.out _ (Kept.refl _ _)
      clear hcall
      go_wp2_with fail
      go_region_held3 (fun w' => w'.cell? ⟨ab, ao + k * 3, none⟩ = some (.int .u8 x.k) ∧ w'.cell? ⟨ab, ao + k * 3 + 1, none⟩ = some (.int .i64 x.n) ∧ w'.cell? ⟨rx, 0, none⟩ = some (ptrV rb) ∧ w'.cell? ⟨ab, ao + k * 3 + 2, none⟩ = some (.slice xa x.xs.length xc))
        (first
          | exact HM2.out
          | exact HM1.out
          | exact ⟨i1, i2, i3, i4⟩)
        (first
          | (go_at_call 10; refine (HCALL.out _ ((Below.refl _ _).drew)).mono ?_; rintro e w1 ⟨rfl, k1, c1⟩; obtain ⟨m1, m2, m3, m4, m5⟩ := HC.out _ k1; have HM1 := Lib.hid (show w1.cell? ⟨ab, ao + k * 3, none⟩ = some (.int .u8 x.k) ∧ w1.cell? ⟨ab, ao + k * 3 + 1, none⟩ = some (.int .i64 x.n) ∧ w1.cell? ⟨rx, 0, none⟩ = some (ptrV rb) ∧ w1.cell? ⟨ab, ao + k * 3 + 2, none⟩ = some (.slice xa x.xs.length xc) from ⟨m1, m2, m3, m4⟩); have HC1 := Lib.hid c1; clear k1 c1 m1 m2 m3 m4 m5 HCALL)
          | (go_at_call 11; refine HC1.out.mono ?_; rintro e w3 ⟨rfl, p2, k2⟩; obtain ⟨m1, m2, m3, m4, m5⟩ := HC.out _ k2; have HM2 := Lib.hid (show w3.cell? ⟨ab, ao + k * 3, none⟩ = some (.int .u8 x.k) ∧ w3.cell? ⟨ab, ao + k * 3 + 1, none⟩ = some (.int .i64 x.n) ∧ w3.cell? ⟨rx, 0, none⟩ = some (ptrV rb) ∧ w3.cell? ⟨ab, ao + k * 3 + 2, none⟩ = some (.slice xa x.xs.length xc) from ⟨m1, m2, m3, m4⟩); have P2 := Lib.hid p2; have K2 := Lib.hid k2; clear p2 k2 m1 m2 m3 m4 m5 HC1))
      all_goals
        clear i1 i2 i3 i4 i5
        obtain ⟨v3, xs3, hms3, hbo3⟩ := P2.out.snd
        obtain ⟨ra, rc, rfl⟩ := hbo3.rm.slice
        have hxl3 : xs3.length = (ms ++ (x.xs.take (min x.xs.length (M - ms.length))).map (·.1)).length := by rw [hms3, List.length_map]
        have d1 := hbo3.c1
        have d0 : w3.cell? ⟨rx, 0, none⟩ = some (ptrV rb) := (HC.out _ K2.out).2.2.1
        have hlen : ∀ q, Calls Try.prog 21 #[ptrV bb] (w3.drewN q) fun e w' => e = .returned (.int .i64 (xs3.length : Int)) ∧ ∃ r, w' = (w3.drewN q).drewN r := fun q =>
          (Len_any (P2.out.fst.below (below_drewN (Below.refl w3.heap.size w3) q))).mono (fun e w' hh => ⟨by rw [hh.1, hxl3], 0, hh.2⟩)
        have HLEN := Lib.hid hlen
        clear hlen hms3 hbo3 HC
        go_wp2_with fail
        go_quiet ((go_at_call 21; exact Calls.quiet_of (HLEN.out _)))
        go_wp2
        go_roundw
        case rel => exact ⟨k + 1, (ms ++ (x.xs.take (min x.xs.length (M - ms.length))).map (·.1)), by omega, by go_num, (P2.out.below (below_drewN (Below.refl _ _) _)), (KR.out.trans K2.out).drewN _, HLN.out⟩
        case measure => simp [intOf]; omega
    · have hit0 : x.k.tmod 5 = 1 := hit
      clear hit
      have HLN : Hid ((takeS ms x.n).length ≤ 100 * (k + 1)) := by show _ ≤ _; have := takeS_len ms x.n; omega
      have hSM : Sm ((getI ms x.n).getD noMsg) := getI_sm HTW.out.fst.sm x.n
      have hat := two_takeA HTW.out x.n hn5.2 (by omega)
      have hatr := fun w' (h : TwoM (fun k => (bb ≤ k ∧ k ≠ rx) ∧ k < wr.heap.size) w' bb rb M (takeS ms x.n) ms) => two_takeR h x.n hn5.2 (by omega)
      obtain ⟨Mm, hMm⟩ : ∃ Mm, Mm = (getI ms x.n).getD noMsg := ⟨_, rfl⟩
      obtain ⟨ob, hob⟩ : ∃ ob, ob = (getI ms x.n).isSome := ⟨_, rfl⟩
      unfold AtRes at hat hatr
      rw [← hMm] at hSM
      rw [← hMm, ← hob] at hat
      simp only [← hMm, ← hob] at hatr
      have HATR := Lib.hid hatr
      have HSM' := Lib.hid hSM
      obtain ⟨i1, i2, i3, i4, i5⟩ := HC.out _ (Kept.refl _ _)
      clear hatr hMm hob hSM i3 i4 i5
      go_wp2_with fail
      refine hat.mono ?_
      rintro e w1 ⟨⟨hi1, la, lc, ea, ec, rfl, hli1⟩, p1, k1⟩
      obtain ⟨w2, hw2⟩ : ∃ w2, w2 = w1.alloc (.cells (Mm.arr (.slice la Mm.l.length lc) (.slice ea Mm.es.length ec)) 38) := ⟨_, rfl⟩
      have hb12 : Below w1.heap.size w1 w2 := by rw [hw2]; exact (Below.refl _ _).alloc (Nat.le_refl _) _
      have hx2 : w2.heap[w1.heap.size]? = some (msgO Mm (.slice la Mm.l.length lc) (.slice ea Mm.es.length ec)) := by rw [hw2]; exact heap_alloc_new w1 _
      have P2 := Lib.hid (p1.below hb12)
      have KS2 : Hid (Kept (fun k => bb ≤ k ∧ k ≠ rx) wr w2) := (k1.mono (fun _ _ h => h.1)).trans (Kept.of_below hb12)
      have HX2 := Lib.hid hx2
      have HLI2 := Lib.hid (hli1.below hb12)
      have HW2 := Lib.hid hw2
      have hx1 : wr.heap.size ≤ w1.heap.size := k1.size
      obtain ⟨j1, j2, j3, -, -⟩ := HC.out w2 KS2.out
      have HRX2 : Hid (bb ≤ rx ∧ rx < wr.heap.size ∧ wr.heap.size ≤ w2.heap.size) := ⟨HRX.out.1, HRX.out.2, KS2.out.size⟩
      clear hat hli1 hb12 hx2 i1 i2 hw2 p1 k1
      go_wp2_with fail
      rw [← HW2.out]
      generalize w1.heap.size = xb at *
      have HKP : Hid (∀ w', Kept (fun k => bb ≤ k ∧ k ≠ rx) wr w' → w'.cell? ⟨ab, ao + k * 3 + 1, none⟩ = some (.int .i64 x.n) ∧ w'.cell? ⟨rx, 0, none⟩ = some (ptrV rb)) := fun w' hb => ⟨(HC.out w' hb).2.1, (HC.out w' hb).2.2.1⟩
      clear j2 j3
      go_region_held3 (fun w' => w'.cell? ⟨ab, ao + k * 3 + 1, none⟩ = some (.int .i64 x.n) ∧ w'.cell? ⟨rx, 0, none⟩ = some (ptrV rb))
        (first
          | with_reducible exact HKP.out _ K3.out
          | with_reducible exact HKP.out _ (K3.out.alloc _)
          | with_reducible exact HKP.out _ KS2.out
          | with_reducible exact HKP.out _ (kept_drew KS2.out)
          | with_reducible exact HKP.out _ (KS2.out.alloc _)
          | with_reducible exact HKP.out _ (kept_drew (KS2.out.alloc _))
          | with_reducible exact HKP.out _ (kept_set (kept_set (kept_set (kept_set (kept_set (kept_set (kept_set (kept_set (kept_set (kept_set (kept_set K3.out KS2.out.size) KS2.out.size) KS2.out.size) KS2.out.size) KS2.out.size) KS2.out.size) KS2.out.size) KS2.out.size) KS2.out.size) KS2.out.size) KS2.out.size))
        (first
          | (go_at_call 13; refine (HATR.out _ (P2.out.below ((Below.refl _ _).drew))).mono ?_; rintro e w3 ⟨⟨hi3, la3, lc3, ea3, ec3, rfl, hli3⟩, p3, k3⟩; have HLI3 := Lib.hid hli3; have P3 := Lib.hid p3; have K3 : Hid (Kept (fun k => bb ≤ k ∧ k ≠ rx) wr w3) := (kept_drew KS2.out).trans (k3.mono (fun _ _ h => h.1)); have K23 : Hid (Kept (fun k => (bb ≤ k ∧ k ≠ rx) ∧ k < wr.heap.size) w2 w3) := (kept_drew (Kept.refl _ _)).trans k3; clear hli3 p3 k3)
          | (go_at_call 13; refine (HATR.out _ (P2.out.below (((Below.refl _ _).alloc (Nat.le_refl _) _).drew))).mono ?_; rintro e w3 ⟨⟨hi3, la3, lc3, ea3, ec3, rfl, hli3⟩, p3, k3⟩; have HLI3 := Lib.hid hli3; have P3 := Lib.hid p3; have K3 : Hid (Kept (fun k => bb ≤ k ∧ k ≠ rx) wr w3) := (kept_drew (KS2.out.alloc _)).trans (k3.mono (fun _ _ h => h.1)); have K23 : Hid (Kept (fun k => (bb ≤ k ∧ k ≠ rx) ∧ k < wr.heap.size) w2 w3) := (kept_drew ((Kept.refl _ _).alloc _)).trans k3; have HY3 := Lib.hid (zero_kept k3 (fun h => by have := HRX2.out; omega)); obtain ⟨y0, y1, y2, y3, y4, y5, y6, y7, y8, y9, y10, yf⟩ := box_cells HY3.out; have yf0 := yf 0; have yf1 := yf 1; have yf2 := yf 2; have yf3 := yf 3; have yf4 := yf 4; have yf5 := yf 5; have yf6 := yf 6; have yf7 := yf 7; have yf8 := yf 8; have yf9 := yf 9; have yf10 := yf 10; clear hli3 p3 k3 yf))
      · obtain ⟨w4, hw4⟩ : ∃ w4, w4 = w3.alloc (.cells (Mm.arr (.slice la3 Mm.l.length lc3) (.slice ea3 Mm.es.length ec3)) 38) := ⟨_, rfl⟩
        have hb34 : Below w3.heap.size w3 w4 := by rw [hw4]; exact (Below.refl _ _).alloc (Nat.le_refl _) _
        have HY4 : Hid (w4.heap[w3.heap.size]? = some (msgO Mm (.slice la3 Mm.l.length lc3) (.slice ea3 Mm.es.length ec3))) := by rw [hw4]; exact heap_alloc_new w3 _
        have hxl : xb < w2.heap.size := (Array.getElem?_eq_some_iff.1 HX2.out).1
        have HX4 : Hid (w4.heap[xb]? = some (msgO Mm (.slice la Mm.l.length lc) (.slice ea Mm.es.length ec))) := box_below ((K23.out.block _ hxl (fun h => by omega)).trans HX2.out) hb34
        have HLX := Lib.hid ((HLI2.out.keep K23.out.size (fun g hg hl => K23.out.block g hl (fun h => by omega))).below hb34)
        have HLY := Lib.hid (HLI3.out.below hb34)
        have P4 : Hid (TwoM (fun k => bb ≤ k ∧ k ≠ rx) w4 bb rb M (takeS ms x.n) (takeS ms x.n)) := (P3.out.mono (fun k _ hk => hk.elim (fun h => h.1) (fun h => by have h : w2.heap.size ≤ k := h; have := HRX2.out; omega))).below hb34
        have K4 : Hid (Kept (fun k => bb ≤ k ∧ k ≠ rx) wr w4) := K3.out.trans (Kept.of_below hb34)
        rw [← hw4]
        clear hw4 hb34 K23 K3 P3 P2 HLI3 HLI2 HX2 HKP HATR
        obtain ⟨yb, hyb⟩ : ∃ yb, w3.heap.size = yb := ⟨_, rfl⟩
        rw [hyb] at HY4 ⊢
        clear hyb
        obtain ⟨y0, y1, y2, y3, y4, y5, y6, y7, y8, y9, y10, -⟩ := box_cells HX4.out
        obtain ⟨z0, z1, z2, z3, z4, z5, z6, z7, z8, z9, z10, -⟩ := box_cells HY4.out
        have hsm := sameM_any HLX.out HLY.out HSM'.out HSM'.out
        have HSMC := Lib.hid hsm
        clear hsm
        go_wp2_with fail
        refine HSMC.out.mono ?_
        rintro e w5 ⟨⟨bv, rfl, hbv⟩, hb5⟩
        obtain rfl := hbv trivial
        have P2 : Hid (TwoM (fun k => bb ≤ k ∧ k ≠ rx) w5 bb rb M (takeS ms x.n) (takeS ms x.n)) := P4.out.below hb5
        have K2 : Hid (Kept (fun k => bb ≤ k ∧ k ≠ rx) wr w5) := K4.out.trans (Kept.of_below hb5)
        clear hbv hb5 y0 y1 y2 y3 y4 y5 y6 y7 y8 y9 y10 z0 z1 z2 z3 z4 z5 z6 z7 z8 z9 z10 HSMC
        obtain ⟨v3, xs3, hms3, hbo3⟩ := P2.out.snd
        obtain ⟨ra, rc, rfl⟩ := hbo3.rm.slice
        have hxl3 : xs3.length = (takeS ms x.n).length := by rw [hms3, List.length_map]
        have d1 := hbo3.c1
        have d0 : w5.cell? ⟨rx, 0, none⟩ = some (ptrV rb) := (HC.out _ K2.out).2.2.1
        have hlen : ∀ q, Calls Try.prog 21 #[ptrV bb] (w5.drewN q) fun e w' => e = .returned (.int .i64 (xs3.length : Int)) ∧ ∃ r, w' = (w5.drewN q).drewN r := fun q =>
          (Len_any (P2.out.fst.below (below_drewN (Below.refl w5.heap.size w5) q))).mono (fun e w' hh => ⟨by rw [hh.1, hxl3], 0, hh.2⟩)
        have HLEN := Lib.hid hlen
        clear hlen hms3 hbo3 HC
        go_wp2_with fail
        go_quiet ((go_at_call 21; exact Calls.quiet_of (HLEN.out _)))
        go_wp2
        go_roundw
        case rel => exact ⟨k + 1, (takeS ms x.n), by omega, by go_num, (P2.out.below (below_drewN (Below.refl _ _) _)), (KR.out.trans K2.out).drewN _, HLN.out⟩
        case measure => simp [intOf]; omega
      · obtain ⟨w4, hw4⟩ : ∃ w4, w4 = putMsg w3 w2.heap.size Mm (.slice la3 Mm.l.length lc3) (.slice ea3 Mm.es.length ec3) := ⟨_, rfl⟩
        have HY4 : Hid (w4.heap[w2.heap.size]? = some (msgO Mm (.slice la3 Mm.l.length lc3) (.slice ea3 Mm.es.length ec3))) := by rw [hw4]; exact putMsg_heap HY3.out
        have hk34 : Kept (fun k => k = w2.heap.size) w3 w4 := by rw [hw4]; exact putMsg_kept rfl
        have hxl : xb < w2.heap.size := (Array.getElem?_eq_some_iff.1 HX2.out).1
        have HX4 : Hid (w4.heap[xb]? = some (msgO Mm (.slice la Mm.l.length lc) (.slice ea Mm.es.length ec))) := (hk34.block _ (Nat.lt_of_lt_of_le hxl K23.out.size) (by omega)).trans ((K23.out.block _ hxl (fun h => by omega)).trans HX2.out)
        have HLX := Lib.hid (HLI2.out.keep (Nat.le_trans K23.out.size hk34.size) (fun g hg hl => (hk34.block g (Nat.lt_of_lt_of_le hl K23.out.size) (by omega)).trans (K23.out.block g hl (fun h => by omega))))
        have HLY := Lib.hid (HLI3.out.keep hk34.size (fun g hg hl => hk34.block g hl (by have hg1 := hg.1; rw [size_zd] at hg1; omega)))
        have P4 : Hid (TwoM (fun k => bb ≤ k ∧ k ≠ rx) w4 bb rb M (takeS ms x.n) (takeS ms x.n)) := (P3.out.other hk34 (fun k _ hk e => hk.elim (fun h => by have := HRX2.out; omega) (fun hg => by
          rw [size_zd] at hg; omega))).mono (fun k _ hk => hk.elim (fun h => h.1) (fun hg => by
          rw [size_zd] at hg; have := HRX2.out; omega))
        have K4 : Hid (Kept (fun k => bb ≤ k ∧ k ≠ rx) wr w4) := by rw [hw4]; exact K3.out.trans (putMsg_kept (by have := HRX2.out; omega))
        unfold putMsg at hw4
        rw [← hw4]
        clear hw4 hk34 hxl K23 K3 P3 P2 HLI3 HLI2 HX2 HKP HATR HY3 y0 y1 y2 y3 y4 y5 y6 y7 y8 y9 y10 yf0 yf1 yf2 yf3 yf4 yf5 yf6 yf7 yf8 yf9 yf10
        obtain ⟨yb, hyb⟩ : ∃ yb, w2.heap.size = yb := ⟨_, rfl⟩
        rw [hyb] at HY4 ⊢
        clear hyb
        obtain ⟨y0, y1, y2, y3, y4, y5, y6, y7, y8, y9, y10, -⟩ := box_cells HX4.out
        obtain ⟨z0, z1, z2, z3, z4, z5, z6, z7, z8, z9, z10, -⟩ := box_cells HY4.out
        have hsm := sameM_any HLX.out HLY.out HSM'.out HSM'.out
        have HSMC := Lib.hid hsm
        clear hsm
        go_wp2_with fail
        refine HSMC.out.mono ?_
        rintro e w5 ⟨⟨bv, rfl, hbv⟩, hb5⟩
        obtain rfl := hbv trivial
        have P2 : Hid (TwoM (fun k => bb ≤ k ∧ k ≠ rx) w5 bb rb M (takeS ms x.n) (takeS ms x.n)) := P4.out.below hb5
        have K2 : Hid (Kept (fun k => bb ≤ k ∧ k ≠ rx) wr w5) := K4.out.trans (Kept.of_below hb5)
        clear hbv hb5 y0 y1 y2 y3 y4 y5 y6 y7 y8 y9 y10 z0 z1 z2 z3 z4 z5 z6 z7 z8 z9 z10 HSMC
        obtain ⟨v3, xs3, hms3, hbo3⟩ := P2.out.snd
        obtain ⟨ra, rc, rfl⟩ := hbo3.rm.slice
        have hxl3 : xs3.length = (takeS ms x.n).length := by rw [hms3, List.length_map]
        have d1 := hbo3.c1
        have d0 : w5.cell? ⟨rx, 0, none⟩ = some (ptrV rb) := (HC.out _ K2.out).2.2.1
        have hlen : ∀ q, Calls Try.prog 21 #[ptrV bb] (w5.drewN q) fun e w' => e = .returned (.int .i64 (xs3.length : Int)) ∧ ∃ r, w' = (w5.drewN q).drewN r := fun q =>
          (Len_any (P2.out.fst.below (below_drewN (Below.refl w5.heap.size w5) q))).mono (fun e w' hh => ⟨by rw [hh.1, hxl3], 0, hh.2⟩)
        have HLEN := Lib.hid hlen
        clear hlen hms3 hbo3 HC
        go_wp2_with fail
        go_quiet ((go_at_call 21; exact Calls.quiet_of (HLEN.out _)))
        go_wp2
        go_roundw
        case rel => exact ⟨k + 1, (takeS ms x.n), by omega, by go_num, (P2.out.below (below_drewN (Below.refl _ _) _)), (KR.out.trans K2.out).drewN _, HLN.out⟩
        case measure => simp [intOf]; omega
    · have hit0 : x.k.tmod 5 = 2 := hit
      clear hit
      have HLN : Hid ((doubleS M ms x.n).2.length ≤ 100 * (k + 1)) := by show _ ≤ _; have := doubleS_len M ms x.n; omega
      have hcall : ∀ w', Below wr.heap.size wr w' → Calls Try.prog 15 #[ptrV bb, .int .i64 x.n] w' fun e w'' => e = .returned (.bool (doubleS M ms x.n).1) ∧ Kept (fun k => bb ≤ k ∧ k ≠ rx) wr w'' ∧ Calls Try.prog 16 #[ptrV rb, .int .i64 x.n] w'' fun e w3 => e = .returned (.bool (doubleS M ms x.n).1) ∧ TwoM (fun k => bb ≤ k ∧ k ≠ rx) w3 bb rb M (doubleS M ms x.n).2 (doubleS M ms x.n).2 ∧ Kept (fun k => bb ≤ k ∧ k ≠ rx) wr w3 := by
        intro w' hb
        have hSw : ∀ k, w'.heap.size ≤ k → bb ≤ k ∧ k ≠ rx := fun k hk => by have := hb.size; have := HRX.out; omega
        refine (two_step (HTW.out.below hb) hSw (fun T w1' hT hk1 hq hTs => Double_any hq hTs (by omega) x.n) (fun T w1' hT hk1 hq hTs => refDouble_any hq hTs (by omega) x.n)).mono ?_
        rintro e w'' ⟨he, k1, c1⟩
        exact ⟨he, (Kept.of_below hb).trans k1, c1.mono (fun e w3 hh => ⟨hh.1, hh.2.1, (Kept.of_below hb).trans hh.2.2⟩)⟩
      have HCALL := Lib.hid hcall
      obtain ⟨i1, i2, i3, i4, i5⟩ := HC.out _ (Kept.refl _ _)
      clear hcall
      go_wp2_with fail
      go_region_held3 (fun w' => w'.cell? ⟨ab, ao + k * 3, none⟩ = some (.int .u8 x.k) ∧ w'.cell? ⟨ab, ao + k * 3 + 1, none⟩ = some (.int .i64 x.n) ∧ w'.cell? ⟨rx, 0, none⟩ = some (ptrV rb) ∧ w'.cell? ⟨ab, ao + k * 3 + 2, none⟩ = some (.slice xa x.xs.length xc))
        (first
          | exact HM2.out
          | exact HM1.out
          | exact ⟨i1, i2, i3, i4⟩)
        (first
          | (go_at_call 15; refine (HCALL.out _ ((Below.refl _ _).drew)).mono ?_; rintro e w1 ⟨rfl, k1, c1⟩; obtain ⟨m1, m2, m3, m4, m5⟩ := HC.out _ k1; have HM1 := Lib.hid (show w1.cell? ⟨ab, ao + k * 3, none⟩ = some (.int .u8 x.k) ∧ w1.cell? ⟨ab, ao + k * 3 + 1, none⟩ = some (.int .i64 x.n) ∧ w1.cell? ⟨rx, 0, none⟩ = some (ptrV rb) ∧ w1.cell? ⟨ab, ao + k * 3 + 2, none⟩ = some (.slice xa x.xs.length xc) from ⟨m1, m2, m3, m4⟩); have HC1 := Lib.hid c1; clear k1 c1 m1 m2 m3 m4 m5 HCALL)
          | (go_at_call 16; refine HC1.out.mono ?_; rintro e w3 ⟨rfl, p2, k2⟩; obtain ⟨m1, m2, m3, m4, m5⟩ := HC.out _ k2; have HM2 := Lib.hid (show w3.cell? ⟨ab, ao + k * 3, none⟩ = some (.int .u8 x.k) ∧ w3.cell? ⟨ab, ao + k * 3 + 1, none⟩ = some (.int .i64 x.n) ∧ w3.cell? ⟨rx, 0, none⟩ = some (ptrV rb) ∧ w3.cell? ⟨ab, ao + k * 3 + 2, none⟩ = some (.slice xa x.xs.length xc) from ⟨m1, m2, m3, m4⟩); have P2 := Lib.hid p2; have K2 := Lib.hid k2; clear p2 k2 m1 m2 m3 m4 m5 HC1))
      all_goals
        clear i1 i2 i3 i4 i5
        obtain ⟨v3, xs3, hms3, hbo3⟩ := P2.out.snd
        obtain ⟨ra, rc, rfl⟩ := hbo3.rm.slice
        have hxl3 : xs3.length = (doubleS M ms x.n).2.length := by rw [hms3, List.length_map]
        have d1 := hbo3.c1
        have d0 : w3.cell? ⟨rx, 0, none⟩ = some (ptrV rb) := (HC.out _ K2.out).2.2.1
        have hlen : ∀ q, Calls Try.prog 21 #[ptrV bb] (w3.drewN q) fun e w' => e = .returned (.int .i64 (xs3.length : Int)) ∧ ∃ r, w' = (w3.drewN q).drewN r := fun q =>
          (Len_any (P2.out.fst.below (below_drewN (Below.refl w3.heap.size w3) q))).mono (fun e w' hh => ⟨by rw [hh.1, hxl3], 0, hh.2⟩)
        have HLEN := Lib.hid hlen
        clear hlen hms3 hbo3 HC
        go_wp2_with fail
        go_quiet ((go_at_call 21; exact Calls.quiet_of (HLEN.out _)))
        go_wp2
        go_roundw
        case rel => exact ⟨k + 1, (doubleS M ms x.n).2, by omega, by go_num, (P2.out.below (below_drewN (Below.refl _ _) _)), (KR.out.trans K2.out).drewN _, HLN.out⟩
        case measure => simp [intOf]; omega
    · have hit0 : x.k.tmod 5 = 3 := hit
      clear hit
      have HLN : Hid ((stayS ms x.n).length ≤ 100 * (k + 1)) := by show _ ≤ _; have := stayS_len ms x.n; omega
      have hcall : ∀ w', Below wr.heap.size wr w' → Calls Try.prog 17 #[ptrV bb, .int .i64 x.n] w' fun e w'' => e = .returned (.int .i64 ((ms.length : Int) - ((stayS ms x.n).length : Int))) ∧ Kept (fun k => bb ≤ k ∧ k ≠ rx) wr w'' ∧ Calls Try.prog 18 #[ptrV rb, .int .i64 x.n] w'' fun e w3 => e = .returned (.int .i64 ((ms.length : Int) - ((stayS ms x.n).length : Int))) ∧ TwoM (fun k => bb ≤ k ∧ k ≠ rx) w3 bb rb M (stayS ms x.n) (stayS ms x.n) ∧ Kept (fun k => bb ≤ k ∧ k ≠ rx) wr w3 := by
        intro w' hb
        have hSw : ∀ k, w'.heap.size ≤ k → bb ≤ k ∧ k ≠ rx := fun k hk => by have := hb.size; have := HRX.out; omega
        refine (two_step (HTW.out.below hb) hSw (fun T w1' hT hk1 hq hTs => Lose_any hq hTs (by omega) x.n) (fun T w1' hT hk1 hq hTs => refLose_any hq hTs (by omega) x.n)).mono ?_
        rintro e w'' ⟨he, k1, c1⟩
        exact ⟨he, (Kept.of_below hb).trans k1, c1.mono (fun e w3 hh => ⟨hh.1, hh.2.1, (Kept.of_below hb).trans hh.2.2⟩)⟩
      have HCALL := Lib.hid hcall
      obtain ⟨i1, i2, i3, i4, i5⟩ := HC.out _ (Kept.refl _ _)
      clear hcall
      go_wp2_with fail
      go_region_held3 (fun w' => w'.cell? ⟨ab, ao + k * 3, none⟩ = some (.int .u8 x.k) ∧ w'.cell? ⟨ab, ao + k * 3 + 1, none⟩ = some (.int .i64 x.n) ∧ w'.cell? ⟨rx, 0, none⟩ = some (ptrV rb) ∧ w'.cell? ⟨ab, ao + k * 3 + 2, none⟩ = some (.slice xa x.xs.length xc))
        (first
          | exact HM2.out
          | exact HM1.out
          | exact ⟨i1, i2, i3, i4⟩)
        (first
          | (go_at_call 17; refine (HCALL.out _ ((Below.refl _ _).drew)).mono ?_; rintro e w1 ⟨rfl, k1, c1⟩; obtain ⟨m1, m2, m3, m4, m5⟩ := HC.out _ k1; have HM1 := Lib.hid (show w1.cell? ⟨ab, ao + k * 3, none⟩ = some (.int .u8 x.k) ∧ w1.cell? ⟨ab, ao + k * 3 + 1, none⟩ = some (.int .i64 x.n) ∧ w1.cell? ⟨rx, 0, none⟩ = some (ptrV rb) ∧ w1.cell? ⟨ab, ao + k * 3 + 2, none⟩ = some (.slice xa x.xs.length xc) from ⟨m1, m2, m3, m4⟩); have HC1 := Lib.hid c1; clear k1 c1 m1 m2 m3 m4 m5 HCALL)
          | (go_at_call 18; refine HC1.out.mono ?_; rintro e w3 ⟨rfl, p2, k2⟩; obtain ⟨m1, m2, m3, m4, m5⟩ := HC.out _ k2; have HM2 := Lib.hid (show w3.cell? ⟨ab, ao + k * 3, none⟩ = some (.int .u8 x.k) ∧ w3.cell? ⟨ab, ao + k * 3 + 1, none⟩ = some (.int .i64 x.n) ∧ w3.cell? ⟨rx, 0, none⟩ = some (ptrV rb) ∧ w3.cell? ⟨ab, ao + k * 3 + 2, none⟩ = some (.slice xa x.xs.length xc) from ⟨m1, m2, m3, m4⟩); have P2 := Lib.hid p2; have K2 := Lib.hid k2; clear p2 k2 m1 m2 m3 m4 m5 HC1))
      all_goals
        clear i1 i2 i3 i4 i5
        obtain ⟨v3, xs3, hms3, hbo3⟩ := P2.out.snd
        obtain ⟨ra, rc, rfl⟩ := hbo3.rm.slice
        have hxl3 : xs3.length = (stayS ms x.n).length := by rw [hms3, List.length_map]
        have d1 := hbo3.c1
        have d0 : w3.cell? ⟨rx, 0, none⟩ = some (ptrV rb) := (HC.out _ K2.out).2.2.1
        have hlen : ∀ q, Calls Try.prog 21 #[ptrV bb] (w3.drewN q) fun e w' => e = .returned (.int .i64 (xs3.length : Int)) ∧ ∃ r, w' = (w3.drewN q).drewN r := fun q =>
          (Len_any (P2.out.fst.below (below_drewN (Below.refl w3.heap.size w3) q))).mono (fun e w' hh => ⟨by rw [hh.1, hxl3], 0, hh.2⟩)
        have HLEN := Lib.hid hlen
        clear hlen hms3 hbo3 HC
        go_wp2_with fail
        go_quiet ((go_at_call 21; exact Calls.quiet_of (HLEN.out _)))
        go_wp2
        go_roundw
        case rel => exact ⟨k + 1, (stayS ms x.n), by omega, by go_num, (P2.out.below (below_drewN (Below.refl _ _) _)), (KR.out.trans K2.out).drewN _, HLN.out⟩
        case measure => simp [intOf]; omega
    · have hit0 : x.k.tmod 5 = 4 := hit
      clear hit
      have HLN : Hid (ms.length ≤ 100 * (k + 1)) := by show _ ≤ _; omega
      have hSM : Sm ((getI ms x.n).getD noMsg) := getI_sm HTW.out.fst.sm x.n
      have hat := At_any HTW.out.fst x.n
      have hatr := fun w' (hb : Below wr.heap.size wr w') => refAt_any (HTW.out.snd.below hb) x.n
      obtain ⟨Mm, hMm⟩ : ∃ Mm, Mm = (getI ms x.n).getD noMsg := ⟨_, rfl⟩
      obtain ⟨ob, hob⟩ : ∃ ob, ob = (getI ms x.n).isSome := ⟨_, rfl⟩
      unfold AtRes at hat hatr
      rw [← hMm] at hSM
      rw [← hMm, ← hob] at hat
      simp only [← hMm, ← hob] at hatr
      have HATR := Lib.hid hatr
      have HSM' := Lib.hid hSM
      obtain ⟨i1, i2, i3, i4, i5⟩ := HC.out _ (Kept.refl _ _)
      clear hatr hMm hob hSM i3 i4 i5
      go_wp2_with fail
      refine hat.mono ?_
      rintro e w1 ⟨⟨la, lc, ea, ec, rfl, hli1⟩, hb1⟩
      obtain ⟨w2, hw2⟩ : ∃ w2, w2 = w1.alloc (.cells (Mm.arr (.slice la Mm.l.length lc) (.slice ea Mm.es.length ec)) 38) := ⟨_, rfl⟩
      have hb12 : Below w1.heap.size w1 w2 := by rw [hw2]; exact (Below.refl _ _).alloc (Nat.le_refl _) _
      have hx2 : w2.heap[w1.heap.size]? = some (msgO Mm (.slice la Mm.l.length lc) (.slice ea Mm.es.length ec)) := by rw [hw2]; exact heap_alloc_new w1 _
      have HB2 := Lib.hid (bw hb1 hb12)
      have HX2 := Lib.hid hx2
      have HLI2 := Lib.hid (hli1.below hb12)
      have HW2 := Lib.hid hw2
      obtain ⟨j1, j2, j3, -, -⟩ := HC.out w2 (Kept.of_below HB2.out)
      clear hat hli1 hb12 hx2 i1 i2 hw2 hb1
      go_wp2_with fail
      rw [← HW2.out]
      generalize w1.heap.size = xb at *
      have HKP : Hid (∀ w', Below wr.heap.size wr w' → w'.cell? ⟨ab, ao + k * 3 + 1, none⟩ = some (.int .i64 x.n) ∧ w'.cell? ⟨rx, 0, none⟩ = some (ptrV rb)) := fun w' hb => ⟨(HC.out w' (Kept.of_below hb)).2.1, (HC.out w' (Kept.of_below hb)).2.2.1⟩
      clear j2 j3
      go_region_held3 (fun w' => w'.cell? ⟨ab, ao + k * 3 + 1, none⟩ = some (.int .i64 x.n) ∧ w'.cell? ⟨rx, 0, none⟩ = some (ptrV rb))
        (first
          | with_reducible exact HKP.out _ HB3.out
          | with_reducible exact HKP.out _ (HB3.out.alloc HB3.out.size _)
          | with_reducible exact HKP.out _ HB2.out
          | with_reducible exact HKP.out _ HB2.out.drew
          | with_reducible exact HKP.out _ (HB2.out.alloc HB2.out.size _)
          | with_reducible exact HKP.out _ ((HB2.out.alloc HB2.out.size _).drew)
          | with_reducible exact HKP.out _ (below_set (below_set (below_set (below_set (below_set (below_set (below_set (below_set (below_set (below_set (below_set HB3.out HB2.out.size) HB2.out.size) HB2.out.size) HB2.out.size) HB2.out.size) HB2.out.size) HB2.out.size) HB2.out.size) HB2.out.size) HB2.out.size) HB2.out.size))
        (first
          | (go_at_call 20; refine (HATR.out _ (HB2.out.drew)).mono ?_; rintro e w3 ⟨⟨la3, lc3, ea3, ec3, rfl, hli3⟩, hb3⟩; have HB3 := Lib.hid (bw HB2.out.drew hb3); have HB23 := Lib.hid (bw (Below.refl w2.heap.size w2).drew hb3); have HLI3 := Lib.hid hli3; clear hli3 hb3)
          | (go_at_call 20; refine (HATR.out _ ((HB2.out.alloc HB2.out.size _).drew)).mono ?_; rintro e w3 ⟨⟨la3, lc3, ea3, ec3, rfl, hli3⟩, hb3⟩; have HB3 := Lib.hid (bw ((HB2.out.alloc HB2.out.size _).drew) hb3); have HB23 := Lib.hid (bw ((Below.refl w2.heap.size w2).alloc (Nat.le_refl _) _).drew hb3); have HLI3 := Lib.hid hli3; have HY3 := Lib.hid (zero_box hb3); obtain ⟨y0, y1, y2, y3, y4, y5, y6, y7, y8, y9, y10, yf⟩ := box_cells HY3.out; have yf0 := yf 0; have yf1 := yf 1; have yf2 := yf 2; have yf3 := yf 3; have yf4 := yf 4; have yf5 := yf 5; have yf6 := yf 6; have yf7 := yf 7; have yf8 := yf 8; have yf9 := yf 9; have yf10 := yf 10; clear hli3 hb3 yf))
      · obtain ⟨w4, hw4⟩ : ∃ w4, w4 = w3.alloc (.cells (Mm.arr (.slice la3 Mm.l.length lc3) (.slice ea3 Mm.es.length ec3)) 38) := ⟨_, rfl⟩
        have hb34 : Below w3.heap.size w3 w4 := by rw [hw4]; exact (Below.refl _ _).alloc (Nat.le_refl _) _
        have HY4 : Hid (w4.heap[w3.heap.size]? = some (msgO Mm (.slice la3 Mm.l.length lc3) (.slice ea3 Mm.es.length ec3))) := by rw [hw4]; exact heap_alloc_new w3 _
        have HX4 := Lib.hid (box_below (box_below HX2.out HB23.out) hb34)
        have HLX := Lib.hid ((HLI2.out.below HB23.out).below hb34)
        have HLY := Lib.hid (HLI3.out.below hb34)
        have P4 := Lib.hid (HTW.out.below (bw HB3.out hb34))
        have K4 : Hid (Kept (fun k => bb ≤ k ∧ k ≠ rx) wr w4) := Kept.of_below (bw HB3.out hb34)
        rw [← hw4]
        clear hw4 hb34 HB23 HB3 HLI3 HLI2 HX2 HKP HATR
        obtain ⟨yb, hyb⟩ : ∃ yb, w3.heap.size = yb := ⟨_, rfl⟩
        rw [hyb] at HY4 ⊢
        clear hyb
        obtain ⟨y0, y1, y2, y3, y4, y5, y6, y7, y8, y9, y10, -⟩ := box_cells HX4.out
        obtain ⟨z0, z1, z2, z3, z4, z5, z6, z7, z8, z9, z10, -⟩ := box_cells HY4.out
        have hsm := sameM_any HLX.out HLY.out HSM'.out HSM'.out
        have HSMC := Lib.hid hsm
        clear hsm
        go_wp2_with fail
        refine HSMC.out.mono ?_
        rintro e w5 ⟨⟨bv, rfl, hbv⟩, hb5⟩
        obtain rfl := hbv trivial
        have P2 : Hid (TwoM (fun k => bb ≤ k ∧ k ≠ rx) w5 bb rb M ms ms) := P4.out.below hb5
        have K2 : Hid (Kept (fun k => bb ≤ k ∧ k ≠ rx) wr w5) := K4.out.trans (Kept.of_below hb5)
        clear hbv hb5 y0 y1 y2 y3 y4 y5 y6 y7 y8 y9 y10 z0 z1 z2 z3 z4 z5 z6 z7 z8 z9 z10 HSMC
        obtain ⟨v3, xs3, hms3, hbo3⟩ := P2.out.snd
        obtain ⟨ra, rc, rfl⟩ := hbo3.rm.slice
        have hxl3 : xs3.length = ms.length := by rw [hms3, List.length_map]
        have d1 := hbo3.c1
        have d0 : w5.cell? ⟨rx, 0, none⟩ = some (ptrV rb) := (HC.out _ K2.out).2.2.1
        have hlen : ∀ q, Calls Try.prog 21 #[ptrV bb] (w5.drewN q) fun e w' => e = .returned (.int .i64 (xs3.length : Int)) ∧ ∃ r, w' = (w5.drewN q).drewN r := fun q =>
          (Len_any (P2.out.fst.below (below_drewN (Below.refl w5.heap.size w5) q))).mono (fun e w' hh => ⟨by rw [hh.1, hxl3], 0, hh.2⟩)
        have HLEN := Lib.hid hlen
        clear hlen hms3 hbo3 HC
        go_wp2_with fail
        go_quiet ((go_at_call 21; exact Calls.quiet_of (HLEN.out _)))
        go_wp2
        go_roundw
        case rel => exact ⟨k + 1, ms, by omega, by go_num, (P2.out.below (below_drewN (Below.refl _ _) _)), (KR.out.trans K2.out).drewN _, HLN.out⟩
        case measure => simp [intOf]; omega
      · obtain ⟨w4, hw4⟩ : ∃ w4, w4 = putMsg w3 w2.heap.size Mm (.slice la3 Mm.l.length lc3) (.slice ea3 Mm.es.length ec3) := ⟨_, rfl⟩
        have HY4 : Hid (w4.heap[w2.heap.size]? = some (msgO Mm (.slice la3 Mm.l.length lc3) (.slice ea3 Mm.es.length ec3))) := by rw [hw4]; exact putMsg_heap HY3.out
        have hk34 : Kept (fun k => k = w2.heap.size) w3 w4 := by rw [hw4]; exact putMsg_kept rfl
        have hxl : xb < w2.heap.size := (Array.getElem?_eq_some_iff.1 HX2.out).1
        have HX4 : Hid (w4.heap[xb]? = some (msgO Mm (.slice la Mm.l.length lc) (.slice ea Mm.es.length ec))) := (hk34.block _ (Nat.lt_of_lt_of_le hxl HB23.out.size) (by omega)).trans (box_below HX2.out HB23.out)
        have HLX := Lib.hid ((HLI2.out.below HB23.out).keep hk34.size (fun g hg hl => hk34.block g hl (by omega)))
        have HLY := Lib.hid (HLI3.out.keep hk34.size (fun g hg hl => hk34.block g hl (by simp at hg; omega)))
        have hb4 : Below wr.heap.size wr w4 := by rw [hw4]; exact putMsg_below HB3.out HB2.out.size
        have P4 := Lib.hid (HTW.out.below hb4)
        have K4 : Hid (Kept (fun k => bb ≤ k ∧ k ≠ rx) wr w4) := Kept.of_below hb4
        unfold putMsg at hw4
        rw [← hw4]
        clear hw4 hb4 hk34 hxl HB23 HB3 HLI3 HLI2 HX2 HKP HATR HY3 y0 y1 y2 y3 y4 y5 y6 y7 y8 y9 y10 yf0 yf1 yf2 yf3 yf4 yf5 yf6 yf7 yf8 yf9 yf10
        obtain ⟨yb, hyb⟩ : ∃ yb, w2.heap.size = yb := ⟨_, rfl⟩
        rw [hyb] at HY4 ⊢
        clear hyb
        obtain ⟨y0, y1, y2, y3, y4, y5, y6, y7, y8, y9, y10, -⟩ := box_cells HX4.out
        obtain ⟨z0, z1, z2, z3, z4, z5, z6, z7, z8, z9, z10, -⟩ := box_cells HY4.out
        have hsm := sameM_any HLX.out HLY.out HSM'.out HSM'.out
        have HSMC := Lib.hid hsm
        clear hsm
        go_wp2_with fail
        refine HSMC.out.mono ?_
        rintro e w5 ⟨⟨bv, rfl, hbv⟩, hb5⟩
        obtain rfl := hbv trivial
        have P2 : Hid (TwoM (fun k => bb ≤ k ∧ k ≠ rx) w5 bb rb M ms ms) := P4.out.below hb5
        have K2 : Hid (Kept (fun k => bb ≤ k ∧ k ≠ rx) wr w5) := K4.out.trans (Kept.of_below hb5)
        clear hbv hb5 y0 y1 y2 y3 y4 y5 y6 y7 y8 y9 y10 z0 z1 z2 z3 z4 z5 z6 z7 z8 z9 z10 HSMC
        obtain ⟨v3, xs3, hms3, hbo3⟩ := P2.out.snd
        obtain ⟨ra, rc, rfl⟩ := hbo3.rm.slice
        have hxl3 : xs3.length = ms.length := by rw [hms3, List.length_map]
        have d1 := hbo3.c1
        have d0 : w5.cell? ⟨rx, 0, none⟩ = some (ptrV rb) := (HC.out _ K2.out).2.2.1
        have hlen : ∀ q, Calls Try.prog 21 #[ptrV bb] (w5.drewN q) fun e w' => e = .returned (.int .i64 (xs3.length : Int)) ∧ ∃ r, w' = (w5.drewN q).drewN r := fun q =>
          (Len_any (P2.out.fst.below (below_drewN (Below.refl w5.heap.size w5) q))).mono (fun e w' hh => ⟨by rw [hh.1, hxl3], 0, hh.2⟩)
        have HLEN := Lib.hid hlen
        clear hlen hms3 hbo3 HC
        go_wp2_with fail
        go_quiet ((go_at_call 21; exact Calls.quiet_of (HLEN.out _)))
        go_wp2
        go_roundw
        case rel => exact ⟨k + 1, ms, by omega, by go_num, (P2.out.below (below_drewN (Below.refl _ _) _)), (KR.out.trans K2.out).drewN _, HLN.out⟩
        case measure => simp [intOf]; omega
end Go.Proofs.Ytheldpdckgoniaa
