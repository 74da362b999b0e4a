/- The document's Take and Lose. -/
import Derived.Test.YtheldpdckgoniaaRefS
namespace Go.Proofs.Ytheldpdckgoniaa
open Go.RowKit

/-- l[k:] -/
theorem msgs_from {B : Nat → Prop} {w : World} {a : Option Addr} {n c : Nat} {xs : List X} (h : MsgsIn B w (.slice a n c) xs) (k : Nat) (hk : k ≤ xs.length) :
    ∃ a' c', (∀ w', (Instr.slice 29 (.slice a n c) (some (.int .i64 (k : Int))) none none).run Try.prog w' = .ok (.slice a' (xs.length - k) c') w') ∧
      (∀ w', (Instr.sliceAt 29 (.slice a n c) (some (.int .i64 (k : Int))) none none).run Try.prog w' = .ok (.slice a' (xs.length - k) c') w') ∧ MsgsIn B w (.slice a' (xs.length - k) c') (xs.drop k) := by
  obtain ⟨⟨a0, c0, e0, h1, h2, h3⟩, hl⟩ := h
  cases e0
  have hr : ∀ w', (Instr.slice 29 (.slice a xs.length c) (some (.int .i64 (k : Int))) none none).run Try.prog w' = .ok (.slice (if c = k then a else a.map (·.add (k * 11))) (xs.length - k) (c - k)) w' := fun w' => by
    rw [run_slice_l w' 29 a xs.length c under_msg .i64 (k : Int) (by omega) (by omega), elem_msg, Try.sizeOf38]
    simp [sliced, Result.andThen]
  refine ⟨_, _, hr, fun w' => by rw [run_sliceAt_slice w' _ _ _ _ _ under_msg]; exact hr w', ⟨_, c - k, by rw [List.length_drop], by rw [List.length_drop]; omega, fun e => ?_, ?_⟩, fun x hx => hl x (List.mem_of_mem_drop hx)⟩
  · have ha : a = none := by
      split at e
      · exact e
      · cases a with
        | none => rfl
        | some ad => simp at e
    obtain ⟨e1, e2⟩ := h2 ha
    rw [List.length_drop]; omega
  · rcases h3 with h3 | ⟨b, off, rfl, hb, hlt, hc⟩
    · left; rw [List.length_drop]; omega
    · by_cases hck : c = k
      · left; rw [List.length_drop]; omega
      · refine .inr ⟨b, off + k * 11, ?_, hb, hlt, fun j u hu => ?_⟩
        · rw [if_neg hck]; simp [add_off]
        · rw [Nat.add_assoc]
          refine hc _ u ?_
          rw [← rowC_drop, List.getElem?_drop] at hu
          exact hu
/-- the bag with a row of some of its messages -/
theorem BagO.swap {T : TypeId} {S : Nat → Prop} {w w1 : World} {b most : Nat} {v v' : Value} {xs ys : List X} (h : BagO T S w b most v xs) (hS : ∀ k, w.heap.size ≤ k → S k) (hb : Below w.heap.size w w1)
    (row : w1.ownsRow w.heap.size 38 11 v' ys.length (rowC ys)) (hys : ∀ y ∈ ys, y ∈ xs) (hlen : ys.length ≤ xs.length) :
    BagO T S (w1.setCell ⟨b, 1, none⟩ v') b most v' ys ∧ Kept S w (w1.setCell ⟨b, 1, none⟩ v') := by
  have hlt := h.lt
  have hb1 : w1.heap[b]? = _ := (hb.block b hlt).trans h.block
  have hown : ∀ g, v'.ownBlock = some g → w.heap.size ≤ g := fun g hg => (row.lt g hg).1
  refine ⟨⟨h.mine, heap_set hb1, ⟨own_base (own_keep row (fun g hg _ _ => Below.heap_setCell _ _ _ _ (fun e => by have e : g = b := e; have := hown g hg; omega))) (Nat.zero_le _), fun g hg => hS g (hown g hg), fun y hy => ?_, fun y hy => h.rm.sm y (hys y hy)⟩, Nat.le_trans hlen h.fit, h.lim⟩, (Kept.of_below hb).set (.inl h.mine) _⟩
  have h1 := (((h.rm.li y (hys y hy)).mono (fun k hk hh => (⟨hh, hk⟩ : (S k ∧ k ≠ b ∧ v.ownBlock ≠ some k) ∧ k < w.heap.size))).below hb).keep (w' := w1.setCell ⟨b, 1, none⟩ v') (by simp [World.setCell]) (fun g hg _ => Below.heap_setCell _ _ _ _ (fun e => hg.1.2.1 (by rw [e])))
  exact h1.mono (fun k _ hh => ⟨hh.1.1, hh.1.2.1, fun e => by have := hown k e; omega⟩)
set_option maxHeartbeats 4000000 in
set_option maxRecDepth 100000 in
theorem refLose_any {S : Nat → Prop} {w : World} {b most : Nat} {ms : List Msg} (h : BagAt RefT S w b most ms) (hS : ∀ k, w.heap.size ≤ k → S k) (hc : ms.length ≤ 1048576) (to : Int) :
    Calls Try.prog 18 #[ptrV b, .int .i64 to] w fun e w' => e = .returned (.int .i64 ((ms.length : Int) - ((stayS ms to).length : Int))) ∧ BagAt RefT S w' b most (stayS ms to) ∧ Kept S w w' := by
  obtain ⟨v, xs, rfl, h⟩ := h
  rw [List.length_map] at hc ⊢
  have H := Lib.hid h
  have HS := Lib.hid hS
  have c1 := h.c1
  have hbl := h.lt
  obtain ⟨a, c, rfl⟩ := h.rm.slice
  obtain ⟨i0, hi0, hz0, hz1, hz2⟩ := info_parts info_msg
  clear h hS
  go_enter Try.func18, Try.ntmps18
  go_wp2
  go_loopw [5, 6, 7] (fun l n i wr => ∃ k : Nat, k ≤ xs.length ∧ i = .int .i64 k ∧ n = .int .i64 ((k : Int) - ((stayS ((xs.take k).map (·.1)) to).length : Int)) ∧ Hid (Below w.heap.size w wr) ∧ ∃ la lc ys, l = .slice la ys.length lc ∧ Hid (ys.map (·.1) = stayS ((xs.take k).map (·.1)) to) ∧ Hid (∀ y ∈ ys, y ∈ xs) ∧ Hid (wr.ownsRow w.heap.size 38 11 (.slice la ys.length lc) ys.length (rowC ys))) (fun _ _ i _ => xs.length - (intOf i).toNat)
  case atStart => exact ⟨0, by omega, rfl, by simp [stayS], Below.refl _ _, none, 0, [], rfl, rfl, (fun y hy => by cases hy), World.ownsRow_nil _ _ _ _⟩
  case round =>
    obtain ⟨k, hk, rfl, rfl, BR, la, lc, ys, rfl, HM, HIN, HRO⟩ := hrel
    have hkn : (stayS ((xs.take k).map (·.1)) to).length ≤ k := by
      have := stayS_len ((xs.take k).map (·.1)) to
      rw [List.length_map, List.length_take] at this
      omega
    obtain ⟨q, hq⟩ : ∃ q : Nat, (stayS ((xs.take k).map (·.1)) to).length = q := ⟨_, rfl⟩
    have hyq : ys.length = q := by rw [← hq, ← HM.out, List.length_map]
    rw [hq] at hkn ⊢
    have HQ := Lib.hid hq
    have HYQ := Lib.hid hyq
    have hyb : ys.length + 1 ≤ 1048576 + 1 := by omega
    have hbr := H.out.keep (w' := wr) BR.out.size (fun g _ hl => BR.out.block g hl) (fun _ _ hg => hg)
    have d1 := hbr.c1
    by_cases hlt : k < xs.length
    · have hlti : (k : Int) < (xs.length : Int) := by omega
      obtain ⟨x, hx⟩ : ∃ x, xs[k]? = some x := ⟨xs[k], List.getElem?_eq_getElem hlt⟩
      obtain ⟨g, rfl, hcap, hgl, x0, x1, x2, x3, x4, x5, x6, x7, x8, x9, x10⟩ := hbr.rm.get hx
      have hli := hbr.rm.li _ (List.mem_of_getElem? hx)
      obtain ⟨m, lw, ew⟩ := x
      obtain ⟨⟨la', lc', e8⟩, ea', ec', e9⟩ := hli.slv (x := (m, lw, ew))
      simp only at e8 e9 x0 x1 x2 x3 x4 x5 x6 x7 x8 x9 x10 hli
      subst e8 e9
      have HX := Lib.hid hx
      have hmt : (xs.take (k + 1)).map (·.1) = (xs.take k).map (·.1) ++ [m] := by rw [take_snocA _ _ _ hx]; simp
      have HMT := Lib.hid hmt
      have HBR := Lib.hid hbr
      clear hbr hx hli hq hyq hmt hyb
      by_cases hs : m.t = to
      · have HSE : Hid (stayS ((xs.take (k + 1)).map (·.1)) to = stayS ((xs.take k).map (·.1)) to) := by show _ = _; rw [HMT.out, stayS_snoc, if_neg (by simp [hs])]
        have hn1 : IntKind.i64.wrap ((k : Int) - (q : Int) + 1) = (k : Int) - (q : Int) + 1 := IntWalk.i64_in _ (by omega)
        go_wp2
        go_roundw
        case rel => exact ⟨k + 1, by omega, by go_num, by rw [HSE.out, HQ.out]; congr 1; omega, BR, la, lc, ys, rfl, Lib.hid (by rw [HSE.out]; exact HM.out), HIN, HRO⟩
        case measure => simp [intOf]; omega
      · have HSE : Hid (stayS ((xs.take (k + 1)).map (·.1)) to = stayS ((xs.take k).map (·.1)) to ++ [m]) := by show _ = _; rw [HMT.out, stayS_snoc, if_pos (by simp [hs])]
        have hyb : ys.length + 1 ≤ 1048576 := by have := HYQ.out; omega
        have HB0 : Hid (w.heap.size ≤ wr.heap.size) := BR.out.size
        go_wp2_with (at_builtin; go_loud (refine wpList_append_row rfl _ _ 29 rfl w.heap.size 38 i0 (.agg #[.int .u8 0, .int .i64 0, .int .i64 0, .int .i64 0, .int .i64 0, .int .i64 0, .int .i64 0, .bool false, .slice none 0 0, .slice none 0 0, .string ⟨#[]⟩]) 11 128 Try.underlying29 hi0 hz0 hz1 hz2 rfl (by decide) _ ys.length (rowC ys) rfl (HRO.out.alloc _) _ 1 (m.list (.slice la' m.l.length lc') (.slice ea' m.es.length ec')) rfl (.inr ⟨⟨_, 0, none⟩, _, rfl, newsAt _ _ _ _ rfl⟩) rfl (list_one m _ _ _ _ _ _) (by unfold maxLen; omega) (by omega) (by have := HB0.out; simp; omega) ?_))
        intro v6 w6 ho6 hg6 _
        have HB6 : Hid (Below w.heap.size w w6) := (BR.out.alloc BR.out.size _).grown hg6 (by have := HB0.out; simp; omega) (fun j hj => (HRO.out.lt j hj).1)
        obtain ⟨la6, lc6, rfl⟩ := row_slice ho6
        have hsl6 : ∃ a c, (Value.slice la6 ys.length lc6 : Value) = .slice a ys.length c := ⟨_, _, rfl⟩
        have HO6 := Lib.hid ho6
        clear ho6 hg6
        go_wp2
        go_roundw
        case rel =>
          refine ⟨k + 1, by omega, by go_num, ?_, HB6, la6, lc6, ys ++ [(m, .slice la' m.l.length lc', .slice ea' m.es.length ec')], ?_, Lib.hid ?_, Lib.hid ?_, Lib.hid ?_⟩
          · rw [HSE.out, List.length_append, HQ.out]
            simp only [List.length_singleton]
            congr 1; omega
          · simp
          · rw [HSE.out, List.map_append, HM.out]; rfl
          · intro y hy
            rcases List.mem_append.1 hy with hy | hy
            · exact HIN.out y hy
            · simp only [List.mem_singleton] at hy; subst hy; exact List.mem_of_getElem? HX.out
          · have e : rowC (ys ++ [(m, Value.slice la' m.l.length lc', Value.slice ea' m.es.length ec')]) = rowC ys ++ m.list (.slice la' m.l.length lc') (.slice ea' m.es.length ec') := by rw [rowC_append]; simp [rowC]
            rw [e, List.length_append]
            exact HO6.out
        case measure => simp [intOf]; omega
    · have hlti : ¬ (k : Int) < (xs.length : Int) := by omega
      have hke : xs.take k = xs := List.take_of_length_le (by omega)
      have f1 := hbr.f 1
      have hsw := H.out.swap HS.out BR.out HRO.out HIN.out (by rw [hyq]; omega)
      have HSW := Lib.hid hsw
      have HKE := Lib.hid hke
      have hkx : (k : Int) = (xs.length : Int) := by omega
      have HKX := Lib.hid hkx
      clear hbr hsw hke hkx hq hyq hyb
      go_wp2
      go_ret
      rw [HKE.out] at HM HQ
      refine ⟨?_, ⟨_, ys, HM.out.symm, HSW.out.1⟩, HSW.out.2⟩
      show Ending.returned (.int .i64 ((k : Int) - (q : Int))) = _
      rw [HKX.out, HQ.out]
set_option maxHeartbeats 4000000 in
set_option maxRecDepth 100000 in
theorem refTake_any {S : Nat → Prop} {w : World} {b most : Nat} {ms : List Msg} (h : BagAt RefT S w b most ms) (i : Int) (hi63 : i ≤ 9223372036854775807) (hc : ms.length ≤ 1048576) :
    Calls Try.prog 13 #[ptrV b, .int .i64 i] w fun e w' => ∃ hi, AtRes ms i w.heap.size hi e w' ∧ BagAt RefT (fun k => (S k ∧ k < w.heap.size) ∨ hi ≤ k) w' b most (takeS ms i) ∧ Kept (fun k => S k ∧ k < w.heap.size) w w' ∧ w.heap.size ≤ hi ∧ hi ≤ w'.heap.size := by
  have HI : Hid ((Try.prog.info? 38).map (·.size) = some 11) := infoMsg
  obtain ⟨wa, hwa⟩ : ∃ wa, wa = w.alloc (.cells #[.int .u8 0, .int .i64 0, .int .i64 0, .int .i64 0, .int .i64 0, .int .i64 0, .int .i64 0, .bool false, .slice none 0 0, .slice none 0 0, .string ⟨#[]⟩] 38) := ⟨_, rfl⟩
  have hba : Below w.heap.size w wa := by rw [hwa]; exact (Below.refl _ _).alloc (Nat.le_refl _) _
  have hxa : wa.heap[w.heap.size]? = some (.cells #[.int .u8 0, .int .i64 0, .int .i64 0, .int .i64 0, .int .i64 0, .int .i64 0, .int .i64 0, .bool false, .slice none 0 0, .slice none 0 0, .string ⟨#[]⟩] 38 (0, 0)) := by rw [hwa]; exact heap_alloc_new w _
  have hsa : wa.heap.size = w.heap.size + 1 := by rw [hwa]; simp
  have ha := h.below hba
  have hat := refAt_any ha i
  obtain ⟨i0, hi0, hz0, hz1, hz2⟩ := info_parts info_msg
  have HA := Lib.hid hwa
  have HXA := Lib.hid hxa
  have HBA := Lib.hid hba
  have HH := Lib.hid (h.tight.below hba)
  clear h ha hxa hba hwa
  go_enter Try.func13, Try.ntmps13
  go_wp2_with fail
  rw [← HA.out]
  refine hat.mono ?_
  rintro e w1 ⟨⟨la, lc, ea, ec, rfl, hli⟩, hb1⟩
  obtain ⟨M, hM⟩ : ∃ M, M = (getI ms i).getD noMsg := ⟨_, rfl⟩
  rw [← hM] at hli ⊢
  obtain ⟨w2, hw2⟩ : ∃ w2, w2 = w1.alloc (.cells (M.arr (.slice la M.l.length lc) (.slice ea M.es.length ec)) 38) := ⟨_, rfl⟩
  have hb12 : Below w1.heap.size w1 w2 := by rw [hw2]; exact (Below.refl _ _).alloc (Nat.le_refl _) _
  have hb2 : Below wa.heap.size wa w2 := bw hb1 hb12
  have hx2 : w2.heap[w1.heap.size]? = some (msgO M (.slice la M.l.length lc) (.slice ea M.es.length ec)) := by rw [hw2]; exact heap_alloc_new w1 _
  have hr2 := box_below HXA.out hb2
  have hs1 := hb1.size
  have hl2 := hli.below hb12
  have hs2 : w2.heap.size = w1.heap.size + 1 := by rw [hw2]; simp
  cases hg : getI ms i with
  | none =>
    have hTS : takeS ms i = ms := by unfold takeS; rw [hg]; rfl
    have HIS : Hid ((getI ms i).isSome = false) := by show _ = _; rw [hg]; rfl
    simp only [Option.isSome_none]
    have HTS : Hid (takeS ms i = ms) := hTS
    clear hg hTS
    have HB2 : Hid (Below w.heap.size w w2) := HBA.out.trans (hb2.mono HBA.out.size)
    have HBag := Lib.hid (HH.out.below hb2)
    have HL2 : Hid (LI (fun k => w.heap.size < k ∧ k < w1.heap.size) w2 M (.slice la M.l.length lc) (.slice ea M.es.length ec)) := hl2.mono (fun k _ hk => by omega)
    have HR2 := Lib.hid hr2
    have HX2 := Lib.hid hx2
    have HM := Lib.hid hM
    have HS2 : w.heap.size + 1 ≤ w2.heap.size := by omega
    have HS3 : w1.heap.size ≤ w2.heap.size := by omega
    clear hb12 hb2 hx2 hr2 hl2 hli hM hb1 hs2
    subst hw2
    go_wp2_with (first
      | (refine wpList_load_row rfl 38 _ rfl w1.heap.size rfl 38 (M.arr (.slice la M.l.length lc) (.slice ea M.es.length ec)) (0, 0) _ HX2.out Try.underlying38 rfl HI.out ?_)
      | (refine wpList_store_row rfl 38 _ _ rfl w.heap.size (M.arr (.slice la M.l.length lc) (.slice ea M.es.length ec)) rfl rfl 38 _ HR2.out HI.out rfl (msg_one M _ _ _ _ _ _) ?_))
    generalize (w1.alloc (.cells (M.arr (.slice la M.l.length lc) (.slice ea M.es.length ec)) 38)) = w2 at *
    refine bodyPost_ret (v := .tuple #[M.agg (.slice la M.l.length lc) (.slice ea M.es.length ec), .bool false]) (results_pair (fn := Try.f13) (p := 4) (t := 5) rfl _ _ w.heap.size 38 (M.arr (.slice la M.l.length lc) (.slice ea M.es.length ec)) (0, 0) _ rfl (setRow_heap _ _ _ _ _ _ HR2.out) Try.underlying38 rfl HI.out) rfl ⟨w1.heap.size, ⟨la, lc, ea, ec, ?_, ?_⟩, ?_, ?_, ?_⟩
    · rw [← HM.out, HIS.out]
    · rw [← HM.out]
      exact (HL2.out.keep (by simp [World.setRow]) (fun g hg _ => setRow_other _ _ g _ (by omega))).mono (fun k _ hk => by omega)
    · rw [HTS.out]
      have hk5 : Kept (fun k => k = w.heap.size) w2 (w2.setRow w.heap.size (M.arr (.slice la M.l.length lc) (.slice ea M.es.length ec))) := ⟨rfl, rfl, rfl, by simp [World.setRow], fun k _ hk => setRow_other _ _ k _ hk⟩
      exact (HBag.out.other hk5 (fun k _ hk => by omega)).mono (fun k _ hk => .inl hk)
    · exact Kept.of_below (below_setRow HB2.out (Nat.le_refl _) _)
    · exact ⟨by omega, by simp [World.setRow]; exact HS3⟩
  | some m =>
    obtain ⟨k, rfl, hk, hm⟩ := getI_some hg
    have hTS : takeS ms (k : Int) = ms.eraseIdx k := by unfold takeS; rw [hg]; rfl
    have HTS : Hid (takeS ms (k : Int) = ms.eraseIdx k) := hTS
    have HIS : Hid ((getI ms (k : Int)).isSome = true) := by show _ = _; rw [hg]; rfl
    simp only [Option.isSome_some]
    obtain ⟨v, xs, hms, hbag⟩ := (HH.out.below hb2).mono (S' := fun k => (S k ∧ k < w.heap.size) ∨ w2.heap.size ≤ k) (fun _ _ hk => .inl hk)
    have hxl : ms.length = xs.length := by rw [hms, List.length_map]
    have hone := rowC_one xs (fun x hx => (hbag.rm.li x hx).slv)
    obtain ⟨a, c, rfl⟩ := hbag.rm.slice
    have hc1 := hbag.c1
    have hf1 := hbag.f 1
    have hkx : k < xs.length := by omega
    obtain ⟨t1, tc1, r1, r1', m1⟩ := msgs_to hbag.rm.msgs k (by omega)
    obtain ⟨t2, tc2, r2, r2', m2⟩ := msgs_from hbag.rm.msgs (k + 1) (by omega)
    push_cast at r2 r2'
    have hkw : IntKind.i64.wrap ((k : Int) + 1) = (k : Int) + 1 := IntWalk.i64_in _ (by omega)
    obtain ⟨n2, hn2⟩ : ∃ n2, n2 = xs.length - (k + 1) := ⟨_, rfl⟩
    rw [← hn2] at r2 r2' m2
    have hs1' : Src w2 (.slice t1 k tc1) k (rowC (xs.take k)) := by
      have := m1.1.src (fun e => by rw [List.length_eq_zero_iff.1 e]; rfl)
      rwa [List.length_take, Nat.min_eq_left (by omega)] at this
    have hr1 := m1.1
    have hr2r := m2.1
    have HB2 : Hid (Below w.heap.size w w2) := HBA.out.trans (hb2.mono HBA.out.size)
    have HL2 : Hid (LI (fun k => w.heap.size < k ∧ k < w1.heap.size) w2 M (.slice la M.l.length lc) (.slice ea M.es.length ec)) := hl2.mono (fun k _ hk => by omega)
    have HR2 := Lib.hid hr2
    have HX2 := Lib.hid hx2
    have HM := Lib.hid hM
    have HBG := Lib.hid hbag
    have HMS := Lib.hid hms
    have HSR := Lib.hid hs1'
    have HR3 := Lib.hid hr2r
    have HONE := Lib.hid hone
    have HN2 := Lib.hid hn2
    have HKX := Lib.hid hkx
    have hxb : xs.length ≤ 1048576 := by omega
    have HLT : Hid (w.heap.size < wa.heap.size ∧ wa.heap.size ≤ w1.heap.size ∧ w2.heap.size = w1.heap.size + 1) := ⟨by omega, hs1, hs2⟩
    have HBLT : Hid (b < w.heap.size) := by
      obtain ⟨_, _, _, hb0⟩ := HH.out
      exact hb0.mine.2
    have hn2b : k + n2 ≤ 1048576 := by omega
    have HKN : Hid (k + n2 = xs.length - 1) := by show _ = _; omega
    clear hg hTS hm hms hbag hb12 hb2 hx2 hr2 hl2 hli hM hb1 m1 m2 hs1' hr1 hr2r hone hn2 hs2 hk hxl
    have HW2 := Lib.hid hw2
    subst hw2
    go_wp2_with (at_builtin; go_loud (refine wpList_append_row rfl _ _ 29 rfl (w1.heap.size + 1) 38 i0 (.agg #[.int .u8 0, .int .i64 0, .int .i64 0, .int .i64 0, .int .i64 0, .int .i64 0, .int .i64 0, .bool false, .slice none 0 0, .slice none 0 0, .string ⟨#[]⟩]) 11 128 Try.underlying29 hi0 hz0 hz1 hz2 rfl (by decide) _ 0 [] rfl (World.ownsRow_nil _ _ _ _) _ k (rowC (xs.take k)) rfl HSR.out (by rw [rowC_len, List.length_take, Nat.min_eq_left (Nat.le_of_lt HKX.out)]) (fun u hu => HONE.out u (by rw [← rowC_take] at hu; exact List.mem_of_mem_take hu)) (by unfold maxLen; omega) (by omega) (by simp) ?_))
    intro v3 w3 ho3 hg3 _
    generalize (w1.alloc (.cells (M.arr (.slice la M.l.length lc) (.slice ea M.es.length ec)) 38)) = w2 at *
    obtain ⟨hL1, hL2, hL3⟩ := HLT.out
    have hb3 : Below w2.heap.size w2 w3 := ⟨hg3.os, hg3.tape, hg3.output, hg3.size, fun j hj => hg3.block j hj (by simp [Value.ownBlock])⟩
    have HB3 := Lib.hid hb3
    obtain ⟨la3, lc3, rfl⟩ := row_slice ho3
    have d1 : w3.cell? ⟨b, 1, none⟩ = some (.slice a xs.length c) := (hb3.cell (p := ⟨b, 1, none⟩) HBG.out.lt).trans hc1
    have HO3 : Hid (w3.ownsRow (w1.heap.size + 1) 38 11 (.slice la3 k lc3) k (rowC (xs.take k))) := Lib.hid (by simpa using ho3)
    have HS3 : Hid (Src w3 (.slice t2 n2 tc2) n2 (rowC (xs.drop (k + 1)))) := by
      have hl : (xs.drop (k + 1)).length = n2 := by rw [List.length_drop, HN2.out]
      have := (HR3.out.below hb3).src (fun e => by rw [List.length_eq_zero_iff.1 e]; rfl)
      rwa [hl] at this
    have HSZ3 : Hid (w1.heap.size + 1 ≤ w3.heap.size) := by have := hb3.size; show _ ≤ _; omega
    have hdl : (rowC (xs.drop (k + 1))).length = n2 * 11 := by rw [rowC_len, List.length_drop, HN2.out]
    have HDL := Lib.hid hdl
    clear ho3 hg3 hb3 hc1 hf1 r1 r1' hdl
    go_wp2_with (at_builtin; go_loud (refine wpList_append_row rfl _ _ 29 rfl (w1.heap.size + 1) 38 i0 (.agg #[.int .u8 0, .int .i64 0, .int .i64 0, .int .i64 0, .int .i64 0, .int .i64 0, .int .i64 0, .bool false, .slice none 0 0, .slice none 0 0, .string ⟨#[]⟩]) 11 128 Try.underlying29 hi0 hz0 hz1 hz2 rfl (by decide) _ k (rowC (xs.take k)) rfl HO3.out _ n2 (rowC (xs.drop (k + 1))) rfl HS3.out HDL.out (fun u hu => HONE.out u (by rw [← rowC_drop] at hu; exact List.mem_of_mem_drop hu)) (by unfold maxLen; omega) (by omega) HSZ3.out ?_))
    intro v5 w5 ho5 hg5 _
    have hb35 : Below w2.heap.size w3 w5 := ⟨hg5.os, hg5.tape, hg5.output, hg5.size, fun j hj => hg5.block j (by have := HSZ3.out; omega) (fun e => by have := (HO3.out.lt j e.symm).1; omega)⟩
    have hb25 : Below w2.heap.size w2 w5 := HB3.out.trans hb35
    have hrow : w5.ownsRow w2.heap.size 38 11 v5 (xs.eraseIdx k).length (rowC (xs.eraseIdx k)) := by
      have e1 : (xs.eraseIdx k).length = k + n2 := by rw [List.length_eraseIdx, if_pos HKX.out, HKN.out]
      rw [e1, rowC_erase xs k HKX.out, rowC_take, rowC_drop, hL3]
      exact ho5
    have hsw := HBG.out.swap (S := fun j => (S j ∧ j < w.heap.size) ∨ w2.heap.size ≤ j) (fun j hj => .inr hj) hb25 hrow (fun y hy => List.mem_of_mem_eraseIdx hy) (by rw [List.length_eraseIdx, if_pos HKX.out]; omega)
    have cb5 : w5.cell? ⟨b, 1, none⟩ = some (.slice a xs.length c) := (hb25.cell (p := ⟨b, 1, none⟩) HBG.out.lt).trans HBG.out.c1
    have fb5 : w5.frozen? ⟨b, 1, none⟩ = false := by rw [World.frozen?_of_block (a := ⟨b, 1, none⟩) (hb25.block b HBG.out.lt)]; exact HBG.out.f 1
    have hx5 : w5.heap[w1.heap.size]? = some (msgO M (.slice la M.l.length lc) (.slice ea M.es.length ec)) := (hb25.block _ (by omega)).trans HX2.out
    have hr5 : w5.heap[w.heap.size]? = some (.cells #[.int .u8 0, .int .i64 0, .int .i64 0, .int .i64 0, .int .i64 0, .int .i64 0, .int .i64 0, .bool false, .slice none 0 0, .slice none 0 0, .string ⟨#[]⟩] 38 (0, 0)) := (hb25.block _ (by omega)).trans HR2.out
    have hl5 := HL2.out.below hb25
    obtain ⟨la5, lc5, rfl⟩ := row_slice ho5
    have hbl := HBLT.out
    obtain ⟨w4, hw4⟩ : ∃ w4, w4 = w5.setCell ⟨b, 1, none⟩ (.slice la5 (k + n2) lc5) := ⟨_, rfl⟩
    have hs4 : w4.heap.size = w5.heap.size := by rw [hw4]; simp [World.setCell]
    have hk4 : ∀ j, j ≠ b → w4.heap[j]? = w5.heap[j]? := fun j hj => by rw [hw4]; exact Below.heap_setCell _ _ _ _ hj
    have HX4 := Lib.hid ((hk4 _ (by omega)).trans hx5)
    have HR4 := Lib.hid ((hk4 _ (by omega)).trans hr5)
    have HL4 := Lib.hid (hl5.keep (w' := w4) (Nat.le_of_eq hs4.symm) (fun j hj _ => hk4 j (by omega)))
    rw [← hw4] at hsw
    have HCUT := Lib.hid hsw
    have HS4 : Hid (w.heap.size + 1 ≤ w4.heap.size) := by have := hb25.size; show _ ≤ _; omega
    have HS5 : Hid (w1.heap.size + 1 ≤ w4.heap.size) := by have := hb25.size; show _ ≤ _; omega
    clear hsw hrow ho5 hg5 hb35 hb25 hx5 hr5 hl5 hk4 hs4 HL2 HR2 HX2 hL1 hL2
    subst hw4
    go_wp2_with (first
      | (refine wpList_load_row rfl 38 _ rfl w1.heap.size rfl 38 (M.arr (.slice la M.l.length lc) (.slice ea M.es.length ec)) (0, 0) _ HX4.out Try.underlying38 rfl HI.out ?_)
      | (refine wpList_store_row rfl 38 _ _ rfl w.heap.size (M.arr (.slice la M.l.length lc) (.slice ea M.es.length ec)) rfl rfl 38 _ HR4.out HI.out rfl (msg_one M _ _ _ _ _ _) ?_))
    generalize w5.setCell ⟨b, 1, none⟩ (.slice la5 (k + n2) lc5) = w4 at *
    have hk5 : Kept (fun k => k = w.heap.size) w4 (w4.setRow w.heap.size (M.arr (.slice la M.l.length lc) (.slice ea M.es.length ec))) := ⟨rfl, rfl, rfl, by simp [World.setRow], fun k _ hk => setRow_other _ _ k _ hk⟩
    refine bodyPost_ret (v := .tuple #[M.agg (.slice la M.l.length lc) (.slice ea M.es.length ec), .bool true]) (results_pair (fn := Try.f13) (p := 4) (t := 5) rfl _ _ w.heap.size 38 (M.arr (.slice la M.l.length lc) (.slice ea M.es.length ec)) (0, 0) _ rfl (setRow_heap _ _ _ _ _ _ HR4.out) Try.underlying38 rfl HI.out) rfl ⟨w1.heap.size + 1, ⟨la, lc, ea, ec, ?_, ?_⟩, ?_, ?_, ?_⟩
    · rw [← HM.out, HIS.out]
    · rw [← HM.out]
      exact (HL4.out.keep hk5.size (fun j hj hl => hk5.block j hl (by omega))).mono (fun k _ hk => by omega)
    · rw [HTS.out]
      have e : ms.eraseIdx k = (xs.eraseIdx k).map (·.1) := by rw [HMS.out]; simp [List.eraseIdx_eq_take_drop_succ]
      have hb : BagAt RefT (fun j => (S j ∧ j < w.heap.size) ∨ w2.heap.size ≤ j) w4 b most (ms.eraseIdx k) := ⟨_, _, e, HCUT.out.1⟩
      exact (hb.other hk5 (fun j _ hj => by omega)).mono (fun j _ hj => hj.elim .inl (fun h => .inr (by omega)))
    · have hk := (Kept.of_below (S := fun j => (S j ∧ j < w.heap.size) ∨ w2.heap.size ≤ j) HB2.out).trans HCUT.out.2
      exact ⟨hk5.os.trans hk.os, hk5.tape.trans hk.tape, hk5.output.trans hk.output, Nat.le_trans hk.size hk5.size, fun j hj hs => (hk5.block j (Nat.lt_of_lt_of_le hj hk.size) (by omega)).trans (hk.block j hj (fun h => h.elim hs (fun h => by omega)))⟩
    · exact ⟨by have := HLT.out; omega, by simp [World.setRow]; exact HS5.out⟩
end Go.Proofs.Ytheldpdckgoniaa
