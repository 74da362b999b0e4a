/- Take. -/
import Derived.Test.YtheldpdckgoniaaDelete
namespace Go.Proofs.Ytheldpdckgoniaa
open Go.RowKit

/-- the messages without that at a place -/
def takeS (ms : List Msg) (i : Int) : List Msg := if (getI ms i).isSome then ms.eraseIdx i.toNat else ms
/-- the bag behind Delete -/
theorem BagO.cut {T : TypeId} {S : Nat → Prop} {w w' : World} {b most g n cap k : Nat} {xs : List X} {cur' : Array Value} (h : BagO T S w b most (.slice (some ⟨g, 0, none⟩) n cap) xs) (hT : T ≠ 38) (hn : n = xs.length) (hk : k < n) (hcap : n ≤ cap) (hcm : cap ≤ maxLen)
    (hg : w'.heap[g]? = some (.cells cur' 38 (0, 0))) (hs : cur'.size = cap * 11) (ht : cur'.toList.take ((n - 1) * 11) = rowC (xs.eraseIdx k)) (hgr : w.grownBy w' (some g)) :
    BagO T S (w'.setCell ⟨b, 1, none⟩ (.slice (some ⟨g, 0, none⟩) (n - 1) cap)) b most (.slice (some ⟨g, 0, none⟩) (n - 1) cap) (xs.eraseIdx k) ∧ Kept S w (w'.setCell ⟨b, 1, none⟩ (.slice (some ⟨g, 0, none⟩) (n - 1) cap)) := by
  have hap := h.apart hT
  have hgb : g ≠ b := fun e => hap (by rw [e]; rfl)
  have hSg : S g := h.rm.own g rfl
  have hb1 : w'.heap[b]? = _ := (hgr.block b h.lt (fun e => hgb (by cases e; rfl))).trans h.block
  have hel : (xs.eraseIdx k).length = n - 1 := by rw [List.length_eraseIdx, if_pos (by omega), hn]
  have hs3 : (w'.setCell ⟨b, 1, none⟩ (.slice (some ⟨g, 0, none⟩) (n - 1) cap)).heap.size = w'.heap.size := by simp [World.setCell]
  refine ⟨⟨h.mine, heap_set hb1, ⟨⟨by rw [hel, rowC_len, hel], .inr ⟨g, cap, cur', by rw [hel], Nat.zero_le _, (Below.heap_setCell _ _ _ _ (fun e => hgb e)).trans hg, by rw [hel]; omega, hcm, hs, by rw [hel]; exact ht⟩⟩, fun j hj => ?_, fun x hx => ?_, fun x hx => h.rm.sm x (List.mem_of_mem_eraseIdx hx)⟩, by rw [hel]; have := h.fit; omega, h.lim⟩, (Kept.of_grown hgr (fun p hp => by cases hp; exact hSg)).set (.inl h.mine) _⟩
  · simp [Value.ownBlock] at hj; subst hj; exact hSg
  · have h1 := h.rm.li x (List.mem_of_mem_eraseIdx hx)
    exact h1.keep (by rw [hs3]; exact hgr.size) (fun j hj hl => (Below.heap_setCell _ _ _ _ (fun e => hj.2.1 (by rw [e]))).trans (hgr.block j hl (fun e => hj.2.2 (by cases e; rfl))))
/-- a row that is not empty, taken apart -/
theorem RowM.open {S : Nat → Prop} {w : World} {b : Nat} {a : Option Addr} {n c : Nat} {xs : List X} (h : RowM S w b (.slice a n c) xs) (hn : 0 < xs.length) :
    ∃ g cur, a = some ⟨g, 0, none⟩ ∧ n = xs.length ∧ n ≤ c ∧ c ≤ maxLen ∧ w.heap[g]? = some (.cells cur 38 (0, 0)) ∧ cur.size = c * 11 ∧ cur.toList.take (n * 11) = rowC xs := by
  rcases h.row.2 with ⟨_, h0⟩ | ⟨g, cap, cur, e, _, hg, h1, h2, h3, h4⟩
  · omega
  · cases e
    exact ⟨g, cur, rfl, rfl, h1, h2, hg, h3, h4⟩
set_option maxHeartbeats 4000000 in
set_option maxRecDepth 100000 in
theorem Take_soft {S : Nat → Prop} {w : World} {b most : Nat} {ms : List Msg} (h : BagAt BagT S w b most ms) (i : Int) (hi63 : i ≤ 9223372036854775807) (hc : ms.length ≤ 1048576) :
    Calls Try.prog 12 #[ptrV b, .int .i64 i] w fun e w' => ∃ hi, AtSoft ms i w.heap.size hi e w' ∧ BagAt BagT (fun k => S k ∧ k < w.heap.size) w' b most (takeS ms i) ∧ Kept (fun k => S k ∧ k < w.heap.size) w w' ∧ hi ≤ w'.heap.size := by
  have HI : Hid ((Try.prog.info? 38).map (·.size) = some 11) := infoMsg
  obtain ⟨wa, hwa⟩ : ∃ wa, wa = w.alloc (.cells #[.int .u8 0, .int .i64 0, .int .i64 0, .int .i64 0, .int .i64 0, .int .i64 0, .int .i64 0, .bool false, .slice none 0 0, .slice none 0 0, .string ⟨#[]⟩] 38) := ⟨_, rfl⟩
  have hba : Below w.heap.size w wa := by rw [hwa]; exact (Below.refl _ _).alloc (Nat.le_refl _) _
  have hxa : wa.heap[w.heap.size]? = some (.cells #[.int .u8 0, .int .i64 0, .int .i64 0, .int .i64 0, .int .i64 0, .int .i64 0, .int .i64 0, .bool false, .slice none 0 0, .slice none 0 0, .string ⟨#[]⟩] 38 (0, 0)) := by rw [hwa]; exact heap_alloc_new w _
  have hsa : wa.heap.size = w.heap.size + 1 := by rw [hwa]; simp
  have ha := h.below hba
  have hat := At_soft ha i
  have HA := Lib.hid hwa
  have HXA := Lib.hid hxa
  have HBA := Lib.hid hba
  have HH := Lib.hid (h.tight.below hba)
  clear h ha hxa hba hwa
  go_enter Try.func12, Try.ntmps12
  go_wp2_with fail
  rw [← HA.out]
  refine hat.mono ?_
  rintro e w1 ⟨⟨la, lc, ea, ec, rfl, hli⟩, hb1⟩
  obtain ⟨M, hM⟩ : ∃ M, M = (getI ms i).getD noMsg := ⟨_, rfl⟩
  rw [← hM] at hli ⊢
  obtain ⟨w2, hw2⟩ : ∃ w2, w2 = w1.alloc (.cells (M.arr (.slice la M.l.length lc) (.slice ea M.es.length ec)) 38) := ⟨_, rfl⟩
  have hb12 : Below w1.heap.size w1 w2 := by rw [hw2]; exact (Below.refl _ _).alloc (Nat.le_refl _) _
  have hb2 : Below wa.heap.size wa w2 := bw hb1 hb12
  have hx2 : w2.heap[w1.heap.size]? = some (msgO M (.slice la M.l.length lc) (.slice ea M.es.length ec)) := by rw [hw2]; exact heap_alloc_new w1 _
  have hr2 := box_below HXA.out hb2
  have hs1 := hb1.size
  have hl2 := hli.below hb12
  have hs2 : w2.heap.size = w1.heap.size + 1 := by rw [hw2]; simp
  cases hg : getI ms i with
  | none =>
    have hTS : takeS ms i = ms := by unfold takeS; rw [hg]; rfl
    have HIS : Hid ((getI ms i).isSome = false) := by show _ = _; rw [hg]; rfl
    simp only [Option.isSome_none]
    have HTS : Hid (takeS ms i = ms) := hTS
    clear hg hTS
    have HB2 : Hid (Below w.heap.size w w2) := HBA.out.trans (hb2.mono HBA.out.size)
    have HBag := Lib.hid (HH.out.below hb2)
    have HL2 : Hid (LI (fun k => w.heap.size < k ∧ k < w1.heap.size ∧ Soft w2 k) w2 M (.slice la M.l.length lc) (.slice ea M.es.length ec)) := hl2.mono (fun k _ hk => ⟨by have := hk.1; omega, hk.2.1, hk.2.2.eq (hb12.block k hk.2.2.lt)⟩)
    have HR2 := Lib.hid hr2
    have HX2 := Lib.hid hx2
    have HM := Lib.hid hM
    have HS2 : w.heap.size + 1 ≤ w2.heap.size := by omega
    have HS3 : w1.heap.size ≤ w2.heap.size := by omega
    clear hb12 hb2 hx2 hr2 hl2 hli hM hb1 hs2
    subst hw2
    go_wp2_with (first
      | (refine wpList_load_row rfl 38 _ rfl w1.heap.size rfl 38 (M.arr (.slice la M.l.length lc) (.slice ea M.es.length ec)) (0, 0) _ HX2.out Try.underlying38 rfl HI.out ?_)
      | (refine wpList_store_row rfl 38 _ _ rfl w.heap.size (M.arr (.slice la M.l.length lc) (.slice ea M.es.length ec)) rfl rfl 38 _ HR2.out HI.out rfl (msg_one M _ _ _ _ _ _) ?_))
    generalize (w1.alloc (.cells (M.arr (.slice la M.l.length lc) (.slice ea M.es.length ec)) 38)) = w2 at *
    refine bodyPost_ret (v := .tuple #[M.agg (.slice la M.l.length lc) (.slice ea M.es.length ec), .bool false]) (results_pair (fn := Try.f12) (p := 4) (t := 5) rfl _ _ w.heap.size 38 (M.arr (.slice la M.l.length lc) (.slice ea M.es.length ec)) (0, 0) _ rfl (setRow_heap _ _ _ _ _ _ HR2.out) Try.underlying38 rfl HI.out) rfl ⟨w1.heap.size, ⟨la, lc, ea, ec, ?_, ?_⟩, ?_, ?_, ?_⟩
    · rw [← HM.out, HIS.out]
    · rw [← HM.out]
      exact (HL2.out.keep (by simp [World.setRow]) (fun g hg _ => setRow_other _ _ g _ (by have := hg.1; omega))).mono (fun k _ hk => ⟨by have := hk.1; omega, hk.2.1, hk.2.2.eq (setRow_other _ _ k _ (by have := hk.1; omega))⟩)
    · rw [HTS.out]
      have hk5 : Kept (fun k => k = w.heap.size) w2 (w2.setRow w.heap.size (M.arr (.slice la M.l.length lc) (.slice ea M.es.length ec))) := ⟨rfl, rfl, rfl, by simp [World.setRow], fun k _ hk => setRow_other _ _ k _ hk⟩
      exact HBag.out.other hk5 (fun k _ hk => by omega)
    · exact Kept.of_below (below_setRow HB2.out (Nat.le_refl _) _)
    · simp [World.setRow]; exact HS3
  | some m =>
    obtain ⟨k, rfl, hk, hm⟩ := getI_some hg
    have hTS : takeS ms (k : Int) = ms.eraseIdx k := by unfold takeS; rw [hg]; rfl
    have HTS : Hid (takeS ms (k : Int) = ms.eraseIdx k) := hTS
    have HIS : Hid ((getI ms (k : Int)).isSome = true) := by show _ = _; rw [hg]; rfl
    simp only [Option.isSome_some]
    obtain ⟨v, xs, hms, hbag⟩ := HH.out.below hb2
    have hxl : ms.length = xs.length := by rw [hms, List.length_map]
    obtain ⟨a, c, rfl⟩ := hbag.rm.slice
    obtain ⟨g, cur, rfl, _, hnc, hcm, hgb, hcs, hct⟩ := hbag.rm.open (by omega)
    have hc1 := hbag.c1
    have hf1 := hbag.f 1
    have hdel := Delete_any hgb rfl hnc hcm hcs hct (k := k) (by omega) (fun x hx => (hbag.rm.li x hx).slv)
    have hkw : IntKind.i64.wrap ((k : Int) + 1) = (k : Int) + 1 := IntWalk.i64_in _ (by omega)
    have HB2 : Hid (Below w.heap.size w w2) := HBA.out.trans (hb2.mono HBA.out.size)
    have HL2 : Hid (LI (fun k => w.heap.size < k ∧ k < w1.heap.size ∧ Soft w2 k) w2 M (.slice la M.l.length lc) (.slice ea M.es.length ec)) := hl2.mono (fun k _ hk => ⟨by have := hk.1; omega, hk.2.1, hk.2.2.eq (hb12.block k hk.2.2.lt)⟩)
    have HR2 := Lib.hid hr2
    have HX2 := Lib.hid hx2
    have HM := Lib.hid hM
    have HBG := Lib.hid hbag
    have HMS := Lib.hid hms
    have HG := Lib.hid hgb
    have HK : Hid (k < xs.length) := by show k < xs.length; omega
    have HDEL := Lib.hid hdel
    have HW2 := Lib.hid hw2
    have HLT : Hid (w.heap.size < wa.heap.size ∧ wa.heap.size ≤ w1.heap.size ∧ w2.heap.size = w1.heap.size + 1) := ⟨by omega, hs1, hs2⟩
    have HBLT : Hid (b < w.heap.size ∧ g < w.heap.size) := ⟨hbag.mine.2, (hbag.rm.own g rfl).2⟩
    clear hg hTS hm hms hbag hgb hcs hct hdel hb12 hb2 hx2 hr2 hl2 hli hM hb1
    subst hw2
    go_wp2_with fail
    refine HDEL.out.mono ?_
    rintro e w3 ⟨rfl, cur', hg3, hs3, ht3, hgr⟩
    have hcut := HBG.out.cut (by decide) rfl HK.out hnc hcm hg3 hs3 ht3 hgr
    obtain ⟨hL1, hL2, hL3⟩ := HLT.out
    obtain ⟨hbl, hgl⟩ := HBLT.out
    have hb3 : w3.heap[b]? = _ := (hgr.block b HBG.out.lt (fun e => HBG.out.apart (by decide) e.symm)).trans HBG.out.block
    have c3 : w3.cell? ⟨b, 1, none⟩ = some (.slice (some ⟨g, 0, none⟩) xs.length c) := by rw [Lib.cell_of_heap hb3]; rfl
    have f3 : w3.frozen? ⟨b, 1, none⟩ = false := Lib.frozen_of_heap hb3 1
    have hx3 : w3.heap[w1.heap.size]? = some (msgO M (.slice la M.l.length lc) (.slice ea M.es.length ec)) := (hgr.block _ (by omega) (fun e => by cases e; omega)).trans HX2.out
    have hr3 : w3.heap[w.heap.size]? = some (.cells #[.int .u8 0, .int .i64 0, .int .i64 0, .int .i64 0, .int .i64 0, .int .i64 0, .int .i64 0, .bool false, .slice none 0 0, .slice none 0 0, .string ⟨#[]⟩] 38 (0, 0)) := (hgr.block _ (by omega) (fun e => by cases e; omega)).trans HR2.out
    have hl3 : LI (fun k => w.heap.size < k ∧ k < w1.heap.size ∧ Soft w3 k) w3 M (.slice la M.l.length lc) (.slice ea M.es.length ec) := (HL2.out.keep (w' := w3) hgr.size (fun j hj hl => hgr.block j hl (fun e => by cases e; have := hj.1; omega))).mono (fun k _ hk => ⟨hk.1, hk.2.1, hk.2.2.eq (hgr.block k hk.2.2.lt (fun e => by cases e; have := hk.1; omega))⟩)
    obtain ⟨w4, hw4⟩ : ∃ w4, w4 = w3.setCell ⟨b, 1, none⟩ (.slice (some ⟨g, 0, none⟩) (xs.length - 1) c) := ⟨_, rfl⟩
    have hs4 : w4.heap.size = w3.heap.size := by rw [hw4]; simp [World.setCell]
    have hk4 : ∀ j, j ≠ b → w4.heap[j]? = w3.heap[j]? := fun j hj => by rw [hw4]; exact Below.heap_setCell _ _ _ _ hj
    have HX4 := Lib.hid ((hk4 _ (by omega)).trans hx3)
    have HR4 := Lib.hid ((hk4 _ (by omega)).trans hr3)
    have HL4 : Hid (LI (fun k => w.heap.size < k ∧ k < w1.heap.size ∧ Soft w4 k) w4 M (.slice la M.l.length lc) (.slice ea M.es.length ec)) := (hl3.keep (w' := w4) (Nat.le_of_eq hs4.symm) (fun j hj _ => hk4 j (by have := hj.1; omega))).mono (fun k _ hk => ⟨hk.1, hk.2.1, hk.2.2.eq (hk4 k (by have := hk.1; omega))⟩)
    rw [← hw4] at hcut
    have HCUT := Lib.hid hcut
    have HS4 : Hid (w.heap.size + 1 ≤ w4.heap.size) := by have := hgr.size; show _ ≤ _; omega
    have HS5 : Hid (w1.heap.size ≤ w4.heap.size) := by have := hgr.size; show _ ≤ _; omega
    clear hcut hg3 hs3 ht3 hgr hb3 hx3 hr3 hl3 hk4 hs4 HDEL HL2 HR2 HX2 HG hL1 hL2 hL3
    subst hw4
    go_wp2_with (first
      | (refine wpList_load_row rfl 38 _ rfl w1.heap.size rfl 38 (M.arr (.slice la M.l.length lc) (.slice ea M.es.length ec)) (0, 0) _ HX4.out Try.underlying38 rfl HI.out ?_)
      | (refine wpList_store_row rfl 38 _ _ rfl w.heap.size (M.arr (.slice la M.l.length lc) (.slice ea M.es.length ec)) rfl rfl 38 _ HR4.out HI.out rfl (msg_one M _ _ _ _ _ _) ?_))
    generalize w3.setCell ⟨b, 1, none⟩ (.slice (some ⟨g, 0, none⟩) (xs.length - 1) c) = w4 at *
    have hk5 : Kept (fun k => k = w.heap.size) w4 (w4.setRow w.heap.size (M.arr (.slice la M.l.length lc) (.slice ea M.es.length ec))) := ⟨rfl, rfl, rfl, by simp [World.setRow], fun k _ hk => setRow_other _ _ k _ hk⟩
    refine bodyPost_ret (v := .tuple #[M.agg (.slice la M.l.length lc) (.slice ea M.es.length ec), .bool true]) (results_pair (fn := Try.f12) (p := 4) (t := 5) rfl _ _ w.heap.size 38 (M.arr (.slice la M.l.length lc) (.slice ea M.es.length ec)) (0, 0) _ rfl (setRow_heap _ _ _ _ _ _ HR4.out) Try.underlying38 rfl HI.out) rfl ⟨w1.heap.size, ⟨la, lc, ea, ec, ?_, ?_⟩, ?_, ?_, ?_⟩
    · rw [← HM.out, HIS.out]
    · rw [← HM.out]
      exact (HL4.out.keep hk5.size (fun j hj hl => hk5.block j hl (by have := hj.1; omega))).mono (fun k _ hk => ⟨by have := hk.1; omega, hk.2.1, hk.2.2.eq (hk5.block k hk.2.2.lt (by have := hk.1; omega))⟩)
    · rw [HTS.out]
      have e : ms.eraseIdx k = (xs.eraseIdx k).map (·.1) := by rw [HMS.out]; simp [List.eraseIdx_eq_take_drop_succ]
      have hb : BagAt BagT (fun k => S k ∧ k < w.heap.size) w4 b most (ms.eraseIdx k) := ⟨_, _, e, HCUT.out.1⟩
      exact hb.other hk5 (fun j _ hj => by omega)
    · have hk := (Kept.of_below (S := fun k => S k ∧ k < w.heap.size) HB2.out).trans HCUT.out.2
      exact ⟨hk5.os.trans hk.os, hk5.tape.trans hk.tape, hk5.output.trans hk.output, Nat.le_trans hk.size hk5.size, fun j hj hs => (hk5.block j (Nat.lt_of_lt_of_le hj hk.size) (by omega)).trans (hk.block j hj hs)⟩
    · simp [World.setRow]; exact HS5.out
theorem Take_any {S : Nat → Prop} {w : World} {b most : Nat} {ms : List Msg} (h : BagAt BagT S w b most ms) (i : Int) (hi63 : i ≤ 9223372036854775807) (hc : ms.length ≤ 1048576) :
    Calls Try.prog 12 #[ptrV b, .int .i64 i] w fun e w' => ∃ hi, AtRes ms i w.heap.size hi e w' ∧ BagAt BagT (fun k => S k ∧ k < w.heap.size) w' b most (takeS ms i) ∧ Kept (fun k => S k ∧ k < w.heap.size) w w' ∧ hi ≤ w'.heap.size :=
  (Take_soft h i hi63 hc).mono (fun _ _ hh => by obtain ⟨hi, h1, h2⟩ := hh; exact ⟨hi, h1.plain, h2⟩)
end Go.Proofs.Ytheldpdckgoniaa
