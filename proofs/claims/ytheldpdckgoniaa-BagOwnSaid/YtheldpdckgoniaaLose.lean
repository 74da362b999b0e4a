/- Lose; and the document's At, Double. -/
import Derived.Test.YtheldpdckgoniaaLeave
namespace Go.Proofs.Ytheldpdckgoniaa
open Go.RowKit

set_option maxHeartbeats 1000000 in
theorem Lose_any {S : Nat → Prop} {w : World} {b most : Nat} {ms : List Msg} (h : BagAt BagT S w b most ms) (hS : ∀ k, w.heap.size ≤ k → S k) (hc : ms.length ≤ 1048576) (to : Int) :
    Calls Try.prog 17 #[ptrV b, .int .i64 to] w fun e w' => e = .returned (.int .i64 ((ms.length : Int) - ((stayS ms to).length : Int))) ∧ BagAt BagT S w' b most (stayS ms to) ∧ Kept S w w' := by
  obtain ⟨v, xs, rfl, h⟩ := h
  rw [List.length_map] at hc ⊢
  obtain ⟨w1, hw1⟩ : ∃ w1, w1 = w.alloc (.cells #[.int .i64 to] 3) := ⟨_, rfl⟩
  have hb1 : Below w.heap.size w w1 := by rw [hw1]; exact (Below.refl _ _).alloc (Nat.le_refl _) _
  have hc1 : w1.cell? ⟨w.heap.size, 0, none⟩ = some (.int .i64 to) := by rw [hw1, World.cell?_alloc_new]; rfl
  have h1 : BagO BagT S w1 b most v xs := h.keep hb1.size (fun g _ hl => hb1.block g hl) (fun _ _ hg => hg)
  have hl := leave_any h1 (fun k hk => hS k (Nat.le_trans hb1.size hk)) hc w.heap.size to hc1 (by have := h.lt; omega)
  have HL := Lib.hid hl
  have HK : Hid (Kept S w w1) := Kept.of_below hb1
  have HW := Lib.hid hw1
  clear hl h1 hc1 hb1 h hS hw1
  go_enter Try.func17, Try.ntmps17
  go_wp2_with fail
  rw [← HW.out]
  refine HL.out.mono ?_
  rintro e w2 ⟨rfl, hb2, hk2⟩
  have HB2 := Lib.hid hb2
  have HK2 : Hid (Kept S w w2) := HK.out.trans hk2
  clear hb2 hk2
  go_wp2
  go_ret
  exact ⟨rfl, HB2.out, HK2.out⟩
set_option maxHeartbeats 4000000 in
set_option maxRecDepth 100000 in
theorem refAt_any {S : Nat → Prop} {w : World} {b most : Nat} {ms : List Msg} (h : BagAt RefT S w b most ms) (i : Int) :
    Calls Try.prog 20 #[ptrV b, .int .i64 i] w fun e w' => AtRes ms i w.heap.size w'.heap.size e w' ∧ Below w.heap.size w w' := by
  obtain ⟨v, xs, rfl, h⟩ := h
  have HI : Hid ((Try.prog.info? 38).map (·.size) = some 11) := infoMsg
  obtain ⟨wa, hwa⟩ : ∃ wa, wa = w.alloc (.cells #[.int .u8 0, .int .i64 0, .int .i64 0, .int .i64 0, .int .i64 0, .int .i64 0, .int .i64 0, .bool false, .slice none 0 0, .slice none 0 0, .string ⟨#[]⟩] 38) := ⟨_, rfl⟩
  have hba : Below w.heap.size w wa := by rw [hwa]; exact (Below.refl _ _).alloc (Nat.le_refl _) _
  have hxa : wa.heap[w.heap.size]? = some (.cells #[.int .u8 0, .int .i64 0, .int .i64 0, .int .i64 0, .int .i64 0, .int .i64 0, .int .i64 0, .bool false, .slice none 0 0, .slice none 0 0, .string ⟨#[]⟩] 38 (0, 0)) := by rw [hwa]; exact heap_alloc_new w _
  have hsa : wa.heap.size = w.heap.size + 1 := by rw [hwa]; simp
  have h1 := h.keep hba.size (fun g _ hl => hba.block g hl) (fun _ _ hg => hg)
  obtain ⟨a, c, rfl⟩ := h.rm.slice
  have c1 := h.c1
  have HX := Lib.hid hxa
  cases hg : getI (xs.map (·.1)) i with
  | none =>
    have hn := getI_none hg
    have HG : Hid (∀ hi, AtRes (xs.map (·.1)) i w.heap.size hi (.returned (.tuple #[noMsg.agg (.slice none 0 0) (.slice none 0 0), .bool false])) (wa.setRow w.heap.size #[.int .u8 0, .int .i64 0, .int .i64 0, .int .i64 0, .int .i64 0, .int .i64 0, .int .i64 0, .bool false, .slice none 0 0, .slice none 0 0, .string ⟨#[]⟩])) := by
      intro hi
      refine ⟨none, 0, none, 0, ?_, ?_⟩
      · rw [hg]; rfl
      · rw [hg]; exact ⟨Run.nil _ _ _, Run.nil _ _ _⟩
    rw [List.length_map] at hn
    have HB := Lib.hid hba
    have hbl := h.lt
    clear hxa h h1 hg hba
    subst hwa
    go_enter Try.func20, Try.ntmps20
    by_cases hi : i < 0
    · go_wp2_with (go_loud (refine wpList_store_row rfl 38 _ _ rfl w.heap.size #[.int .u8 0, .int .i64 0, .int .i64 0, .int .i64 0, .int .i64 0, .int .i64 0, .int .i64 0, .bool false, .slice none 0 0, .slice none 0 0, .string ⟨#[]⟩] rfl rfl 38 _ HX.out HI.out rfl (msg_one noMsg none none 0 0 0 0) ?_))
      refine bodyPost_ret (v := .tuple #[noMsg.agg (.slice none 0 0) (.slice none 0 0), .bool false]) (results_pair (fn := Try.f20) (p := 4) (t := 5) rfl _ _ w.heap.size 38 #[.int .u8 0, .int .i64 0, .int .i64 0, .int .i64 0, .int .i64 0, .int .i64 0, .int .i64 0, .bool false, .slice none 0 0, .slice none 0 0, .string ⟨#[]⟩] (0, 0) _ rfl (setRow_heap _ _ _ _ _ _ HX.out) Try.underlying38 rfl HI.out) rfl ⟨HG.out _, below_setRow HB.out (Nat.le_refl _) _⟩
    · have hi2 : (xs.length : Int) ≤ i := by omega
      go_wp2_with (go_loud (refine wpList_store_row rfl 38 _ _ rfl w.heap.size #[.int .u8 0, .int .i64 0, .int .i64 0, .int .i64 0, .int .i64 0, .int .i64 0, .int .i64 0, .bool false, .slice none 0 0, .slice none 0 0, .string ⟨#[]⟩] rfl rfl 38 _ HX.out HI.out rfl (msg_one noMsg none none 0 0 0 0) ?_))
      refine bodyPost_ret (v := .tuple #[noMsg.agg (.slice none 0 0) (.slice none 0 0), .bool false]) (results_pair (fn := Try.f20) (p := 4) (t := 5) rfl _ _ w.heap.size 38 #[.int .u8 0, .int .i64 0, .int .i64 0, .int .i64 0, .int .i64 0, .int .i64 0, .int .i64 0, .bool false, .slice none 0 0, .slice none 0 0, .string ⟨#[]⟩] (0, 0) _ rfl (setRow_heap _ _ _ _ _ _ HX.out) Try.underlying38 rfl HI.out) rfl ⟨HG.out _, below_setRow HB.out (Nat.le_refl _) _⟩
  | some m =>
    obtain ⟨k, rfl, hk, hm⟩ := getI_some hg
    rw [List.length_map] at hk
    obtain ⟨x, hx, rfl⟩ : ∃ x, xs[k]? = some x ∧ x.1 = m := by
      rw [List.getElem?_map] at hm
      obtain ⟨x, h1, h2⟩ := Option.map_eq_some_iff.1 hm
      exact ⟨x, h1, h2⟩
    obtain ⟨m, lv, ev⟩ := x
    obtain ⟨g, rfl, hcap, hgl, x0, x1, x2, x3, x4, x5, x6, x7, x8, x9, x10⟩ := h.rm.get hx
    have hli := h1.rm.li _ (List.mem_of_getElem? hx)
    have hsm := h1.rm.sm _ (List.mem_of_getElem? hx)
    simp only at x0 x1 x2 x3 x4 x5 x6 x7 x8 x9 x10 hli hsm hg
    obtain ⟨⟨la, lc, e8⟩, ea, ec, e9⟩ := hli.slv (x := (m, lv, ev))
    simp only at e8 e9
    subst e8 e9
    have ht := copied_any hli hsm
    have HT := Lib.hid ht
    have hkI : (k : Int) < (xs.length : Int) := by omega
    have HGI := Lib.hid hg
    have HB := Lib.hid hba
    have hbl := h.lt
    clear hxa h h1 hg hm hx hli hsm ht hba
    have HA := Lib.hid hwa
    clear hwa
    go_enter Try.func20, Try.ntmps20
    go_wp2_with fail
    rw [← HA.out]
    refine HT.out.mono ?_
    rintro e w2 ⟨lv2, ev2, rfl, hl2, hb2⟩
    obtain ⟨la2, lc2, rfl, _⟩ := hl2.1.slice
    obtain ⟨ea2, ec2, rfl, _⟩ := hl2.2.slice
    have HX2 := Lib.hid (box_below HX.out hb2)
    have HL2 := Lib.hid hl2
    have HB2 := Lib.hid (HB.out.trans (hb2.mono HB.out.size))
    clear hl2 hb2
    go_wp2_with (go_loud (refine wpList_store_row rfl 38 _ _ rfl w.heap.size (m.arr (.slice la2 m.l.length lc2) (.slice ea2 m.es.length ec2)) rfl rfl 38 _ HX2.out HI.out rfl (msg_one m _ _ _ _ _ _) ?_))
    refine bodyPost_ret (v := .tuple #[m.agg (.slice la2 m.l.length lc2) (.slice ea2 m.es.length ec2), .bool true]) (results_pair (fn := Try.f20) (p := 4) (t := 5) rfl _ _ w.heap.size 38 (m.arr (.slice la2 m.l.length lc2) (.slice ea2 m.es.length ec2)) (0, 0) _ rfl (setRow_heap _ _ _ _ _ _ HX2.out) Try.underlying38 rfl HI.out) rfl ⟨⟨la2, lc2, ea2, ec2, ?_, ?_⟩, below_setRow HB2.out (Nat.le_refl _) _⟩
    · rw [HGI.out]; rfl
    · rw [HGI.out]
      have h3 : LI (fun k => w.heap.size < k) w2 m (.slice la2 m.l.length lc2) (.slice ea2 m.es.length ec2) := HL2.out.mono (fun k _ hk => by omega)
      exact (h3.keep (by simp [World.setRow]) (fun g hg _ => setRow_other _ _ g _ (by omega))).mono (fun k hl hk => ⟨by omega, hl⟩)
end Go.Proofs.Ytheldpdckgoniaa
