/- The document's Double and Send. -/
import Derived.Test.YtheldpdckgoniaaLose
namespace Go.Proofs.Ytheldpdckgoniaa
open Go.RowKit

set_option maxHeartbeats 4000000 in
set_option maxRecDepth 100000 in
theorem refDouble_any {S : Nat → Prop} {w : World} {b most : Nat} {ms : List Msg} (h : BagAt RefT S w b most ms) (hS : ∀ k, w.heap.size ≤ k → S k) (hc : ms.length + 1 ≤ 1048576) (i : Int) :
    Calls Try.prog 16 #[ptrV b, .int .i64 i] w fun e w' => e = .returned (.bool (doubleS most ms i).1) ∧ BagAt RefT S w' b most (doubleS most ms i).2 ∧ Kept S w w' := by
  have HI : Hid ((Try.prog.info? 38).map (·.size) = some 11) := infoMsg
  have hat := refAt_any h i
  have H := Lib.hid h
  have HS := Lib.hid hS
  have HC := Lib.hid hc
  obtain ⟨i0, hi0, hz0, hz1, hz2⟩ := info_parts info_msg
  clear h hS hc
  go_enter Try.func16, Try.ntmps16
  go_wp2_with fail
  refine hat.mono ?_
  rintro e w1 ⟨⟨la, lc, ea, ec, rfl, hli⟩, hb1⟩
  obtain ⟨M, hM⟩ : ∃ M, M = (getI ms i).getD noMsg := ⟨_, rfl⟩
  rw [← hM] at hli ⊢
  obtain ⟨w2, hw2⟩ : ∃ w2, w2 = w1.alloc (.cells (M.arr (.slice la M.l.length lc) (.slice ea M.es.length ec)) 38) := ⟨_, rfl⟩
  have hb12 : Below w1.heap.size w1 w2 := by rw [hw2]; exact (Below.refl _ _).alloc (Nat.le_refl _) _
  have hb2 : Below w.heap.size w w2 := bw hb1 hb12
  have hx2 : w2.heap[w1.heap.size]? = some (msgO M (.slice la M.l.length lc) (.slice ea M.es.length ec)) := by rw [hw2]; exact heap_alloc_new w1 _
  have hl2 := hli.below hb12
  obtain ⟨v, xs, hms, hbag⟩ := H.out
  have hlen : ms.length = xs.length := by rw [hms, List.length_map]
  have hbg2 : BagO RefT S w2 b most v xs := hbag.keep hb2.size (fun g _ hl => hb2.block g hl) (fun _ _ hg => hg)
  have hc0 := hbg2.c0
  have hc1 := hbg2.c1
  have hf1 := hbg2.f 1
  obtain ⟨a, c, rfl⟩ := hbg2.rm.slice
  have hxl : xs.length + 1 ≤ 1048576 := by have := HC.out; omega
  have HB2 := Lib.hid hb2
  have HX2 := Lib.hid hx2
  have HL2 := Lib.hid hl2
  have HBG := Lib.hid hbag
  have HMS := Lib.hid hms
  have HLEN := Lib.hid hlen
  have HM := Lib.hid hM
  have HBR := Lib.hid hbg2.rm.row
  have HBL := Lib.hid hbg2.lt
  have HAP := Lib.hid (hbg2.apart (by decide))
  clear hat hli hb1 hb12 hb2 hx2 hl2 hms hlen hbag hbg2 hM
  cases hg : getI ms i with
  | none =>
    have HG : Hid (doubleS most ms i = (false, ms)) := by show _ = _; unfold doubleS; rw [hg]
    clear hg
    simp only [Option.isSome_none]
    subst hw2
    go_wp2_with fail
    go_quiet (fail)
    go_wp2
    go_ret
    rw [HG.out]
    exact ⟨rfl, (H.out.below HB2.out).below (below_drewN (Below.refl _ _) _), (Kept.of_below HB2.out).drewN _⟩
  | some m =>
    have hmM : M = m := by rw [HM.out, hg]; rfl
    subst hmM
    have HGS : Hid (doubleS most ms i = if ms.length < most then (true, ms ++ [M]) else (false, ms)) := by show _ = _; unfold doubleS; rw [hg]
    have HSM : Hid (Sm M) := by obtain ⟨k, _, _, e⟩ := getI_some hg; exact H.out.sm M (List.mem_of_getElem? e)
    clear hg HM
    simp only [Option.isSome_some]
    by_cases hlt : xs.length < most
    · have hdi : decide ((most : Int) ≤ (xs.length : Int)) = false := by simp; omega
      have hdn : decide (most ≤ xs.length) = false := by simp; omega
      subst hw2
      go_wp2_with fail
      go_quiet (fail)
      go_wp2_with fail
      obtain ⟨w3, hw3⟩ : ∃ w3, w3 = (w1.alloc (.cells (M.arr (.slice la M.l.length lc) (.slice ea M.es.length ec)) 38)).drewN nq := ⟨_, rfl⟩
      have hb23 : Below w.heap.size w w3 := by rw [hw3]; exact below_drewN HB2.out _
      have hh : w3.heap = (w1.alloc (.cells (M.arr (.slice la M.l.length lc) (.slice ea M.es.length ec)) 38)).heap := by rw [hw3]; exact heap_drewN _ _
      have hx3 : w3.heap[w1.heap.size]? = some (msgO M (.slice la M.l.length lc) (.slice ea M.es.length ec)) := by rw [hh]; exact HX2.out
      have hl3 : LI (fun k => w.heap.size ≤ k) w3 M (.slice la M.l.length lc) (.slice ea M.es.length ec) := (HL2.out.mono (fun k _ hk => hk.1)).keep (by rw [hh]; exact Nat.le_refl _) (fun g _ _ => by rw [hh])
      have hbg3 : BagO RefT S w3 b most (.slice a xs.length c) xs := HBG.out.keep hb23.size (fun g _ hl => hb23.block g hl) (fun _ _ hg => hg)
      have d1 := hbg3.c1
      have g1 := hbg3.f 1
      have hbl3 := hbg3.lt
      obtain ⟨y0, y1, y2, y3, y4, y5, y6, y7, y8, y9, y10, -⟩ := box_cells hx3
      have hne3 : b ≠ w3.heap.size := Nat.ne_of_lt hbl3
      have hsx : w1.heap.size < w3.heap.size := (Array.getElem?_eq_some_iff.1 hx3).1
      have ca : ∀ o, (w3.drew.alloc o).cell? ⟨b, 1, none⟩ = some (.slice a xs.length c) := fun o => (World.cell?_alloc_old _ _ _ hne3).trans d1
      have HB23 := Lib.hid hb23
      have HL3 := Lib.hid hl3
      have HBG3 := Lib.hid hbg3
      have HRO : Hid (w3.drew.ownsRow 0 38 11 (.slice a xs.length c) xs.length (rowC xs)) := hbg3.rm.row
      rw [← hw3]
      clear hb23 hx3 hl3 hbg3 hh hw3 hc0 hc1 hf1
      go_region_law (go_loud (refine step_append_lies _ rfl (.tmp 31) (.tmp 33) 29 rfl 0 38 i0 (.agg #[.int .u8 0, .int .i64 0, .int .i64 0, .int .i64 0, .int .i64 0, .int .i64 0, .int .i64 0, .bool false, .slice none 0 0, .slice none 0 0, .string ⟨#[]⟩]) 11 128 Try.underlying29 hi0 hz0 hz1 hz2 rfl (by decide) _ xs.length (rowC xs) rfl (HRO.out.alloc _) ⟨w3.heap.size, 0, none⟩ 1 1 (M.list (.slice la M.l.length lc) (.slice ea M.es.length ec)) rfl rfl (newsAt _ _ _ _ rfl) (list_one M _ _ _ _ _ _) (by decide) (by unfold maxLen; omega) (by omega) (Nat.zero_le _) _ rfl ?_; intro g7 cap7 w7 ho7 hg7 hl7 hlt7; have cc7 : w7.cell? ⟨b, 1, none⟩ = some (.slice a xs.length c) := (hg7.cell_far ⟨b, 1, none⟩ (by simp; exact Nat.lt_succ_of_lt hbl3) (fun e => HAP.out e.symm)).trans (ca _); have ff7 : w7.frozen? ⟨b, 1, none⟩ = false := (hg7.frozen_far ⟨b, 1, none⟩ (by simp; exact Nat.lt_succ_of_lt hbl3) (fun e => HAP.out e.symm)).trans ((World.frozen?_of_block (a := ⟨b, 1, none⟩) (Below.heap_alloc _ _ _ hbl3)).trans g1); have HO7 := Lib.hid ho7; have HG7 := Lib.hid hg7; have HL7 := Lib.hid hl7; clear ho7 hg7 hl7 hlt7))
      all_goals
        have hp := HBG.out.push (x := (M, .slice la M.l.length lc, .slice ea M.es.length ec)) (by decide) HS.out (w1 := w3.drew.alloc (.cells (M.arr (.slice la M.l.length lc) (.slice ea M.es.length ec)) 38)) (HB23.out.drew.alloc HB23.out.size _) ((HL3.out.keep (w' := w3.drew) (Nat.le_refl _) (fun _ _ _ => rfl)).below ((Below.refl _ _).alloc (Nat.le_refl _) _)) HSM.out HO7.out HG7.out (HL7.out.imp id (fun e => Nat.le_of_eq e.symm)) (by omega)
        have HP := Lib.hid hp
        clear hp
        generalize w7.setCell ⟨b, 1, none⟩ (.slice (some ⟨g7, 0, none⟩) (xs.length + 1) cap7) = w8 at *
        go_wp2
        go_ret
        rw [HGS.out, if_pos (by rw [HLEN.out]; exact hlt)]
        exact ⟨rfl, ⟨_, _, by rw [HMS.out]; simp, HP.out.1⟩, HP.out.2⟩
    · have hdi : (most : Int) ≤ (xs.length : Int) := by omega
      have hdn : decide (most ≤ xs.length) = true := by simp; omega
      subst hw2
      go_wp2_with fail
      go_quiet (fail)
      go_wp2
      go_ret
      rw [HGS.out, if_neg (by rw [HLEN.out]; exact hlt)]
      exact ⟨rfl, (H.out.below HB2.out).below (below_drewN (Below.refl _ _) _), (Kept.of_below HB2.out).drewN _⟩
end Go.Proofs.Ytheldpdckgoniaa
