/- The document's Send. -/
import Derived.Test.YtheldpdckgoniaaRef
namespace Go.Proofs.Ytheldpdckgoniaa
open Go.RowKit

set_option maxHeartbeats 4000000 in
set_option maxRecDepth 100000 in
theorem refSend_any {S : Nat → Prop} {w : World} {b most : Nat} {ms : List Msg} (h : BagAt RefT S w b most ms) (hS : ∀ k, w.heap.size ≤ k → S k) {lv : Value} {ys : List X} (hl : MsgsIn (fun k => ¬ S k) w lv ys) (hsm : ∀ y ∈ ys, Sm y.1) (hc : ms.length + ys.length ≤ 1048576) :
    Calls Try.prog 11 #[ptrV b, lv] w fun e w' => e = .returned (.int .i64 (min ys.length (most - ms.length) : Nat)) ∧ BagAt RefT S w' b most (ms ++ (ys.take (min ys.length (most - ms.length))).map (·.1)) ∧ Kept S w w' := by
  obtain ⟨K, hK⟩ : ∃ K, K = min ys.length (most - ms.length) := ⟨_, rfl⟩
  rw [← hK]
  have hKI : Hid (K ≤ ys.length ∧ K ≤ most - ms.length ∧ (K = ys.length ∨ most - ms.length = K)) := by show _ ∧ _; omega
  obtain ⟨la, lc, rfl, hlc⟩ := hl.1.slice
  have H := Lib.hid h
  have HL := Lib.hid hl
  have HZ := Lib.hid hsm
  have HS := Lib.hid hS
  have hfit := h.fit
  have hlim := h.lim
  obtain ⟨i0, hi0, hz0, hz1, hz2⟩ := info_parts info_msg
  have hKy : K ≤ ys.length := by omega
  have hKb : ms.length + ys.length ≤ 1048576 := hc
  clear h hl hsm hS hc hK
  go_enter Try.func11, Try.ntmps11
  go_wp2
  go_loopw [5, 6] (fun n i wr => ∃ k : Nat, k ≤ K ∧ n = .int .i64 k ∧ i = .int .i64 k ∧ Hid (BagAt RefT S wr b most (ms ++ (ys.take k).map (·.1))) ∧ Hid (Kept S w wr)) (fun _ i _ => K - (intOf i).toNat)
  case atStart => exact ⟨0, by omega, rfl, rfl, Lib.hid (by simpa using H.out), Kept.refl _ _⟩
  case round =>
    obtain ⟨k, hk, rfl, rfl, BR, KR⟩ := hrel
    obtain ⟨v1, xs1, e1, hb1⟩ := BR.out
    obtain ⟨a1, c1, rfl⟩ := hb1.rm.slice
    have hlen : xs1.length = ms.length + k := by
      have := congrArg List.length e1
      simp only [List.length_map, List.length_append, List.length_take] at this
      omega
    have HLEN := Lib.hid hlen
    have hx1 : xs1.length + 1 ≤ 1048576 ∨ k = K := by have := hKI.out; omega
    have hc0 := hb1.c0
    have hc1 := hb1.c1
    by_cases hlt : k < K
    · have hki : (k : Int) < (ys.length : Int) := by omega
      have hkn : k < ys.length := by omega
      have hmi : (xs1.length : Int) < (most : Int) := by have := hKI.out; omega
      have hmn : xs1.length < most := by have := hKI.out; omega
      have hx1' : xs1.length + 1 ≤ 1048576 := by omega
      obtain ⟨x, hx⟩ : ∃ x, ys[k]? = some x := ⟨ys[k], List.getElem?_eq_getElem (by omega)⟩
      have LR : Hid (MsgsIn (fun k => ¬ S k) wr (.slice la ys.length lc) ys) := (HL.out.off KR.out)
      obtain ⟨g, off, rfl, -, hcap, hgS, hgl, x0, x1, x2, x3, x4, x5, x6, x7, x8, x9, x10⟩ := LR.out.get hx
      have hxl := LR.out.2 x (List.mem_of_getElem? hx)
      obtain ⟨m, lw, ew⟩ := x
      obtain ⟨⟨la', lc', e8⟩, ea', ec', e9⟩ := hxl.slv
      simp only at e8 e9 x0 x1 x2 x3 x4 x5 x6 x7 x8 x9 x10 hxl
      subst e8 e9
      have HXL := Lib.hid hxl
      have HX := Lib.hid hx
      have HM : Hid (Sm m) := HZ.out _ (List.mem_of_getElem? HX.out)
      have HB1 := Lib.hid hb1
      have E1 := Lib.hid e1
      have HKK := Lib.hid hlt
      clear hxl hx hb1 e1 hlen hx1
      go_wp2_with fail
      go_quiet (fail)
      go_wp2_with fail
      obtain ⟨wa, hwa⟩ : ∃ wa, wa = wr.drewN nq := ⟨_, rfl⟩
      have hba : Below wr.heap.size wr wa := by rw [hwa]; exact below_drewN (Below.refl _ _) _
      have KA : Hid (Kept S w wa) := KR.out.trans (Kept.of_below hba)
      have hb2 : BagO RefT S wa b most (.slice a1 xs1.length c1) xs1 := HB1.out.keep hba.size (fun g _ hl => hba.block g hl) (fun _ _ hg => hg)
      have LA : Hid (MsgsIn (fun k => ¬ S k) wa (.slice (some ⟨g, off, none⟩) ys.length lc) ys) := LR.out.below hba
      obtain ⟨g', off', eg, -, -, -, -, y0, y1, y2, y3, y4, y5, y6, y7, y8, y9, y10⟩ := LA.out.get HX.out
      simp only [Option.some.injEq, Addr.mk.injEq, and_true] at eg
      obtain ⟨rfl, rfl⟩ := eg
      simp only at y0 y1 y2 y3 y4 y5 y6 y7 y8 y9 y10
      have hla := HXL.out.below hba
      have d1 := hb2.c1
      rw [← hwa]
      have hkp : ∀ w', Below wa.heap.size wa w' → Calls Try.prog 26 #[m.agg (.slice la' m.l.length lc') (.slice ea' m.es.length ec')] w' fun e w'' => ∃ la2 lc2 ea2 ec2, e = .returned (m.agg (.slice la2 m.l.length lc2) (.slice ea2 m.es.length ec2)) ∧ LI (fun k => wa.heap.size ≤ k) w'' m (.slice la2 m.l.length lc2) (.slice ea2 m.es.length ec2) ∧ Below wa.heap.size wa w'' ∧ w''.cell? ⟨b, 1, none⟩ = some (.slice a1 xs1.length c1) ∧ w''.ownsRow 0 38 11 (.slice a1 xs1.length c1) xs1.length (rowC xs1) ∧ (∀ j, w''.frozen? ⟨b, j, none⟩ = false) := by
        intro w' hb'
        refine (copied_any (hla.below hb') HM.out).mono ?_
        rintro e w'' ⟨lv2, ev2, rfl, hl2, hb2'⟩
        obtain ⟨la2, lc2, rfl, _⟩ := hl2.1.slice
        obtain ⟨ea2, ec2, rfl, _⟩ := hl2.2.slice
        have hb := hb'.trans (hb2'.mono hb'.size)
        exact ⟨_, _, _, _, rfl, hl2.mono (fun k _ hk => Nat.le_trans hb'.size hk), hb, (hb.cell (p := ⟨b, 1, none⟩) hb2.lt).trans d1, own_keep hb2.rm.row (fun g _ _ hl => hb.block g hl), fun j => by rw [World.frozen?_of_block (a := ⟨b, j, none⟩) (hb.block b hb2.lt)]; exact hb2.f j⟩
      have HKP := Lib.hid hkp
      have HBA := Lib.hid hb2
      have hbl := hb2.lt
      clear hkp hb2 hwa hla x0 x1 x2 x3 x4 x5 x6 x7 x8 x9 x10 hba hc0 hc1
      go_region_law (first
        | (go_simp; go_at_call 26; refine (HKP.out _ ((Below.refl _ _).drew)).mono ?_; rintro e w6 ⟨la2, lc2, ea2, ec2, rfl, hl6, hb6, cc6, ho6, hf6⟩; have ff6 := hf6 1; have hne6 : b ≠ w6.heap.size := Nat.ne_of_lt (Nat.lt_of_lt_of_le hbl hb6.size); have ca6 : ∀ o, (w6.alloc o).cell? ⟨b, 1, none⟩ = some (.slice a1 xs1.length c1) := fun o => (World.cell?_alloc_old _ _ _ hne6).trans cc6; have HL6 := Lib.hid hl6; have HB6 := Lib.hid hb6; have HO6 := Lib.hid ho6; clear hl6 hb6 ho6 hf6)
        | (go_loud (refine step_append_lies _ rfl (.tmp 29) (.tmp 35) 29 rfl 0 38 i0 (.agg #[.int .u8 0, .int .i64 0, .int .i64 0, .int .i64 0, .int .i64 0, .int .i64 0, .int .i64 0, .bool false, .slice none 0 0, .slice none 0 0, .string ⟨#[]⟩]) 11 128 Try.underlying29 hi0 hz0 hz1 hz2 rfl (by decide) _ xs1.length (rowC xs1) rfl (HO6.out.alloc _) ⟨w6.heap.size, 0, none⟩ 1 1 (m.list (.slice la2 m.l.length lc2) (.slice ea2 m.es.length ec2)) rfl rfl (newsAt _ _ _ _ rfl) (list_one m _ _ _ _ _ _) (by decide) (by unfold maxLen; omega) (by omega) (Nat.zero_le _) _ rfl ?_; intro g7 cap7 w7 ho7 hg7 hl7 hlt7; have cc7 : w7.cell? ⟨b, 1, none⟩ = some (.slice a1 xs1.length c1) := (hg7.cell_far ⟨b, 1, none⟩ (by simp; exact Nat.lt_succ_of_lt (Nat.lt_of_lt_of_le hbl HB6.out.size)) (fun e => HBA.out.apart (by decide) e.symm)).trans ((World.cell?_alloc_old _ _ _ hne6).trans cc6); have ff7 : w7.frozen? ⟨b, 1, none⟩ = false := (hg7.frozen_far ⟨b, 1, none⟩ (by simp; exact Nat.lt_succ_of_lt (Nat.lt_of_lt_of_le hbl HB6.out.size)) (fun e => HBA.out.apart (by decide) e.symm)).trans ((World.frozen?_of_block (a := ⟨b, 1, none⟩) (Below.heap_alloc _ _ _ (Nat.lt_of_lt_of_le hbl HB6.out.size))).trans ff6); have HO7 := Lib.hid ho7; have HG7 := Lib.hid hg7; have HL7 := Lib.hid hl7; clear ho7 hg7 hl7 hlt7)))
      all_goals
        have hp := HBA.out.push (x := (m, .slice la2 m.l.length lc2, .slice ea2 m.es.length ec2)) (by decide) (fun k hk => HS.out k (Nat.le_trans KA.out.size hk)) (HB6.out.alloc HB6.out.size _) (HL6.out.below ((Below.refl _ _).alloc (Nat.le_refl _) _)) HM.out HO7.out HG7.out (HL7.out.imp id (fun e => Nat.le_of_eq e.symm)) (by omega)
        have HP := Lib.hid hp
        clear hp
        generalize w7.setCell ⟨b, 1, none⟩ (.slice (some ⟨g7, 0, none⟩) (xs1.length + 1) cap7) = w8 at *
        go_wp2
        go_roundw
        case rel =>
          refine ⟨k + 1, by omega, by go_num, by go_num, ⟨_, _, ?_, HP.out.1⟩, KA.out.trans HP.out.2⟩
          rw [take_snocA _ _ _ HX.out, List.map_append, List.map_append, ← E1.out]
          simp
        case measure => simp [intOf]; omega
    · have hke : k = K := by omega
      subst hke
      by_cases hky : k = ys.length
      · have hki : ¬ (k : Int) < (ys.length : Int) := by omega
        have hkn : decide (k < ys.length) = false := by simp; omega
        have hkd : decide ((k : Int) < (ys.length : Int)) = false := by simp; omega
        clear hky hlt hlen hx1
        go_wp2_with fail
        go_quiet (fail)
        go_wp2
        go_ret
        exact ⟨rfl, BR.out.below (below_drewN (Below.refl _ _) _), KR.out.drewN _⟩
      · have hki : (k : Int) < (ys.length : Int) := by omega
        have hkn : k < ys.length := by omega
        have hmi : decide ((xs1.length : Int) < (most : Int)) = false := by have := hKI.out; simp; omega
        have hmn : decide (xs1.length < most) = false := by have := hKI.out; simp; omega
        clear hky hlt hlen hx1
        go_wp2_with fail
        go_quiet (fail)
        go_wp2
        go_ret
        exact ⟨rfl, BR.out.below (below_drewN (Below.refl _ _) _), KR.out.drewN _⟩
end Go.Proofs.Ytheldpdckgoniaa
