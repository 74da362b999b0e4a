/- THE LAW BagOwn: what is handed in or out may be written over: what is in the bag stays. -/
import Derived.Test.YtheldpdckgoniaaOwn
import Derived.Test.YtheldpdckgoniaaBoth
import Derived.Test.YtheldpdckgoniaaLawDoes
import Derived.Deep.Cut
namespace Go.Proofs.Ytheldpdckgoniaa
open Go.RowKit
open Go.Sort (grow)

attribute [local go_sem] Oper.semAt_some
set_option maxHeartbeats 8000000 in
set_option maxRecDepth 100000 in
theorem BagOwn_law {w0 : World} {m : Msg} {lv ev : Value} (x : Int) (h : LI (fun k => k < w0.heap.size) w0 m lv ev) (hl : m.l.length ≤ 9223372036854775807) (he : m.es.length ≤ 9223372036854775807) (hsm : m.d.size ≤ 281474976710656 ∧ ∀ e ∈ m.es, e.2.size ≤ 281474976710656) :
    Calls Try.prog 4 #[m.agg lv ev, .int .i64 x] w0 fun e w' => e = .returned (.bool true) ∧ Below w0.heap.size w0 w' := by
  have HI : Hid ((Try.prog.info? 38).map (·.size) = some 11) := infoMsg
  obtain ⟨la, lc, rfl, hlc⟩ := h.1.slice
  obtain ⟨ea, ec, rfl, hec⟩ := h.2.slice
  obtain ⟨w1, hw1⟩ : ∃ w1, w1 = (w0.alloc (.cells (m.arr (.slice la m.l.length lc) (.slice ea m.es.length ec)) 38)).alloc (.cells #[.int .i64 x] 3) := ⟨_, rfl⟩
  have hb1 : Below w0.heap.size w0 w1 := by rw [hw1]; exact ((Below.refl _ _).alloc (Nat.le_refl _) _).alloc (by simp) _
  have hs1 : w1.heap.size = w0.heap.size + 2 := by rw [hw1]; simp
  have hm1 : w1.heap[w0.heap.size]? = some (.cells (m.arr (.slice la m.l.length lc) (.slice ea m.es.length ec)) 38 (0, 0)) := by
    rw [hw1]
    exact (Below.heap_alloc _ _ _ (by simp)).trans (heap_alloc_new w0 _)
  have hx1 : w1.heap[w0.heap.size + 1]? = some (.cells #[.int .i64 x] 3 (0, 0)) := by
    rw [hw1]
    have := heap_alloc_new (w0.alloc (.cells (m.arr (.slice la m.l.length lc) (.slice ea m.es.length ec)) 38)) (.cells #[.int .i64 x] 3)
    rwa [World.size_alloc] at this
  have HA := Lib.hid hw1
  have HB1 := Lib.hid hb1
  have HM1 := Lib.hid hm1
  have HX1 := Lib.hid hx1
  have HS1 := Lib.hid hs1
  have H := Lib.hid h
  have HSM := Lib.hid hsm
  have HW := Lib.hid (works_any w1)
  clear h hsm hb1 hm1 hx1 hs1 hw1
  refine calls_marks Try.func4 rfl ?_
  simp only [Try.ntmps4, List.size_toArray, List.length_cons, List.length_nil, Nat.reduceAdd, Nat.reduceSub, Array.replicate_succ, Array.replicate_zero, List.push_toArray, List.append_toArray, List.nil_append, List.cons_append]
  go_wp2_with fail
  rw [← HA.out]
  refine HW.out.mono ?_
  rintro e w2 ⟨rfl, hb2⟩
  have hM2 := box_below HM1.out hb2
  have hX2 := box_below HX1.out hb2
  obtain ⟨y0, y1, y2, y3, y4, y5, y6, y7, y8, y9, y10, -⟩ := box_cells hM2
  have HM2 := Lib.hid hM2
  have HX2 := Lib.hid hX2
  have HB2 : Hid (Below w0.heap.size w0 w2) := bw HB1.out hb2
  have hs2 : w0.heap.size + 2 ≤ w2.heap.size := by rw [← HS1.out]; exact hb2.size
  have HH : Hid (LI (fun k => k < w0.heap.size) w2 m (.slice la m.l.length lc) (.slice ea m.es.length ec)) := H.out.below HB2.out
  clear hM2 hX2 hb2 HW HA HM1 HX1 H HB1 HS1
  by_cases hbig : 5000 < m.l.length
  · have hb5 : (5000 : Int) < (m.l.length : Int) := by omega
    go_wp2
    all_goals exact left_plain (v := .bool true) rfl (results_tmp (t := 4) rfl _ _ _) ⟨rfl, HB2.out⟩
  have hb5 : ¬ (5000 : Int) < (m.l.length : Int) := by omega
  by_cases hbig2 : 5000 < m.es.length
  · have hb6 : (5000 : Int) < (m.es.length : Int) := by omega
    go_wp2
    all_goals exact left_plain (v := .bool true) rfl (results_tmp (t := 4) rfl _ _ _) ⟨rfl, HB2.out⟩
  have hb6 : ¬ (5000 : Int) < (m.es.length : Int) := by omega
  obtain ⟨i0, hi, hz0, hz1, hz2⟩ := info_parts info_int
  obtain ⟨j0, hj, hv0, hv1, hv2⟩ := info_parts info_ent
  have HS1 := Lib.hid (HH.out.1.src (fun e => by rw [List.length_eq_zero_iff.1 e]; rfl))
  go_wp2_with (at_builtin; go_loud (refine wpList_append_row rfl _ _ 35 rfl w2.heap.size 3 i0 (.int .i64 0) 1 8 Try.underlying35 hi hz0 hz1 hz2 rfl (by decide) _ 0 [] rfl (World.ownsRow_nil _ _ _ _) _ m.l.length (intsC m.l) rfl HS1.out (by simp [intsC]) (ints_one m.l) (by unfold maxLen; omega) (by omega) (Nat.le_refl _) ?_))
  intro lv w3 ho hg _
  have b3 : Below w2.heap.size w2 w3 := ⟨hg.os, hg.tape, hg.output, hg.size, fun k hk => hg.block k hk (by simp [Value.ownBlock])⟩
  obtain ⟨a3, c3, rfl⟩ := row_slice ho
  have hR3 := own_soft ho (by decide)
  clear ho hg y0 y1 y2 y3 y4 y5 y6 y7 y8 y9 y10
  have hM3 := box_below HM2.out b3
  have HS3 := Lib.hid ((HH.out.2.below b3).src (fun e => by rw [List.length_eq_zero_iff.1 e]; rfl))
  obtain ⟨y0, y1, y2, y3, y4, y5, y6, y7, y8, y9, y10, -⟩ := box_cells hM3
  go_wp2_with (at_builtin; go_loud (refine wpList_append_row rfl _ _ 36 rfl w3.heap.size 52 j0 (.agg #[.int .i64 0, .string ⟨#[]⟩]) 2 24 Try.underlying36 hj hv0 hv1 hv2 rfl (by decide) _ 0 [] rfl (World.ownsRow_nil _ _ _ _) _ m.es.length (entC m.es) rfl HS3.out (entC_len m.es) (ent_one m.es) (by unfold maxLen; omega) (by omega) (Nat.le_refl _) ?_))
  intro ev w4 ho hg _
  have b4 : Below w3.heap.size w3 w4 := ⟨hg.os, hg.tape, hg.output, hg.size, fun k hk => hg.block k hk (by simp [Value.ownBlock])⟩
  obtain ⟨a4, c4, rfl⟩ := row_slice ho
  have hR4 := own_soft ho (by decide)
  clear ho hg y0 y1 y2 y3 y4 y5 y6 y7 y8 y9 y10
  have hM4 := box_below hM3 b4
  have HX4 := Lib.hid (box_below HX2.out (bw b3 b4))
  have HM4 := Lib.hid hM4
  have HB4 : Hid (Below w0.heap.size w0 w4) := bw HB2.out (bw b3 b4)
  have hs4 := b4.size
  have hs3 := b3.size
  have HL : Hid (Run (fun k => w2.heap.size ≤ k ∧ k < w3.heap.size ∧ Soft w4 k) w4 (.slice a3 m.l.length c3) m.l.length (intsC m.l)) := ((hR3.mono (fun k hk h => (⟨h.1, hk, h.2.eq (b4.block k hk)⟩ : w2.heap.size ≤ k ∧ k < w3.heap.size ∧ Soft w4 k))).below b4)
  have HE : Hid (Run (fun k => w3.heap.size ≤ k ∧ Soft w4 k) w4 (.slice a4 m.es.length c4) m.es.length (entC m.es)) := hR4
  obtain ⟨y0, y1, y2, y3, y4, y5, y6, y7, y8, y9, y10, -⟩ := box_cells hM4
  clear hM4 hM3 b3 b4 hR3 hR4 HS1 HS3 HX2 HM2
  go_wp2_with fail
  refine (New_any (S := fun k => w4.heap.size ≤ k) w4 (fun _ h => h) 9 (by decide)).mono ?_
  rintro e w5 ⟨rfl, d5, b5⟩
  obtain ⟨w6, hw6⟩ : ∃ w6, w6 = w5.alloc (.cells (m.arr (.slice a3 m.l.length c3) (.slice a4 m.es.length c4)) 38) := ⟨_, rfl⟩
  have b6 : Below w5.heap.size w5 w6 := by rw [hw6]; exact (Below.refl _ _).alloc (Nat.le_refl _) _
  have hs6 : w6.heap.size = w5.heap.size + 1 := by rw [hw6]; simp
  have hs5 := b5.size
  have hM5 := box_below HM4.out b5
  have b46 : Below w4.heap.size w4 w6 := bw b5 b6
  obtain ⟨S, hS⟩ : ∃ S : Nat → Prop, S = fun k => (w4.heap.size ≤ k ∧ k < w5.heap.size) ∨ w6.heap.size ≤ k := ⟨_, rfl⟩
  have HS : Hid (∀ k, w6.heap.size ≤ k → S k) := fun k hk => by rw [hS]; exact .inr hk
  have HN : Hid (∀ k, k < w4.heap.size → ¬ S k) := fun k hk hs => by rw [hS] at hs; omega
  have hms : MsgsIn (fun k => ¬ S k) w6 (.slice (some ⟨w5.heap.size, 0, none⟩) 1 1) [(m, .slice a3 m.l.length c3, .slice a4 m.es.length c4)] := by
    rw [hw6]
    refine one_msg (fun hs => by rw [hS] at hs; omega) ⟨?_, ?_⟩
    · exact (HL.out.below b5).mono (fun k _ hk => HN.out k (by omega))
    · exact ((HE.out.mono (fun k hk h => (⟨h, hk⟩ : (w3.heap.size ≤ k ∧ Soft w4 k) ∧ k < w4.heap.size))).below b5).mono (fun k _ hk => HN.out k hk.2)
  have hO : Own w0 m x (.slice la m.l.length lc) (.slice ea m.es.length ec) w4.heap.size S [] w6 :=
    ⟨bw HB4.out b46, box_below HM4.out b46, box_below HX4.out b46, HH.out.keep (by omega) (fun g hg hl => by
      have hg : g < w0.heap.size := hg
      have e1 := HB4.out.block g hg
      have e2 := HB2.out.block g hg
      exact (b46.block g (by omega)).trans (e1.trans e2.symm)), by omega, fun k hk => Nat.le_of_not_lt (fun h => HN.out k h hk), (d5.tight.below b6).mono (fun k _ hk => by rw [hS]; exact .inl hk)⟩
  have HO6 := Lib.hid hO
  have HSD : Hid (Calls Try.prog 10 #[ptrV w4.heap.size, .slice (some ⟨w5.heap.size, 0, none⟩) 1 1] w6 fun e w' => e = .returned (.int .i64 1) ∧ BagAt BagT S w' w4.heap.size 9 [m] ∧ Kept S w6 w') := ((Send_any hO.bag HS.out hms (fun y hy => by
    have : y = (m, .slice a3 m.l.length c3, .slice a4 m.es.length c4) := by simpa using hy
    subst this
    exact ⟨by show m.l.length ≤ _; omega, by show m.es.length ≤ _; omega, HSM.out.1, HSM.out.2⟩) (by simp)).mono (fun e w' hh => ⟨hh.1, hh.2.1, hh.2.2⟩))
  have HL6 : Hid (Run (fun k => w2.heap.size ≤ k ∧ k < w3.heap.size ∧ Soft w6 k) w6 (.slice a3 m.l.length c3) m.l.length (intsC m.l)) := (HL.out.mono (fun k hk h => ⟨h.1, h.2.1, h.2.2.eq (b46.block k hk)⟩ : ∀ k, k < w4.heap.size → (w2.heap.size ≤ k ∧ k < w3.heap.size ∧ Soft w4 k) → (w2.heap.size ≤ k ∧ k < w3.heap.size ∧ Soft w6 k))).below b46
  have HE6 : Hid (Run (fun k => w3.heap.size ≤ k ∧ k < w4.heap.size ∧ Soft w6 k) w6 (.slice a4 m.es.length c4) m.es.length (entC m.es)) := (HE.out.mono (fun k hk h => ⟨h.1, hk, h.2.eq (b46.block k hk)⟩ : ∀ k, k < w4.heap.size → (w3.heap.size ≤ k ∧ Soft w4 k) → (w3.heap.size ≤ k ∧ k < w4.heap.size ∧ Soft w6 k))).below b46
  have HSZ : Hid (w0.heap.size + 2 ≤ w2.heap.size ∧ w2.heap.size ≤ w3.heap.size ∧ w3.heap.size ≤ w4.heap.size ∧ w4.heap.size ≤ w6.heap.size) := ⟨hs2, hs3, hs4, b46.size⟩
  have HW6 := Lib.hid hw6
  clear y0 y1 y2 y3 y4 y5 y6 y7 y8 y9 y10
  obtain ⟨y0, y1, y2, y3, y4, y5, y6, y7, y8, y9, y10, -⟩ := box_cells hM5
  clear hM5 b5 b6 b46 d5 HM4 HX4 HB4 hO hms hS hw6 hs2 hs3 hs4 hs5 hs6 HL HE HH
  go_wp2_with fail
  rw [← HW6.out]
  refine HSD.out.mono ?_
  rintro e w7 ⟨rfl, d7, k7⟩
  have hO7 := HO6.out.step k7 (fun k hk => Nat.le_trans HO6.out.low (HO6.out.sb k hk)) HO6.out.sb d7
  have HO7 := Lib.hid hO7
  have hdd : doubleS 9 [m] 0 = (true, [m, m]) := by simp [doubleS, getI]
  have hdb := Double_any d7 (fun k hk => HS.out k (Nat.le_trans k7.size hk)) (by simp) 0
  rw [hdd] at hdb
  have HDB := Lib.hid hdb
  clear hdb hdd
  have K7 := Lib.hid k7
  clear d7 k7 hO7 HW6 HSD y0 y1 y2 y3 y4 y5 y6 y7 y8 y9 y10
  go_wp2_with fail
  refine HDB.out.mono ?_
  rintro e w8 ⟨rfl, d8, k8⟩
  have k68 := K7.out.trans k8
  have hO8 : Own w0 m x (.slice la m.l.length lc) (.slice ea m.es.length ec) w4.heap.size S [m, m] w8 := HO7.out.step k8 (fun k hk => Nat.le_trans HO7.out.low (HO7.out.sb k hk)) HO7.out.sb d8
  have HO8 := Lib.hid hO8
  have HL8 : Hid (Run (fun k => w2.heap.size ≤ k ∧ k < w3.heap.size ∧ Soft w8 k) w8 (.slice a3 m.l.length c3) m.l.length (intsC m.l)) := (HL6.out.mono (fun k hk h => ⟨h.1, h.2.1, h.2.2.eq (k68.block k hk (HN.out k (by have := HSZ.out; omega)))⟩ : ∀ k, k < w6.heap.size → (w2.heap.size ≤ k ∧ k < w3.heap.size ∧ Soft w6 k) → (w2.heap.size ≤ k ∧ k < w3.heap.size ∧ Soft w8 k))).keep k68.size (fun g hg hl => k68.block g hl (HN.out g (by have := HSZ.out; have := hg.2.1; omega)))
  have HE8 : Hid (Run (fun k => w3.heap.size ≤ k ∧ k < w4.heap.size ∧ Soft w8 k) w8 (.slice a4 m.es.length c4) m.es.length (entC m.es)) := (HE6.out.mono (fun k hk h => ⟨h.1, h.2.1, h.2.2.eq (k68.block k hk (HN.out k h.2.1))⟩ : ∀ k, k < w6.heap.size → (w3.heap.size ≤ k ∧ k < w4.heap.size ∧ Soft w6 k) → (w3.heap.size ≤ k ∧ k < w4.heap.size ∧ Soft w8 k))).keep k68.size (fun g hg hl => k68.block g hl (HN.out g hg.2.1))
  have HS8 : Hid (∀ k, w8.heap.size ≤ k → S k) := fun k hk => HS.out k (Nat.le_trans k68.size hk)
  have HZ8 : Hid (w0.heap.size + 2 ≤ w2.heap.size ∧ w2.heap.size ≤ w3.heap.size ∧ w3.heap.size ≤ w4.heap.size ∧ w4.heap.size ≤ w8.heap.size) := by have := HSZ.out; exact ⟨this.1, this.2.1, this.2.2.1, Nat.le_trans this.2.2.2 k68.size⟩
  clear k8 d8 k68 hO8 HO7 HO6 HDB K7 HL6 HE6 HSZ HS HB2
  generalize w2.heap.size = L at *
  generalize w3.heap.size = E at *
  generalize w4.heap.size = bb at *
  obtain ⟨hwa, hla⟩ := HL8.out.wrA (size := 1) (fun k hk => hk.2.2) (by simp [intsC]) (by decide)
  have HWA := Lib.hid hwa
  have HLA : Hid (∀ j, Lies a3 m.l.length j → L ≤ j ∧ j < E) := fun j hj => ⟨(hla j hj).1, (hla j hj).2.1⟩
  obtain ⟨hwe, hle⟩ := HE8.out.wrA (size := 2) (fun k hk => hk.2.2) (entC_len m.es) (by decide)
  have HWE := Lib.hid hwe
  have HLE : Hid (∀ j, Lies a4 m.es.length j → E ≤ j ∧ j < bb) := fun j hj => ⟨(hle j hj).1, (hle j hj).2.1⟩
  clear hwa hla hwe hle HL8 HE8
  have HK1 : Hid (∀ W, Kept (fun j => L ≤ j ∧ j < bb) w8 W → Own w0 m x (.slice la m.l.length lc) (.slice ea m.es.length ec) bb S [m, m] W) := fun W hk => HO8.out.kept hk (fun k h => Nat.le_trans HZ8.out.1 h.1) (fun k _ hs h => HN.out k h.2 hs)
  go_wp2_with fail
  go_loopw [9] (fun i wr => ∃ k : Nat, k ≤ m.l.length ∧ i = .int .i64 k ∧ Hid (WrA a3 m.l.length 1 wr) ∧ Hid (Kept (fun j => L ≤ j ∧ j < E) w8 wr)) (fun i _ => m.l.length - (intOf i).toNat)
  case atStart => exact ⟨0, Nat.zero_le _, rfl, HWA.out, Kept.refl _ _⟩
  case round =>
  obtain ⟨k, hk, rfl, HWR, KR⟩ := hrel
  by_cases hlt : k < m.l.length
  case pos =>
    have hlti : (k : Int) < (m.l.length : Int) := by omega
    have hO := HK1.out _ (KR.out.mono (fun j _ hj => ⟨hj.1, by have := HZ8.out; omega⟩))
    have cx := hO.c
    obtain ⟨g, off, rfl, hwr⟩ := HWR.out (by omega)
    have hg := HLA.out g ⟨by omega, off, rfl⟩
    obtain ⟨u, hu⟩ := hwr.cell (j := k) (by omega)
    have hf := hwr.froz (off + k)
    have HWR2 := Lib.hid hwr
    clear hO hwr
    go_wp2
    all_goals
      go_roundw
      case rel => exact ⟨k + 1, by omega, by go_num, fun _ => ⟨g, off, rfl, HWR2.out.set _⟩, KR.out.set (.inl hg) _⟩
      case measure => simp [intOf]; omega
  have hke : k = m.l.length := by omega
  subst hke
  have HK2 : Hid (Kept (fun j => L ≤ j ∧ j < bb) w8 wr) := KR.out.mono (fun j _ hj => ⟨hj.1, by have := HZ8.out; omega⟩)
  have hlti : ¬ (m.l.length : Int) < (m.l.length : Int) := by omega
  have HKL := KR
  clear HWR KR HWA HLA hlt
  go_wp2_with fail
  have HWE2 : Hid (WrA a4 m.es.length 2 wr) := fun hn => by
    obtain ⟨g, off, e, cur, t, hg, hs⟩ := HWE.out hn
    have hgE := HLE.out g ⟨hn, off, e⟩
    exact ⟨g, off, e, cur, t, (HKL.out.block g (Array.getElem?_eq_some_iff.1 hg).1 (fun h => by omega)).trans hg, hs⟩
  go_loopw [10] (fun i ws => ∃ k : Nat, k ≤ m.es.length ∧ i = .int .i64 k ∧ Hid (WrA a4 m.es.length 2 ws) ∧ Hid (Kept (fun j => L ≤ j ∧ j < bb) w8 ws)) (fun i _ => m.es.length - (intOf i).toNat)
  case atStart => exact ⟨0, Nat.zero_le _, rfl, HWE2.out, HK2.out⟩
  case round =>
  obtain ⟨k, hk, rfl, HWR, KR⟩ := hrel
  by_cases hlt : k < m.es.length
  case pos =>
    have hlti : (k : Int) < (m.es.length : Int) := by omega
    have hO := HK1.out _ KR.out
    have cx := hO.c
    obtain ⟨g, off, rfl, hwr⟩ := HWR.out (by omega)
    have hg := HLE.out g ⟨by omega, off, rfl⟩
    obtain ⟨u, hu⟩ := hwr.cell (j := k * 2) (by omega)
    have hbd : L ≤ g ∧ g < bb := ⟨by have := HZ8.out; omega, hg.2⟩
    have hf := hwr.froz (off + k * 2)
    have hwr1 : Wr g off (m.es.length * 2) (wr.setCell ⟨g, off + k * 2, none⟩ (.int .i64 x)) := hwr.set _
    obtain ⟨u1, hu1⟩ := hwr1.cell (j := k * 2 + 1) (by omega)
    have hf1 := hwr1.froz (off + k * 2 + 1)
    rw [← Nat.add_assoc] at hu1
    have HWR2 := Lib.hid hwr1
    clear hO hwr hwr1
    go_wp2
    all_goals
      go_roundw
      case rel => exact ⟨k + 1, by omega, by go_num, fun _ => ⟨g, off, rfl, HWR2.out.set _⟩, (KR.out.set (.inl hbd) _).set (.inl hbd) _⟩
      case measure => simp [intOf]; omega
  have hke : k = m.es.length := by omega
  subst hke
  have hltj : ¬ (m.es.length : Int) < (m.es.length : Int) := by omega
  have hO := HK1.out _ KR.out
  obtain ⟨Z, hZ⟩ : ∃ Z, Z = wr.heap.size := ⟨_, rfl⟩
  have hO1 : Own w0 m x (.slice la m.l.length lc) (.slice ea m.es.length ec) bb (fun k => S k ∧ k < Z) [m, m] wr := ⟨hO.bel, hO.box, hO.bx, hO.li, hO.low, fun k hk => hO.sb k hk.1, by rw [hZ]; exact hO.bag.tight⟩
  have HZ : Hid (w0.heap.size + 2 ≤ Z) := by rw [hZ]; exact hO.size
  have HOZ : Hid (∀ W, Kept (fun j => Z ≤ j) wr W → Own w0 m x (.slice la m.l.length lc) (.slice ea m.es.length ec) bb (fun k => S k ∧ k < Z) [m, m] W) := fun W hk => hO1.kept hk (fun k h => Nat.le_trans HZ.out h) (fun k _ hs h => by have := hs.2; omega)
  have HAT := Lib.hid (At_soft hO1.bag 0)
  have hz8 : Z ≤ wr.heap.size := by omega
  clear HWR HWE HWE2 HLE hlt HKL HK2 KR HK1 HO8 HS8 HZ8 HN hO hO1 hZ
  go_wp2_with fail
  refine HAT.out.mono ?_
  rintro e w9 ⟨hat, hb9⟩
  obtain ⟨yl, yc, ye, yd, rfl, hli⟩ := hat.one (m := m) rfl
  obtain ⟨w10, hw10⟩ : ∃ w10, w10 = w9.alloc (.cells (m.arr (.slice yl m.l.length yc) (.slice ye m.es.length yd)) 38) := ⟨_, rfl⟩
  have b10 : Below w9.heap.size w9 w10 := by rw [hw10]; exact (Below.refl _ _).alloc (Nat.le_refl _) _
  have hs10 : w10.heap.size = w9.heap.size + 1 := by rw [hw10]; simp
  have HY : Hid (w10.heap[w9.heap.size]? = some (.cells (m.arr (.slice yl m.l.length yc) (.slice ye m.es.length yd)) 38 (0, 0))) := by rw [hw10]; exact heap_alloc_new w9 _
  obtain ⟨hwa, hwe, hla, hle⟩ := hli.wrA (fun k hk => hk.2.2)
  have hsz9 := hb9.size
  have HWA : Hid (WrA yl m.l.length 1 w10) := hwa.keep (fun j _ hl => b10.block j hl)
  have HWE : Hid (WrA ye m.es.length 2 w10) := hwe.keep (fun j _ hl => b10.block j hl)
  obtain ⟨yb, hyb⟩ : ∃ yb, yb = w9.heap.size := ⟨_, rfl⟩
  have HLA : Hid (∀ j, Lies yl m.l.length j → Z ≤ j ∧ j < yb) := fun j hj => ⟨by have := (hla j hj).1; omega, by have := (hla j hj).2.1; omega⟩
  have HLE : Hid (∀ j, Lies ye m.es.length j → Z ≤ j ∧ j < yb) := fun j hj => ⟨by have := (hle j hj).1; omega, by have := (hle j hj).2.1; omega⟩
  have HK10 : Hid (Kept (fun j => Z ≤ j) wr w10) := Kept.of_below (bw hb9 b10)
  have HW10 := Lib.hid hw10
  rw [← hyb] at HY
  clear hli hb9 HAT hwa hwe hla hle hw10 b10 hs10 hsz9
  go_wp2_with fail
  rw [← HW10.out]
  rw [← hyb]
  clear HW10 hyb hat
  clear w9
  go_loopw [13] (fun i ws => ∃ k : Nat, k ≤ m.l.length ∧ i = .int .i64 k ∧ Hid (WrA yl m.l.length 1 ws) ∧ Hid (WrA ye m.es.length 2 ws) ∧ Hid (Kept (fun j => Z ≤ j ∧ j < yb) w10 ws)) (fun i _ => m.l.length - (intOf i).toNat)
  case atStart => exact ⟨0, Nat.zero_le _, rfl, HWA.out, HWE.out, Kept.refl _ _⟩
  case round =>
  obtain ⟨k, hk, rfl, HWR, HWS, KR⟩ := hrel
  have hY := (KR.out.block yb (Array.getElem?_eq_some_iff.1 HY.out).1 (fun h => by omega)).trans HY.out
  have q8 : wr.cell? ⟨yb, 8, none⟩ = some (.slice yl m.l.length yc) := Lib.cell_of_heap hY 8
  have q9 : wr.cell? ⟨yb, 9, none⟩ = some (.slice ye m.es.length yd) := Lib.cell_of_heap hY 9
  clear hY
  by_cases hlt : k < m.l.length
  case pos =>
    have hlti : (k : Int) < (m.l.length : Int) := by omega
    have cx := (HOZ.out _ (HK10.out.trans (KR.out.mono (fun j _ hj => hj.1)))).c
    obtain ⟨g, off, rfl, hwr⟩ := HWR.out (by omega)
    have hg := HLA.out g ⟨by omega, off, rfl⟩
    obtain ⟨u, hu⟩ := hwr.cell (j := k) (by omega)
    have hf := hwr.froz (off + k)
    have HWR2 := Lib.hid hwr
    clear hwr
    go_wp2
    all_goals
      go_roundw
      case rel => exact ⟨k + 1, by omega, by go_num, fun _ => ⟨g, off, rfl, HWR2.out.set _⟩, WrA.setAny HWS.out _ _ _, KR.out.set (.inl hg) _⟩
      case measure => simp [intOf]; omega
  have hke : k = m.l.length := by omega
  subst hke
  have HK2 := KR
  have hltm : ¬ (m.l.length : Int) < (m.l.length : Int) := by omega
  clear HWR KR HWA HWE HLA hlt
  go_wp2_with fail
  go_loopw [14] (fun i ws => ∃ k : Nat, k ≤ m.es.length ∧ i = .int .i64 k ∧ Hid (WrA ye m.es.length 2 ws) ∧ Hid (Kept (fun j => Z ≤ j ∧ j < yb) w10 ws)) (fun i _ => m.es.length - (intOf i).toNat)
  case atStart => exact ⟨0, Nat.zero_le _, rfl, HWS.out, HK2.out⟩
  case round =>
  obtain ⟨k, hk, rfl, HWR, KR⟩ := hrel
  have hY := (KR.out.block yb (Array.getElem?_eq_some_iff.1 HY.out).1 (fun h => by omega)).trans HY.out
  have q8 : wr.cell? ⟨yb, 8, none⟩ = some (.slice yl m.l.length yc) := Lib.cell_of_heap hY 8
  have q9 : wr.cell? ⟨yb, 9, none⟩ = some (.slice ye m.es.length yd) := Lib.cell_of_heap hY 9
  clear hY
  by_cases hlt : k < m.es.length
  case pos =>
    have hlti : (k : Int) < (m.es.length : Int) := by omega
    have cx := (HOZ.out _ (HK10.out.trans (KR.out.mono (fun j _ hj => hj.1)))).c
    obtain ⟨g, off, rfl, hwr⟩ := HWR.out (by omega)
    have hg := HLE.out g ⟨by omega, off, rfl⟩
    obtain ⟨u, hu⟩ := hwr.cell (j := k * 2) (by omega)
    have hf := hwr.froz (off + k * 2)
    have hwr1 : Wr g off (m.es.length * 2) (wr.setCell ⟨g, off + k * 2, none⟩ (.int .i64 x)) := hwr.set _
    obtain ⟨u1, hu1⟩ := hwr1.cell (j := k * 2 + 1) (by omega)
    have hf1 := hwr1.froz (off + k * 2 + 1)
    rw [← Nat.add_assoc] at hu1
    have HWR2 := Lib.hid hwr1
    clear hwr hwr1
    go_wp2
    all_goals
      go_roundw
      case rel => exact ⟨k + 1, by omega, by go_num, fun _ => ⟨g, off, rfl, HWR2.out.set _⟩, (KR.out.set (.inl hg) _).set (.inl hg) _⟩
      case measure => simp [intOf]; omega
  have hke : k = m.es.length := by omega
  subst hke
  have hltn : ¬ (m.es.length : Int) < (m.es.length : Int) := by omega
  have hO := HOZ.out _ (HK10.out.trans (KR.out.mono (fun j _ hj => hj.1)))
  obtain ⟨v1, xs1, hmx, hbag⟩ := hO.bag
  have hxl : xs1.length = 2 := by have := congrArg List.length hmx; simpa using this.symm
  have hall := All_any hbag (by omega)
  have HALL := Lib.hid hall
  have HWO : Hid (∀ W, Kept (fun j => Z ≤ j) wr W → Own w0 m x (.slice la m.l.length lc) (.slice ea m.es.length ec) bb (fun k => S k ∧ k < Z) [m, m] W) := fun W hk => HOZ.out W ((HK10.out.trans (KR.out.mono (fun j _ hj => hj.1))).trans hk)
  have hzr : Hid (Z ≤ wr.heap.size) := Nat.le_trans hz8 (HK10.out.trans (KR.out.mono (fun j _ hj => hj.1))).size
  clear hall hO hlt HWR KR HK2 HWS HLE HY
  go_wp2_with fail
  refine HALL.out.mono ?_
  rintro e wq ⟨bx, v', rfl, hat, hb2⟩
  have HB2 := Lib.hid hb2
  have HWQ : Hid (∀ W, Kept (fun _ => False) wq W → Own w0 m x (.slice la m.l.length lc) (.slice ea m.es.length ec) bb (fun k => S k ∧ k < Z) [m, m] W) := fun W hk => HWO.out W ((Kept.of_below hb2).trans (hk.mono (fun _ _ h => h.elim)))
  have hwqr : wr.heap.size ≤ wq.heap.size := hb2.size
  have hTl : Hid (∀ j, (((S j ∧ j < Z) ∧ j < wr.heap.size ∧ j ≠ bb) ∨ (wr.heap.size ≤ j ∧ j < wq.heap.size)) → j < wq.heap.size) := fun j hj => by
    rcases hj with ⟨_, h2, _⟩ | ⟨_, h2⟩
    · exact Nat.lt_of_lt_of_le h2 hb2.size
    · exact h2
  have hsf := all_soft hat (by omega)
  have HC := Lib.hid hsf
  have HXL := Lib.hid hxl
  have HMX := Lib.hid hmx
  clear hat hb2 hsf HALL hbag hmx hxl
  go_wp2_with fail
  refine range_walk2 (gf := 35) (lb := #[ptrV bx]) rfl (enters_of Try.func35 (by kernel_rfl) rfl) rfl HC.out (fun k hk => hTl.out k hk)
    (fun _ W => Kept (fun _ => False) wq W)
    (fun _ _ _ => False)
    (fun k W W' row h hg hr => kept_of_own h (Nat.le_refl _) hg hr)
    (fun c k W W' row h hg hr => h.elim) (Kept.refl _ _)
    (fun A k v a' W => ∃ bm, BoxS wq.heap.size xs1 k v bm W ∧ a' = { tmps := ((A.setIfInBounds 129 (.int .i64 (k : Int))).setIfInBounds 130 v).setIfInBounds 16 (ptrV bm), defers := [] })
    (fun k v a' s W W' row h hg hr => by obtain ⟨bm, h1, h2⟩ := h; exact ⟨bm, h1.own (KeepC.of_own hg hr), h2⟩) ?assign ?body ?done ?stop
  case assign =>
    intro l k v W0 W K hsz hk hi hb hr hK
    obtain ⟨y, lb, lc2, eb, ec2, hx, rfl, hli⟩ := hr
    have hiW : Kept (fun _ => False) wq W := hi.trans (Kept.of_below hb)
    have hbx := fun W' (hW' : W' = W.alloc (.cells (y.1.arr (.slice lb y.1.l.length lc2) (.slice eb y.1.es.length ec2)) 38)) =>
      have hal : Below W.heap.size W W' := by rw [hW']; exact (Below.refl _ _).alloc (Nat.le_refl _) _
      hK _ W' (by rw [hW']; exact (KeepsOthers.alloc _ _).from _) (KeepT.of_below hal) (hiW.trans (Kept.of_below hal)) ⟨W.heap.size, boxS_new hx hli hsz hb.size hal (by rw [hW']; exact heap_alloc_new W _), rfl⟩
    simp only [List.setIfInBounds_toArray, List.set_cons_zero, List.set_cons_succ] at hbx
    have HK := Lib.hid hbx
    clear hK hbx hli hiW hi hb
    gi_wp2
    exact HK.out _ rfl
  case body =>
    rintro l k v a' W hl hk hkp ⟨bm, hbs, rfl⟩
    simp only [List.setIfInBounds_toArray, List.set_cons_zero, List.set_cons_succ]
    obtain ⟨y, lb, lc2, eb, ec2, hx, rfl, hbm, hbm2, hwr, hlie⟩ := hbs
    obtain ⟨ym, ylv, yev⟩ := y
    have hym : ym = m := by
      have h1 : (xs1.map (·.1))[k]? = some ym := by rw [List.getElem?_map, hx]; rfl
      rw [← HMX.out] at h1
      have := List.mem_of_getElem? h1
      simpa using this
    subst hym
    simp only at hbm hwr hlie
    have hOq := HWQ.out W hkp
    have hz2 := (HWQ.out wq (Kept.refl _ _)).size
    have HBX := Lib.hid hOq.bx
    have HKP := Lib.hid hkp
    have HBM := Lib.hid hbm
    have HWL := Lib.hid hwr
    have HLI := Lib.hid hlie
    have hwqW := hkp.size
    clear hkp hbm hwr hlie hx hOq
    gi_wp2
    gi_loopw [17] (fun i ws => ∃ j : Nat, j ≤ ym.l.length ∧ i = .int .i64 j ∧ Hid (WrA lb ym.l.length 1 ws) ∧ Hid (KeepsOthers W ws) ∧ Hid (Kept (fun g => wq.heap.size ≤ g ∧ g < bm) W ws)) (fun i _ => ym.l.length - (intOf i).toNat)
    case atStart => exact ⟨0, Nat.zero_le _, rfl, HWL.out, KeepsOthers.refl _, Kept.refl _ _⟩
    case round =>
      obtain ⟨j, hj, rfl, HWR, HKO, KR⟩ := hrel
      have hsW := KR.out.size
      have hbw : wr.heap[bm]? = some (msgO ym (.slice lb ym.l.length lc2) (.slice eb ym.es.length ec2)) := (KR.out.block bm (Array.getElem?_eq_some_iff.1 HBM.out).1 (fun h => by omega)).trans HBM.out
      have q8 : wr.cell? ⟨bm, 8, none⟩ = some (.slice lb ym.l.length lc2) := Lib.cell_of_heap hbw 8
      have cx : wr.cell? ⟨w0.heap.size + 1, 0, none⟩ = some (.int .i64 x) := by rw [Lib.cell_of_heap ((KR.out.block _ (by omega) (fun h => by omega)).trans HBX.out)]; rfl
      clear hbw
      by_cases hlt : j < ym.l.length
      · have hlti : (j : Int) < (ym.l.length : Int) := by omega
        obtain ⟨g, off, rfl, hwr⟩ := HWR.out (by omega)
        have hg := HLI.out g ⟨by omega, off, rfl⟩
        obtain ⟨u, hu⟩ := hwr.cell (j := j) (by omega)
        have hf := hwr.froz (off + j)
        have HWR2 := Lib.hid hwr
        clear hwr
        gi_wp2
        all_goals
          go_roundw
          case rel => exact ⟨j + 1, by omega, by go_num, fun _ => ⟨g, off, rfl, HWR2.out.set _⟩, HKO.out.trans (KeepsOthers.setCell _ _ _), KR.out.set (.inl hg) _⟩
          case measure => simp [intOf]; omega
      · have hlti : ¬ (j : Int) < (ym.l.length : Int) := by omega
        gi_wp2
        refine ⟨HKO.out.from _, ⟨KR.out.size, fun g hg hl => KR.out.block g hl (fun h => by have := hTl.out g hg; omega)⟩, ((HKP.out.mono (fun _ _ h => h.elim)).trans KR.out).mono (fun g hg h => by omega)⟩
  case done =>
    intro D W hD hkp hKD
    have hO := HWQ.out W hkp
    have HAT := Lib.hid (At_soft hO.bag 0)
    have HO := Lib.hid hO
    have HKD := Lib.hid hKD
    have hzq := (HWQ.out wq (Kept.refl _ _)).size
    have hDW : D < W.heap.size := (Array.getElem?_eq_some_iff.1 hKD).1
    clear hO hkp hKD HC HXL HMX hTl HB2 HWQ HWO HOZ HK10
    have HSMm : Hid (Sm m) := ⟨by omega, by omega, HSM.out.1, HSM.out.2⟩
    go_wp2_with fail
    refine HAT.out.mono ?_
    rintro e w9 ⟨hat, hb9⟩
    obtain ⟨pl, pc, pe, pd, rfl, hli⟩ := hat.one (m := m) rfl
    obtain ⟨w10, hw10⟩ : ∃ w10, w10 = w9.alloc (.cells (m.arr (.slice pl m.l.length pc) (.slice pe m.es.length pd)) 38) := ⟨_, rfl⟩
    have b10 : Below w9.heap.size w9 w10 := by rw [hw10]; exact (Below.refl _ _).alloc (Nat.le_refl _) _
    have HP : Hid (w10.heap[w9.heap.size]? = some (.cells (m.arr (.slice pl m.l.length pc) (.slice pe m.es.length pd)) 38 (0, 0))) := by rw [hw10]; exact heap_alloc_new w9 _
    have hbW := bw hb9 b10
    have hO10 : Own w0 m x (.slice la m.l.length lc) (.slice ea m.es.length ec) bb (fun k => S k ∧ k < Z) [m, m] w10 := HO.out.kept (T := fun _ => False) (Kept.of_below hbW) (fun _ h => h.elim) (fun _ _ _ h => h)
    have HKD10 : Hid (w10.heap[D]? = some (.deferred (some []))) := (hbW.block D hDW).trans HKD.out
    have HSAME := Lib.hid (sameM_any (hli.below b10) hO10.li HSMm.out HSMm.out)
    have HO10 := Lib.hid hO10
    have HMB := Lib.hid hO10.box
    have HW10 := Lib.hid hw10
    have hD10 : D < w10.heap.size := Nat.lt_of_lt_of_le hDW hbW.size
    have HPr : Hid ((w9.alloc (.cells (m.arr (.slice pl m.l.length pc) (.slice pe m.es.length pd)) 38)).heap[w9.heap.size]? = some (.cells (m.arr (.slice pl m.l.length pc) (.slice pe m.es.length pd)) 38 (0, 0))) := heap_alloc_new w9 _
    have HMBr : Hid ((w9.alloc (.cells (m.arr (.slice pl m.l.length pc) (.slice pe m.es.length pd)) 38)).heap[w0.heap.size]? = some (.cells (m.arr (.slice la m.l.length lc) (.slice ea m.es.length ec)) 38 (0, 0))) := by show _ = _; rw [← hw10]; exact HMB.out
    clear hli hb9 HAT b10 hbW hO10 HKD HO hw10 hat
    go_wp2_with (first
      | (refine wpList_load_row rfl 38 _ rfl w9.heap.size rfl 38 (m.arr (.slice pl m.l.length pc) (.slice pe m.es.length pd)) (0, 0) _ HPr.out Try.underlying38 rfl HI.out ?_)
      | (refine wpList_load_row rfl 38 _ rfl w0.heap.size rfl 38 (m.arr (.slice la m.l.length lc) (.slice ea m.es.length ec)) (0, 0) _ HMBr.out Try.underlying38 rfl HI.out ?_))
    rw [← HW10.out]
    clear HW10 HPr HMBr
    refine HSAME.out.mono ?_
    rintro e w11 ⟨⟨v11, rfl, hv11⟩, hb11⟩
    obtain rfl : v11 = true := hv11 trivial
    have hO11 : Own w0 m x (.slice la m.l.length lc) (.slice ea m.es.length ec) bb (fun k => S k ∧ k < Z) [m, m] w11 := HO10.out.kept (T := fun _ => False) (Kept.of_below hb11) (fun _ h => h.elim) (fun _ _ _ h => h)
    have HKD11 : Hid (w11.heap[D]? = some (.deferred (some []))) := (hb11.block D hD10).trans HKD10.out
    have hD11 : D < w11.heap.size := Nat.lt_of_lt_of_le hD10 hb11.size
    have hz11 : w0.heap.size + 2 ≤ w11.heap.size := hO11.size
    have hwqD : Z ≤ D := Nat.le_trans hzr.out (Nat.le_trans hwqr hD)
    have HTK := Lib.hid (Take_soft hO11.bag 0 (by decide) (by simp))
    have HO11 := Lib.hid hO11
    clear hb11 hv11 HSAME HKD10 HO10 HMB HP hO11 hD10
    go_wp2_with fail
    refine HTK.out.mono ?_
    rintro e w12 ⟨hi12, hat, hbag, hk12, hhi⟩
    have hO12 : Own w0 m x (.slice la m.l.length lc) (.slice ea m.es.length ec) bb (fun k => (S k ∧ k < Z) ∧ k < w11.heap.size) [m] w12 := HO11.out.step hk12 (fun k hk => Nat.le_trans HO11.out.low (HO11.out.sb k hk.1)) (fun k hk => HO11.out.sb k hk.1) hbag
    obtain ⟨ul, uc, ue, ud, rfl, hli⟩ := hat.one (m := m) rfl
    obtain ⟨w13, hw13⟩ : ∃ w13, w13 = w12.alloc (.cells (m.arr (.slice ul m.l.length uc) (.slice ue m.es.length ud)) 38) := ⟨_, rfl⟩
    have b13 : Below w12.heap.size w12 w13 := by rw [hw13]; exact (Below.refl _ _).alloc (Nat.le_refl _) _
    obtain ⟨ub, hub⟩ : ∃ ub, ub = w12.heap.size := ⟨_, rfl⟩
    have HU : Hid (w13.heap[ub]? = some (.cells (m.arr (.slice ul m.l.length uc) (.slice ue m.es.length ud)) 38 (0, 0))) := by rw [hw13, hub]; exact heap_alloc_new w12 _
    have hO13 : Own w0 m x (.slice la m.l.length lc) (.slice ea m.es.length ec) bb (fun k => (S k ∧ k < Z) ∧ k < w11.heap.size) [m] w13 := hO12.kept (T := fun _ => False) (Kept.of_below b13) (fun _ h => h.elim) (fun _ _ _ h => h)
    obtain ⟨-, hwe, -, hle⟩ := hli.wrA (fun k hk => hk.2.2)
    have HWE3 : Hid (WrA ue m.es.length 2 w13) := hwe.keep (fun j _ hl => b13.block j hl)
    have HLE3 : Hid (∀ j, Lies ue m.es.length j → w11.heap.size ≤ j ∧ j < ub) := fun j hj => ⟨(hle j hj).1, by have := (hle j hj).2.1; omega⟩
    have hs12 := hk12.size
    have HKD13 : Hid (w13.heap[D]? = some (.deferred (some []))) := (b13.block D (Nat.lt_of_lt_of_le hD11 hs12)).trans ((hk12.block D hD11 (fun h => by have := h.1.2; omega)).trans HKD11.out)
    have HO13 := Lib.hid hO13
    have hs13 : w11.heap.size ≤ w13.heap.size := Nat.le_trans hs12 b13.size
    have HW13 := Lib.hid hw13
    clear hO12 hO13 hat hbag hk12 hhi hli hwe hle b13 hs12 HTK HO11 hw13 HKD11
    go_wp2_with fail
    rw [← HW13.out, ← hub]
    clear HW13 hub
    clear w12
    go_loopw [23] (fun i ws => ∃ k : Nat, k ≤ m.es.length ∧ i = .int .i64 k ∧ Hid (WrA ue m.es.length 2 ws) ∧ Hid (Kept (fun j => w11.heap.size ≤ j ∧ j < ub) w13 ws)) (fun i _ => m.es.length - (intOf i).toNat)
    case atStart => exact ⟨0, Nat.zero_le _, rfl, HWE3.out, Kept.refl _ _⟩
    case round =>
    obtain ⟨k, hk, rfl, HWR, KR⟩ := hrel
    have hY := (KR.out.block ub (Array.getElem?_eq_some_iff.1 HU.out).1 (fun h => by omega)).trans HU.out
    have q9 : wr.cell? ⟨ub, 9, none⟩ = some (.slice ue m.es.length ud) := Lib.cell_of_heap hY 9
    clear hY
    have hOl := HO13.out.kept KR.out (fun j hj => by omega) (fun j _ hs h => by have := hs.2; omega)
    by_cases hlt : k < m.es.length
    case pos =>
      have hlti : (k : Int) < (m.es.length : Int) := by omega
      have cx := hOl.c
      obtain ⟨g, off, rfl, hwr⟩ := HWR.out (by omega)
      have hg := HLE3.out g ⟨by omega, off, rfl⟩
      obtain ⟨u, hu⟩ := hwr.cell (j := k * 2) (by omega)
      have hf := hwr.froz (off + k * 2)
      have hwr1 : Wr g off (m.es.length * 2) (wr.setCell ⟨g, off + k * 2, none⟩ (.int .i64 x)) := hwr.set _
      obtain ⟨u1, hu1⟩ := hwr1.cell (j := k * 2 + 1) (by omega)
      have hf1 := hwr1.froz (off + k * 2 + 1)
      rw [← Nat.add_assoc] at hu1
      have HWR2 := Lib.hid hwr1
      clear hwr hwr1 hOl
      go_wp2
      all_goals
        go_roundw
        case rel => exact ⟨k + 1, by omega, by go_num, fun _ => ⟨g, off, rfl, HWR2.out.set _⟩, (KR.out.set (.inl hg) _).set (.inl hg) _⟩
        case measure => simp [intOf]; omega
    have hke : k = m.es.length := by omega
    subst hke
    have hltp : ¬ (m.es.length : Int) < (m.es.length : Int) := by omega
    have HKDr : Hid (wr.heap[D]? = some (.deferred (some []))) := (KR.out.block D (Nat.lt_of_lt_of_le hD11 hs13) (fun h => by omega)).trans HKD13.out
    have hDr : D < wr.heap.size := (Array.getElem?_eq_some_iff.1 HKDr.out).1
    have HTK := Lib.hid (Take_soft hOl.bag 0 (by decide) (by simp))
    have HOl := Lib.hid hOl
    clear HWR KR hlt hOl HWE3 HLE3 HKD13 HO13 HU
    go_wp2_with fail
    refine HTK.out.mono ?_
    rintro e w14 ⟨hi14, hat, hbag, hk14, hhi⟩
    have hO14 : Own w0 m x (.slice la m.l.length lc) (.slice ea m.es.length ec) bb (fun k => ((S k ∧ k < Z) ∧ k < w11.heap.size) ∧ k < wr.heap.size) [] w14 := HOl.out.step hk14 (fun k hk => Nat.le_trans HOl.out.low (HOl.out.sb k hk.1)) (fun k hk => HOl.out.sb k hk.1) hbag
    obtain ⟨tl, tc, te, td, rfl, hli⟩ := hat.one (m := m) rfl
    obtain ⟨w15, hw15⟩ : ∃ w15, w15 = w14.alloc (.cells (m.arr (.slice tl m.l.length tc) (.slice te m.es.length td)) 38) := ⟨_, rfl⟩
    have b15 : Below w14.heap.size w14 w15 := by rw [hw15]; exact (Below.refl _ _).alloc (Nat.le_refl _) _
    have hO15 : Own w0 m x (.slice la m.l.length lc) (.slice ea m.es.length ec) bb (fun k => ((S k ∧ k < Z) ∧ k < w11.heap.size) ∧ k < wr.heap.size) [] w15 := hO14.kept (T := fun _ => False) (Kept.of_below b15) (fun _ h => h.elim) (fun _ _ _ h => h)
    have hs14 := hk14.size
    have HKD15 : Hid (w15.heap[D]? = some (.deferred (some []))) := (b15.block D (Nat.lt_of_lt_of_le hDr hs14)).trans ((hk14.block D hDr (fun h => by have := h.1.1.2; omega)).trans HKDr.out)
    have HSAME := Lib.hid (sameM_any (hli.below b15) hO15.li HSMm.out HSMm.out)
    have HO15 := Lib.hid hO15
    have HW15 := Lib.hid hw15
    have hD15 : D < w15.heap.size := (Array.getElem?_eq_some_iff.1 HKD15.out).1
    have HPr : Hid ((w14.alloc (.cells (m.arr (.slice tl m.l.length tc) (.slice te m.es.length td)) 38)).heap[w14.heap.size]? = some (.cells (m.arr (.slice tl m.l.length tc) (.slice te m.es.length td)) 38 (0, 0))) := heap_alloc_new w14 _
    have HMBr : Hid ((w14.alloc (.cells (m.arr (.slice tl m.l.length tc) (.slice te m.es.length td)) 38)).heap[w0.heap.size]? = some (.cells (m.arr (.slice la m.l.length lc) (.slice ea m.es.length ec)) 38 (0, 0))) := by show _ = _; rw [← hw15]; exact hO15.box
    clear hO14 hO15 hat hbag hk14 hhi hli b15 hs14 HTK HOl hw15 HKDr
    go_wp2_with (first
      | (refine wpList_load_row rfl 38 _ rfl w14.heap.size rfl 38 (m.arr (.slice tl m.l.length tc) (.slice te m.es.length td)) (0, 0) _ HPr.out Try.underlying38 rfl HI.out ?_)
      | (refine wpList_load_row rfl 38 _ rfl w0.heap.size rfl 38 (m.arr (.slice la m.l.length lc) (.slice ea m.es.length ec)) (0, 0) _ HMBr.out Try.underlying38 rfl HI.out ?_))
    rw [← HW15.out]
    clear HW15 HPr HMBr
    refine HSAME.out.mono ?_
    rintro e w16 ⟨⟨v16, rfl, hv16⟩, hb16⟩
    obtain rfl : v16 = true := hv16 trivial
    have hO16 : Own w0 m x (.slice la m.l.length lc) (.slice ea m.es.length ec) bb (fun k => ((S k ∧ k < Z) ∧ k < w11.heap.size) ∧ k < wr.heap.size) [] w16 := HO15.out.kept (T := fun _ => False) (Kept.of_below hb16) (fun _ h => h.elim) (fun _ _ _ h => h)
    have HKD16 : Hid (w16.heap[D]? = some (.deferred (some []))) := (hb16.block D hD15).trans HKD15.out
    have HLEN := Lib.hid (Len_any hO16.bag)
    have HB16 := Lib.hid hO16.bel
    clear hO16 hb16 hv16 HSAME HKD15 HO15
    go_wp2_with fail
    refine HLEN.out.mono ?_
    rintro e w17 ⟨rfl, rfl⟩
    clear HLEN
    go_wp2
    have hzD := HZ.out
    exact left_marks (D := D) (v := .bool true) rfl HKD16.out (results_tmp (t := 4) rfl _ _ _) ⟨rfl, below_put HB16.out (by omega)⟩
  case stop =>
    rintro D k c W _ _ _ h
    exact h.elim
end Go.Proofs.Ytheldpdckgoniaa
