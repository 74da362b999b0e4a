/- Send. -/
import Derived.Test.YtheldpdckgoniaaBag
namespace Go.Proofs.Ytheldpdckgoniaa
open Go.RowKit

theorem elem_msg : Try.prog.elem 29 = 38 := by kernel_rfl
theorem under_msg : Try.prog.underlying 29 = some (.slice (Try.prog.elem 29)) := by rw [elem_msg]; exact Try.underlying29
theorem info_msg : (Try.prog.info? 38).map (fun i => (i.zero, i.size, i.bytes)) = some (some (.agg #[.int .u8 0, .int .i64 0, .int .i64 0, .int .i64 0, .int .i64 0, .int .i64 0, .int .i64 0, .bool false, .slice none 0 0, .slice none 0 0, .string ⟨#[]⟩]), 11, 128) := by kernel_rfl
/-- l[:k] -/
theorem msgs_to {B : Nat → Prop} {w : World} {a : Option Addr} {n c : Nat} {xs : List X} (h : MsgsIn B w (.slice a n c) xs) (k : Nat) (hk : k ≤ xs.length) :
    ∃ a' c', (∀ w', (Instr.slice 29 (.slice a n c) none (some (.int .i64 (k : Int))) none).run Try.prog w' = .ok (.slice a' k c') w') ∧
      (∀ w', (Instr.sliceAt 29 (.slice a n c) none (some (.int .i64 (k : Int))) none).run Try.prog w' = .ok (.slice a' k c') w') ∧ MsgsIn B w (.slice a' k c') (xs.take k) := by
  obtain ⟨⟨a0, c0, e0, h1, h2, h3⟩, hl⟩ := h
  cases e0
  have hr : ∀ w', (Instr.slice 29 (.slice a xs.length c) none (some (.int .i64 (k : Int))) none).run Try.prog w' = .ok (.slice (if c = 0 then a else a.map (·.add 0)) k c) w' := fun w' => by
    rw [run_slice_h w' 29 a xs.length c under_msg .i64 (k : Int) (by omega) (by omega), elem_msg, Try.sizeOf38]
    simp [sliced, Result.andThen]
  refine ⟨_, _, hr, fun w' => by rw [run_sliceAt_slice w' _ _ _ _ _ under_msg]; exact hr w', ⟨_, c, by rw [List.length_take, Nat.min_eq_left hk], by rw [List.length_take]; omega, fun e => ?_, ?_⟩, fun x hx => hl x (List.mem_of_mem_take hx)⟩
  · have ha : a = none := by
      split at e
      · exact e
      · cases a with
        | none => rfl
        | some ad => simp at e
    obtain ⟨e1, e2⟩ := h2 ha
    rw [List.length_take]; omega
  · rcases h3 with h3 | ⟨b, off, rfl, hb, hlt, hc⟩
    · left; rw [List.length_take]; omega
    · refine .inr ⟨b, off, ?_, hb, hlt, fun j u hu => hc j u ?_⟩
      · split
        · rfl
        · simp [add_off]
      · rw [← rowC_take, List.getElem?_take] at hu
        split at hu
        · exact hu
        · cases hu
theorem newsAt (w : World) (t : TypeId) (news : List Value) (cs : Array Value) (h : cs = news.toArray) : ∀ j u, news[j]? = some u → (w.alloc (.cells cs t)).cell? ((⟨w.heap.size, 0, none⟩ : Addr).add j) = some u := by
  intro j u hj
  subst h
  rw [add_zero_off, World.cell?_alloc_new, List.getElem?_toArray]; exact hj
/-- a message more: the row, and the bag behind it -/
theorem BagO.push {T : TypeId} {S : Nat → Prop} {w w1 w2 : World} {b most : Nat} {v : Value} {xs : List X} {x : X} {g cap : Nat} (h : BagO T S w b most v xs) (hT : T ≠ 38) (hS : ∀ k, w.heap.size ≤ k → S k) (hb : Below w.heap.size w w1)
    (hl : LI (fun k => w.heap.size ≤ k) w1 x.1 x.2.1 x.2.2) (hsm : Sm x.1) (ho : w2.ownsRow 0 38 11 (.slice (some ⟨g, 0, none⟩) (xs.length + 1) cap) (xs.length + 1) (rowC xs ++ x.1.list x.2.1 x.2.2)) (hg : w1.grownBy w2 v.ownBlock)
    (hv : v.ownBlock = some g ∨ w1.heap.size ≤ g) (hfit : xs.length + 1 ≤ most) :
    BagO T S (w2.setCell ⟨b, 1, none⟩ (.slice (some ⟨g, 0, none⟩) (xs.length + 1) cap)) b most (.slice (some ⟨g, 0, none⟩) (xs.length + 1) cap) (xs ++ [x]) ∧ Kept S w (w2.setCell ⟨b, 1, none⟩ (.slice (some ⟨g, 0, none⟩) (xs.length + 1) cap)) := by
  have hap := h.apart hT
  have hlt := h.lt
  have hb1 : w1.heap[b]? = _ := (hb.block b hlt).trans h.block
  have hb2 : w2.heap[b]? = _ := (hg.block b (Nat.lt_of_lt_of_le hlt hb.size) (fun e => hap e.symm)).trans hb1
  have hgb : g ≠ b := by
    intro e
    rcases ho.2 with ⟨e0, _⟩ | ⟨g', cap', cur, e0, _, hgg, _⟩
    · cases e0
    · cases e0
      rw [e] at hgg
      have := hgg.symm.trans hb2
      simp at this
      exact hT this.2.symm
  have hvlt : ∀ k, v.ownBlock = some k → k < w.heap.size := fun k hk => (h.rm.row.lt k hk).2
  have hs2 : w1.heap.size ≤ w2.heap.size := hg.size
  have hs3 : (w2.setCell ⟨b, 1, none⟩ (.slice (some ⟨g, 0, none⟩) (xs.length + 1) cap)).heap.size = w2.heap.size := by simp [World.setCell]
  have hSg : S g := hv.elim (h.rm.own g) (fun e => hS g (Nat.le_trans hb.size e))
  have step : ∀ y : X, LI (fun k => S k ∧ k ≠ b ∧ v.ownBlock ≠ some k) w1 y.1 y.2.1 y.2.2 → LI (fun k => S k ∧ k ≠ b ∧ (Value.slice (some ⟨g, 0, none⟩) (xs.length + 1) cap).ownBlock ≠ some k) (w2.setCell ⟨b, 1, none⟩ (.slice (some ⟨g, 0, none⟩) (xs.length + 1) cap)) y.1 y.2.1 y.2.2 := by
    intro y hy
    have h1 : LI (fun k => (S k ∧ k ≠ b ∧ v.ownBlock ≠ some k) ∧ g ≠ k) w1 y.1 y.2.1 y.2.2 := hy.mono (fun k hk hh => ⟨hh, hv.elim (fun e e' => hh.2.2 (by rw [e, e'])) (fun e e' => by omega)⟩)
    have h2 := h1.keep (w' := w2.setCell ⟨b, 1, none⟩ (.slice (some ⟨g, 0, none⟩) (xs.length + 1) cap)) (by rw [hs3]; exact hs2) (fun k hk hl => (Below.heap_setCell _ _ _ _ (fun e => hk.1.2.1 (by rw [e]))).trans (hg.block k hl (fun e => hk.1.2.2 e.symm)))
    exact h2.mono (fun k _ hh => ⟨hh.1.1, hh.1.2.1, by simpa [Value.ownBlock] using hh.2⟩)
  refine ⟨⟨h.mine, heap_set hb2, ⟨?_, fun k hk => ?_, fun y hy => ?_, fun y hy => ?_⟩, by simpa using hfit, h.lim⟩, ?_⟩
  · have e : rowC (xs ++ [x]) = rowC xs ++ x.1.list x.2.1 x.2.2 := by rw [rowC_append]; simp [rowC]
    rw [e, List.length_append]
    exact own_keep ho (fun k hk _ _ => Below.heap_setCell _ _ _ _ (by simp [Value.ownBlock] at hk; subst hk; exact hgb))
  · simp [Value.ownBlock] at hk; subst hk; exact hSg
  · rcases List.mem_append.1 hy with hy | hy
    · exact step y ((h.rm.li y hy).below hb)
    · simp only [List.mem_singleton] at hy
      subst hy
      exact step _ (hl.mono (fun k _ hk => ⟨hS k hk, by omega, fun e => by have := hvlt k e; omega⟩))
  · rcases List.mem_append.1 hy with hy | hy
    · exact h.rm.sm y hy
    · simp only [List.mem_singleton] at hy; subst hy; exact hsm
  · exact ((Kept.of_below hb).trans (Kept.of_grown hg (fun p hp => h.rm.own p hp))).set (.inl h.mine) _
theorem take_snocA {α : Type} (l : List α) (k : Nat) (x : α) (h : l[k]? = some x) : l.take (k + 1) = l.take k ++ [x] := by
  obtain ⟨hk, rfl⟩ := List.getElem?_eq_some_iff.1 h
  rw [List.take_succ_eq_append_getElem hk]
theorem list_one (m : Msg) (a b : Option Addr) (n c n' c' : Nat) : ∀ u ∈ m.list (.slice a n c) (.slice b n' c'), u.oneCell' = true := by
  intro u hu
  simp only [Msg.list, List.mem_cons, List.not_mem_nil, or_false] at hu
  rcases hu with rfl | rfl | rfl | rfl | rfl | rfl | rfl | rfl | rfl | rfl | rfl <;> rfl
set_option maxHeartbeats 4000000 in
set_option maxRecDepth 100000 in
theorem Send_any {S : Nat → Prop} {w : World} {b most : Nat} {ms : List Msg} (h : BagAt BagT S w b most ms) (hS : ∀ k, w.heap.size ≤ k → S k) {lv : Value} {ys : List X} (hl : MsgsIn (fun k => ¬ S k) w lv ys) (hsm : ∀ y ∈ ys, Sm y.1) (hc : ms.length + ys.length ≤ 1048576) :
    Calls Try.prog 10 #[ptrV b, lv] w fun e w' => e = .returned (.int .i64 (min ys.length (most - ms.length) : Nat)) ∧ BagAt BagT S w' b most (ms ++ (ys.take (min ys.length (most - ms.length))).map (·.1)) ∧ Kept S w w' := by
  obtain ⟨v, xs, rfl, h⟩ := h
  simp only [List.length_map] at hc ⊢
  have hroom := room_any h
  have hfit := h.fit
  have hlim := h.lim
  obtain ⟨la, lc, rfl, _⟩ := hl.1.slice
  obtain ⟨K, hK⟩ : ∃ K, K = min ys.length (most - xs.length) := ⟨_, rfl⟩
  have hmin : min (ys.length : Int) ((most : Int) - (xs.length : Int)) = (K : Int) := by omega
  obtain ⟨a', c', r1, r2, hl'⟩ := msgs_to hl K (by omega)
  rw [← hK]
  obtain ⟨zs, hzs⟩ : ∃ zs, zs = ys.take K := ⟨_, rfl⟩
  have hzl : zs.length = K := by rw [hzs, List.length_take]; omega
  rw [← hzs] at hl' ⊢
  have hzm : ∀ y ∈ zs, Sm y.1 := fun y hy => hsm y (List.mem_of_mem_take (by rw [← hzs]; exact hy))
  have H := Lib.hid h
  have HL := Lib.hid hl'
  have HZ := Lib.hid hzm
  have HS := Lib.hid hS
  have hKm : xs.length + K ≤ most := by omega
  have hKb : xs.length + K ≤ 1048576 := by omega
  clear h hl' hl hsm hzm hS hK hzs hc
  go_enter Try.func10, Try.ntmps10
  go_wp2_with fail
  refine hroom.mono ?_
  rintro e w1 ⟨rfl, q, hq⟩
  have hb1 : Below w.heap.size w w1 := by rw [hq]; exact below_drewN (Below.refl _ _) q
  have H1 : Hid (BagO BagT S w1 b most v xs) := H.out.keep hb1.size (fun g _ hl => hb1.block g hl) (fun _ _ hg => hg)
  have L1 : Hid (MsgsIn (fun k => ¬ S k) w1 (.slice a' K c') zs) := HL.out.below hb1
  have K1 : Hid (Kept S w w1) := Kept.of_below hb1
  clear hb1 hq hroom
  go_wp2
  clear hmin r1 r2
  go_loopw [16] (fun i wr => ∃ k : Nat, k ≤ K ∧ i = .int .i64 k ∧ Hid (BagAt BagT S wr b most ((xs ++ zs.take k).map (·.1))) ∧ Hid (Kept S w wr)) (fun i _ => K - (intOf i).toNat)
  case atStart => exact ⟨0, by omega, rfl, ⟨_, _, by simp, H1.out⟩, K1⟩
  case round =>
    obtain ⟨k, hk, rfl, BR, KR⟩ := hrel
    by_cases hlt : k < K
    · have hlti : (k : Int) < (K : Int) := by omega
      obtain ⟨x, hx⟩ : ∃ x, zs[k]? = some x := ⟨zs[k], List.getElem?_eq_getElem (by omega)⟩
      have LR : Hid (MsgsIn (fun k => ¬ S k) wr (.slice a' K c') zs) := (HL.out.off KR.out)
      obtain ⟨g, off, rfl, -, hcap, hgS, hgl, x0, x1, x2, x3, x4, x5, x6, x7, x8, x9, x10⟩ := LR.out.get hx
      have hzk : Hid (zs.length = K) := hzl
      clear hzl
      have hxl := LR.out.2 x (List.mem_of_getElem? hx)
      obtain ⟨m, lw, ew⟩ := x
      obtain ⟨⟨la', lc', e8⟩, ea', ec', e9⟩ := hxl.slv
      simp only at e8 e9 x0 x1 x2 x3 x4 x5 x6 x7 x8 x9 x10 hxl
      subst e8 e9
      have HXL := Lib.hid hxl
      have HX := Lib.hid hx
      clear hxl hx
      go_wp2_with fail
      obtain ⟨wa, hwa⟩ : ∃ wa, wa = wr.alloc (.cells #[.int .u8 m.k, .int .i64 m.f, .int .i64 m.t, .int .i64 m.tm, .int .i64 m.a, .int .i64 m.b, .int .i64 m.c, .bool m.ok, .slice la' m.l.length lc', .slice ea' m.es.length ec', .string m.d] 38) := ⟨_, rfl⟩
      rw [← hwa]
      have hba : Below wr.heap.size wr wa := by rw [hwa]; exact (Below.refl _ _).alloc (Nat.le_refl _) _
      have hxa : wa.heap[wr.heap.size]? = some (msgO m (.slice la' m.l.length lc') (.slice ea' m.es.length ec')) := by rw [hwa]; exact heap_alloc_new wr _
      have hla := HXL.out.below hba
      have hsx : wr.heap.size < wa.heap.size := by rw [hwa]; simp
      obtain ⟨v1, xs1, e1, hb1⟩ := BR.out.below hba
      have KA : Hid (Kept S w wa) := KR.out.trans (Kept.of_below hba)
      have HM : Hid (Sm m) := HZ.out _ (List.mem_of_getElem? HX.out)
      obtain ⟨y0, y1, y2, y3, y4, y5, y6, y7, y8, y9, y10, yf⟩ := box_cells hxa
      obtain ⟨a1, c1, rfl⟩ := hb1.rm.slice
      have hc1 := hb1.c1
      have hlen : xs1.length = xs.length + k := by
        have := congrArg List.length e1
        simp only [List.length_map, List.length_append, List.length_take, hzk.out] at this
        omega
      have hx1 : xs1.length + 1 ≤ 1048576 := by omega
      have HLEN := Lib.hid hlen
      clear hlen
      have hkp : ∀ w', Below wa.heap.size wa w' → Calls Try.prog 25 #[m.agg (.slice la' m.l.length lc') (.slice ea' m.es.length ec')] w' fun e w'' => ∃ la2 lc2 ea2 ec2, e = .returned (m.agg (.slice la2 m.l.length lc2) (.slice ea2 m.es.length ec2)) ∧ LI (fun k => wa.heap.size ≤ k) w'' m (.slice la2 m.l.length lc2) (.slice ea2 m.es.length ec2) ∧ Below wa.heap.size wa w'' ∧ w''.cell? ⟨b, 1, none⟩ = some (.slice a1 xs1.length c1) ∧ w''.ownsRow 0 38 11 (.slice a1 xs1.length c1) xs1.length (rowC xs1) ∧ (∀ j, w''.frozen? ⟨b, j, none⟩ = false) := by
        intro w' hb'
        refine (kept_any (hla.below hb') HM.out).mono ?_
        rintro e w'' ⟨lv2, ev2, rfl, hl2, hb2⟩
        obtain ⟨la2, lc2, rfl, _⟩ := hl2.1.slice
        obtain ⟨ea2, ec2, rfl, _⟩ := hl2.2.slice
        have hb := hb'.trans (hb2.mono hb'.size)
        exact ⟨_, _, _, _, rfl, hl2.mono (fun k _ hk => Nat.le_trans hb'.size hk), hb, (hb.cell (p := ⟨b, 1, none⟩) hb1.lt).trans hc1, own_keep hb1.rm.row (fun g _ _ hl => hb.block g hl), fun j => by rw [World.frozen?_of_block (a := ⟨b, j, none⟩) (hb.block b hb1.lt)]; exact hb1.f j⟩
      have HKP := Lib.hid hkp
      have HB1 := Lib.hid hb1
      have E1 := Lib.hid e1
      have hbl := hb1.lt
      obtain ⟨i0, hi, hz0, hz1, hz2⟩ := info_parts info_msg
      clear hkp hb1 e1 hwa hxa hla x0 x1 x2 x3 x4 x5 x6 x7 x8 x9 x10 hba yf
      go_region_law (first
        | (go_simp; go_at_call 25; refine (HKP.out _ ((Below.refl _ _).drew)).mono ?_; rintro e w6 ⟨la2, lc2, ea2, ec2, rfl, hl6, hb6, cc6, ho6, hf6⟩; have ff6 := hf6 1; have hne6 : b ≠ w6.heap.size := Nat.ne_of_lt (Nat.lt_of_lt_of_le hbl hb6.size); have ca6 : ∀ o, (w6.alloc o).cell? ⟨b, 1, none⟩ = some (.slice a1 xs1.length c1) := fun o => (World.cell?_alloc_old _ _ _ hne6).trans cc6; have HL6 := Lib.hid hl6; have HB6 := Lib.hid hb6; have HO6 := Lib.hid ho6; clear hl6 hb6 ho6 hf6)
        | (go_loud (refine step_append_lies _ rfl (.tmp 24) (.tmp 27) 29 rfl 0 38 i0 (.agg #[.int .u8 0, .int .i64 0, .int .i64 0, .int .i64 0, .int .i64 0, .int .i64 0, .int .i64 0, .bool false, .slice none 0 0, .slice none 0 0, .string ⟨#[]⟩]) 11 128 Try.underlying29 hi hz0 hz1 hz2 rfl (by decide) _ xs1.length (rowC xs1) rfl (HO6.out.alloc _) ⟨w6.heap.size, 0, none⟩ 1 1 (m.list (.slice la2 m.l.length lc2) (.slice ea2 m.es.length ec2)) rfl rfl (newsAt _ _ _ _ rfl) (list_one m _ _ _ _ _ _) (by decide) (by unfold maxLen; omega) (by omega) (Nat.zero_le _) _ rfl ?_; intro g7 cap7 w7 ho7 hg7 hl7 hlt7; have cc7 : w7.cell? ⟨b, 1, none⟩ = some (.slice a1 xs1.length c1) := (hg7.cell_far ⟨b, 1, none⟩ (by simp; exact Nat.lt_succ_of_lt (Nat.lt_of_lt_of_le hbl HB6.out.size)) (fun e => HB1.out.apart (by decide) e.symm)).trans ((World.cell?_alloc_old _ _ _ hne6).trans cc6); have ff7 : w7.frozen? ⟨b, 1, none⟩ = false := (hg7.frozen_far ⟨b, 1, none⟩ (by simp; exact Nat.lt_succ_of_lt (Nat.lt_of_lt_of_le hbl HB6.out.size)) (fun e => HB1.out.apart (by decide) e.symm)).trans ((World.frozen?_of_block (a := ⟨b, 1, none⟩) (Below.heap_alloc _ _ _ (Nat.lt_of_lt_of_le hbl HB6.out.size))).trans ff6); have HO7 := Lib.hid ho7; have HG7 := Lib.hid hg7; have HL7 := Lib.hid hl7; clear ho7 hg7 hl7 hlt7)))
      all_goals
        have hp := HB1.out.push (x := (m, .slice la2 m.l.length lc2, .slice ea2 m.es.length ec2)) (by decide) (fun k hk => HS.out k (Nat.le_trans KA.out.size hk)) (HB6.out.alloc HB6.out.size _) (HL6.out.below ((Below.refl _ _).alloc (Nat.le_refl _) _)) HM.out HO7.out HG7.out (HL7.out.imp id (fun e => Nat.le_of_eq e.symm)) (by have := HLEN.out; omega)
        have HP := Lib.hid hp
        clear hp
        generalize w7.setCell ⟨b, 1, none⟩ (.slice (some ⟨g7, 0, none⟩) (xs1.length + 1) cap7) = w8 at *
        go_wp2
        go_roundw
        case rel =>
          refine ⟨k + 1, by omega, by go_num, ⟨_, _, ?_, HP.out.1⟩, KA.out.trans HP.out.2⟩
          rw [take_snocA _ _ _ HX.out, List.map_append, List.map_append, List.map_append, ← E1.out]
          simp
        case measure => simp [intOf]; omega
    · have hlti : ¬ (k : Int) < (K : Int) := by omega
      go_wp2
      go_ret
      refine ⟨rfl, ?_, KR.out⟩
      have : zs.take k = zs := List.take_of_length_le (by omega)
      have h := BR.out
      rw [this, List.map_append] at h
      exact h
end Go.Proofs.Ytheldpdckgoniaa
