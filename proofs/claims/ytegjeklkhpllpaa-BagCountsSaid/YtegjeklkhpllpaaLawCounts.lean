/- THE LAW BagCounts: nothing comes that was not sent; and as many are there as were sent and doubled, less those taken or lost. -/
import Derived.Test.YtegjeklkhpllpaaBoth
import Derived.Test.YtegjeklkhpllpaaLawDoes
import Derived.Deep.Cut
namespace Go.Proofs.Ytegjeklkhpllpaa
open Go.RowKit
open Go.Sort (grow)

theorem takeS_mem {ms : List Msg} {i : Int} {m : Msg} (h : m ∈ takeS ms i) : m ∈ ms := by
  unfold takeS at h
  split at h
  · exact List.mem_of_mem_eraseIdx h
  · exact h
theorem takeS_some {ms : List Msg} {i : Int} {m : Msg} (h : getI ms i = some m) : (takeS ms i).length + 1 = ms.length ∧ m ∈ ms := by
  obtain ⟨k, rfl, hk, hm⟩ := getI_some h
  unfold takeS
  rw [h, Option.isSome_some, if_pos rfl, Int.toNat_natCast, List.length_eraseIdx_of_lt hk]
  exact ⟨by omega, List.mem_of_getElem? hm⟩
theorem takeS_none {ms : List Msg} {i : Int} (h : getI ms i = none) : takeS ms i = ms := by unfold takeS; rw [h]; rfl
theorem doubleS_cases (most : Nat) (ms : List Msg) (i : Int) : ((doubleS most ms i).1 = true ∧ (doubleS most ms i).2.length = ms.length + 1 ∨ (doubleS most ms i).1 = false ∧ (doubleS most ms i).2.length = ms.length) ∧ ∀ m ∈ (doubleS most ms i).2, m ∈ ms := by
  unfold doubleS
  cases hg : getI ms i with
  | none => exact ⟨.inr ⟨rfl, rfl⟩, fun m hm => hm⟩
  | some x =>
    obtain ⟨k, _, _, hm⟩ := getI_some hg
    simp only
    split
    · exact ⟨.inl ⟨rfl, by simp⟩, fun m hm' => by
        rcases List.mem_append.1 hm' with h | h
        · exact h
        · have : m = x := by simpa using h
          rw [this]; exact List.mem_of_getElem? hm⟩
    · exact ⟨.inr ⟨rfl, rfl⟩, fun m hm => hm⟩
theorem stayS_mem {ms : List Msg} {i : Int} {m : Msg} (h : m ∈ stayS ms i) : m ∈ ms := (List.mem_filter.1 h).1
theorem stayS_len' (ms : List Msg) (i : Int) : (stayS ms i).length ≤ ms.length := List.length_filter_le _ _
/-- what was sent lies in the arguments; and what is there was sent -/
structure Good (w0 : World) (xs : List X) (ms : List Msg) : Prop where
  li : ∀ x ∈ xs, LI (fun j => j < w0.heap.size) w0 x.1 x.2.1 x.2.2
  sm : ∀ x ∈ xs, Sm x.1
  sub : ∀ m ∈ ms, m ∈ xs.map (·.1)
theorem both_msgs {base bb sx M : Nat} {ms ms2 : List Msg} {xs : List X} {sv : Value} {Sb : Nat → Prop} {w0 w : World} (h : Both base bb sx M ms xs sv Sb w) (hg : Good w0 xs ms2) (hb : Below w0.heap.size w0 w) : MsgsIn (fun _ => True) w sv xs :=
  ⟨(Run.of_own h.row (by decide)).mono (fun _ _ _ => trivial), fun x hx => ((hg.li x hx).below hb).mono (fun _ _ _ => trivial)⟩
attribute [local go_sem] Oper.semAt_some
set_option maxHeartbeats 8000000 in
set_option maxRecDepth 100000 in
theorem BagCounts_law {w0 : World} {v : Value} {l : List ActV} (most : Int) (hm : most ≤ 9223372036854775807) (hm2 : -9223372036854775808 ≤ most) (h : ActsIn (fun k => k < w0.heap.size) w0 v l) (hl : l.length ≤ 9223372036854775807)
    (hk : ∀ a ∈ l, a.xs.length ≤ 9223372036854775807 ∧ ∀ x ∈ a.xs, x.1.l.length ≤ 9223372036854775807 ∧ x.1.es.length ≤ 9223372036854775807) (hsm : ∀ a ∈ l, ∀ x ∈ a.xs, x.1.d.size ≤ 281474976710656 ∧ ∀ e ∈ x.1.es, e.2.size ≤ 281474976710656) (hn : ∀ a ∈ l, 0 ≤ a.k ∧ a.n ≤ 9223372036854775807) :
    Calls Try.prog 5 #[.int .i64 most, v] w0 fun e w' => e = .returned (.bool true) ∧ Below w0.heap.size w0 w' := by
  have HI : Hid ((Try.prog.info? 38).map (·.size) = some 11) := infoMsg
  obtain ⟨a0, c0, rfl, _⟩ := h.1.slice
  obtain ⟨w1, hw1⟩ : ∃ w1, w1 = w0.alloc (.cells #[.bool false] 4) := ⟨_, rfl⟩
  have hb1 : Below w0.heap.size w0 w1 := by rw [hw1]; exact (Below.refl _ _).alloc (Nat.le_refl _) _
  have hl1 : w1.heap[w0.heap.size]? = some (.cells #[.bool false] 4 (0, 0)) := by rw [hw1]; exact heap_alloc_new w0 _
  have hs1 : w1.heap.size = w0.heap.size + 1 := by rw [hw1]; simp
  have HA := Lib.hid hw1
  have HB1 := Lib.hid hb1
  have HL1 := Lib.hid hl1
  have HS1 := Lib.hid hs1
  have H := Lib.hid h
  have HK := Lib.hid hk
  have HSM := Lib.hid hsm
  have HN := Lib.hid hn
  have HW := Lib.hid (works_any w1)
  clear h hk hsm hn hb1 hl1 hs1 hw1
  refine calls_marks Try.func5 rfl ?_
  simp only [Try.ntmps5, List.size_toArray, List.length_cons, List.length_nil, Nat.reduceAdd, Nat.reduceSub, Array.replicate_succ, Array.replicate_zero, List.push_toArray, List.append_toArray, List.nil_append, List.cons_append]
  go_wp2_with fail
  rw [← HA.out]
  refine HW.out.mono ?_
  rintro e w2 ⟨rfl, hb2⟩
  have hv2 : ActsIn (fun k => k < w0.heap.size) w2 (.slice a0 l.length c0) l := (H.out.below HB1.out).below (hb2.mono (Nat.le_refl _))
  have HB2 := Lib.hid hb2
  have c2 : w2.cell? ⟨w0.heap.size, 0, none⟩ = some (.bool false) := by rw [Lib.cell_of_heap (box_below HL1.out hb2)]; rfl
  have f2 : w2.frozen? ⟨w0.heap.size, 0, none⟩ = false := Lib.frozen_of_heap (box_below HL1.out hb2) 0
  clear hb2
  have HV2 := Lib.hid hv2
  have HH2 := Lib.hid (heavy_any hv2 hl HK.out)
  clear hv2 HW
  go_wp2_with fail
  refine HH2.out.mono ?_
  rintro e w3 ⟨⟨hv, rfl, hA⟩, hb3⟩
  cases hv with
  | true =>
    have c3 : w3.cell? ⟨w0.heap.size, 0, none⟩ = some (.bool false) := (hb3.cell (p := ⟨w0.heap.size, 0, none⟩) (World.block_lt_of_cell? _ _ c2)).trans c2
    have f3 : w3.frozen? ⟨w0.heap.size, 0, none⟩ = false := (World.frozen?_of_block (a := ⟨w0.heap.size, 0, none⟩) (hb3.block _ (World.block_lt_of_cell? _ _ c2))).trans f2
    have hBb : Hid (Below w0.heap.size w0 w3) := bw HB1.out (bw HB2.out hb3)
    clear hA hb3
    go_wp2
    exact left_plain rfl (results_one (p := 4) (a := ⟨w0.heap.size, 0, none⟩) rfl _ _ _ rfl Try.underlying4 rfl (World.cell?_setCell_same _ _ _ (by rw [c3]))) ⟨rfl, below_set hBb.out (Nat.le_refl _)⟩
  | false =>
    obtain ⟨hl3, hA3⟩ := hA rfl
    have HA3 := Lib.hid hA3
    have HB3 : Hid (Below w1.heap.size w1 w3) := bw HB2.out hb3
    clear hA hA3 hb3
    go_wp2_with fail
    refine (New_any (S := fun k => w3.heap.size ≤ k) w3 (fun _ h => h) most hm).mono ?_
    rintro e w4 ⟨rfl, d4, b4⟩
    obtain ⟨ws, hws⟩ : ∃ ws, ws = w4.alloc (.cells #[.slice none 0 0] 29) := ⟨_, rfl⟩
    have b4s : Below w4.heap.size w4 ws := by rw [hws]; exact (Below.refl _ _).alloc (Nat.le_refl _) _
    have b1s : Below w1.heap.size w1 ws := bw HB3.out (bw b4 b4s)
    have HB0S : Hid (Below w0.heap.size w0 ws) := bw HB1.out b1s
    have hs3 : w0.heap.size + 1 ≤ w3.heap.size := by rw [← HS1.out]; exact HB3.out.size
    have HT : Hid (BothAt w3.heap.size w3.heap.size w4.heap.size most.toNat [] [] ws) := by
      refine ⟨.slice none 0 0, fun k => w3.heap.size ≤ k ∧ k < w4.heap.size, (d4.tight.below b4s), fun j hj => ⟨hj.1, Nat.lt_of_lt_of_le hj.2 b4s.size, by omega⟩, by rw [hws]; exact heap_alloc_new w4 _, World.ownsRow_nil _ _ _ _, fun g hg => by simp [Value.ownBlock] at hg, b4.size⟩
    have HLS := Lib.hid (box_below HL1.out b1s)
    have HVS : Hid (ActsIn (fun k => k < w0.heap.size) ws (.slice a0 l.length c0) l) := (H.out.below HB1.out).below b1s
    have HSZ : Hid (w0.heap.size + 1 ≤ w3.heap.size ∧ w3.heap.size ≤ w4.heap.size ∧ w4.heap.size < ws.heap.size) := ⟨hs3, b4.size, by rw [hws]; simp⟩
    go_wp2_with fail
    rw [← hws]
    clear hws b4s b1s d4 b4 hs3 HB3 HL1 HB1 HA
    generalize w3.heap.size = bb at *
    generalize w4.heap.size = sx at *
    obtain ⟨M, hM⟩ : ∃ M, M = most.toNat := ⟨_, rfl⟩
    rw [← hM] at HT
    go_wp2
    go_loopw [9, 10] (fun n i wr => ∃ (k : Nat) (ms : List Msg) (xs : List X), k ≤ l.length ∧ n = .int .i64 (ms.length : Int) ∧ i = .int .i64 k ∧ Hid (BothAt bb bb sx M ms xs wr) ∧ Hid (Kept (fun j => bb ≤ j) ws wr) ∧ Hid (ms.length ≤ 100 * k ∧ xs.length ≤ 100 * k) ∧ Hid (Good w0 xs ms)) (fun _ i _ => l.length - (intOf i).toNat)
    case atStart => exact ⟨0, [], [], by omega, rfl, rfl, HT, Kept.refl _ _, ⟨Nat.zero_le _, Nat.zero_le _⟩, ⟨fun x hx => (by cases hx), fun x hx => (by cases hx), fun x hx => (by cases hx)⟩⟩
    case round =>
    obtain ⟨k, ms, xs, hkl, rfl, rfl, HBO, KR, HML, HG⟩ := hrel
    by_cases hlt : k < l.length
    case neg =>
      have hke : k = l.length := by omega
      have hms : ms.length ≤ 30100 := by have := HML.out; omega
      have hxsl : xs.length ≤ 30100 := by have := HML.out; omega
      obtain ⟨sv, Sb, hbo⟩ := HBO.out
      obtain ⟨v1, xs1, hmx, hbag⟩ := hbo.bag
      have hxl : xs1.length = ms.length := by rw [hmx, List.length_map]
      have hall := All_any hbag (by omega)
      have HALL := Lib.hid hall
      have HBB := Lib.hid hbo
      have hksz := KR.out.size
      have hrxs := HSZ.out
      have hlow := hbo.low
      clear hall hbo HBO
      go_wp2_with fail
      refine HALL.out.mono ?_
      rintro e wq ⟨bx, v', rfl, hat, hb2⟩
      have HBQ := Lib.hid (HBB.out.below hb2)
      have HB0R : Hid (Below w0.heap.size w0 wr) := HB0S.out.trans (KR.out.below HB0S.out.size (fun j hj => by have := HSZ.out; omega))
      have HB0Q : Hid (Below w0.heap.size w0 wq) := HB0R.out.trans (hb2.mono HB0R.out.size)
      have HLQ : Hid (wq.heap[w0.heap.size]? = some (.cells #[.bool false] 4 (0, 0))) := (hb2.block _ (by omega)).trans ((KR.out.block _ (by omega) (by omega)).trans HLS.out)
      have hTl : Hid (∀ j, ((Sb j ∧ j < wr.heap.size ∧ j ≠ bb) ∨ (wr.heap.size ≤ j ∧ j < wq.heap.size)) → j < wq.heap.size) := fun j hj => by
        rcases hj with ⟨_, h2, _⟩ | ⟨_, h2⟩
        · exact Nat.lt_of_lt_of_le h2 hb2.size
        · exact h2
      have hcm := all_comes hat (by omega)
      have HC := Lib.hid hcm
      have HXSM : Hid (∀ x ∈ xs1, Sm x.1) := hat.sm
      have HIN : Hid (∀ x ∈ xs1, InX xs x.1) := fun x hx => HG.out.sub x.1 (by rw [hmx]; exact List.mem_map.2 ⟨x, hx, rfl⟩)
      obtain ⟨sa, sc, hsv⟩ := row_slice HBQ.out.row
      subst hsv
      have HLT : Hid (w0.heap.size < sx ∧ sx < wq.heap.size) := ⟨by omega, HBQ.out.sxlt⟩
      clear hat hb2 hcm HALL hrxs hksz hlow HBB HB0R hmx hbag hke hlt hkl HML KR HLS HVS HT HSZ HA3 HV2 HB2 c2 f2 H HSM HN
      go_wp2
      refine range_walk2 (gf := 35) (lb := #[ptrV bx]) rfl (enters_of Try.func35 (by kernel_rfl) rfl) rfl HC.out (fun k hk => hTl.out k hk)
        (fun _ W => Kept (fun _ => False) wq W)
        (fun _ _ _ => False)
        (fun k W W' row h hg hr => kept_of_own h (Nat.le_refl _) hg hr)
        (fun c k W W' row h hg hr => h.elim) (Kept.refl _ _)
        (fun A k v a' W => ∃ bm, BoxQ wq.heap.size xs1 k v bm W ∧ a' = { tmps := ((A.setIfInBounds 130 (.int .i64 (k : Int))).setIfInBounds 131 v).setIfInBounds 16 (ptrV bm), defers := [] })
        (fun k v a' s W W' row h hg hr => by obtain ⟨bm, h1, h2⟩ := h; exact ⟨bm, h1.own (KeepC.of_own hg hr), h2⟩) ?assign ?body ?done ?stop
      case assign =>
        intro l k v W0 W K hsz hk hi hb hr hK
        obtain ⟨x, la, lc, ea, ec, hx, rfl, hli⟩ := hr
        have hiW : Kept (fun _ => False) wq W := hi.trans (Kept.of_below hb)
        have hsz2 := hb.size
        have hbx := fun W' (hW' : W' = W.alloc (.cells (x.1.arr (.slice la x.1.l.length lc) (.slice ea x.1.es.length ec)) 38)) =>
          have hal : Below W.heap.size W W' := by rw [hW']; exact (Below.refl _ _).alloc (Nat.le_refl _) _
          hK _ W' (by rw [hW']; exact (KeepsOthers.alloc _ _).from _) (KeepT.of_below hal) (hiW.trans (Kept.of_below hal)) ⟨W.heap.size, ⟨x, la, lc, ea, ec, hx, rfl, by rw [hW']; exact heap_alloc_new W _, by omega, (hli.mono (fun j _ hj => by omega)).below hal⟩, rfl⟩
        simp only [List.setIfInBounds_toArray, List.set_cons_zero, List.set_cons_succ] at hbx
        have HK := Lib.hid hbx
        clear hK hbx hli hiW hi hb
        gi_wp2
        exact HK.out _ rfl
      case body =>
        rintro l k v a' W hl hk hkp ⟨bm, ⟨x, la, lc, ea, ec, hx, rfl, hbm, hbm2, hli⟩, rfl⟩
        simp only [List.setIfInBounds_toArray, List.set_cons_zero, List.set_cons_succ]
        obtain ⟨m, lw, ew⟩ := x
        simp only at hbm hli
        have hbq : Below wq.heap.size wq W := hkp.below (Nat.le_refl _) (fun _ h => h.elim)
        have hsw := HBQ.out.below hbq
        have cs : W.cell? ⟨sx, 0, none⟩ = some (.slice sa xs.length sc) := by rw [Lib.cell_of_heap hsw.box]; rfl
        obtain ⟨y0, y1, y2, y3, y4, y5, y6, y7, y8, y9, y10, -⟩ := box_cells hbm
        have hmem := List.mem_of_getElem? hx
        have HAM := Lib.hid (among_any (both_msgs hsw HG.out (HB0Q.out.trans (hbq.mono HB0Q.out.size))) hli HG.out.sm (HXSM.out _ hmem) (by omega))
        have HIX : Hid (InX xs m) := HIN.out _ hmem
        have HKP := Lib.hid hkp
        clear hbm hli hx hmem hbq hsw hkp
        gi_wp2_with (refine ⟨trivial, ?_⟩; gi_at_call 23; refine (CallsIn.inRound l (callsIn_wide.2 HAM.out)).mono ?_; rintro e w3 ⟨⟨bv, rfl, hbv⟩, hb3⟩; obtain rfl := hbv HIX.out; have HB3 := Lib.hid hb3; clear hb3 hbv)
        exact ⟨⟨HB3.out.size, fun j o _ ho _ => (HB3.out.block j (Array.getElem?_eq_some_iff.1 ho).1).trans ho⟩, KeepT.of_below HB3.out, HKP.out.trans (Kept.of_below HB3.out)⟩
      case done =>
        intro D W hD hkp hKD
        have hbq : Below wq.heap.size wq W := hkp.below (Nat.le_refl _) (fun _ h => h.elim)
        have hlr : W.heap[w0.heap.size]? = some (.cells #[.bool false] 4 (0, 0)) := (hbq.block _ (by have := HLT.out; omega)).trans HLQ.out
        have cl : W.cell? ⟨w0.heap.size, 0, none⟩ = some (.bool false) := by rw [Lib.cell_of_heap hlr]; rfl
        have fl : W.frozen? ⟨w0.heap.size, 0, none⟩ = false := Lib.frozen_of_heap hlr 0
        have hbW : Hid (Below w0.heap.size w0 W) := HB0Q.out.trans (hbq.mono HB0Q.out.size)
        have HKD := Lib.hid hKD
        have hl1 := HLT.out.1
        have hl2 := HLT.out.2
        clear hKD hlr hbq hkp
        go_wp2
        refine left_marks (D := D) (v := .bool true) rfl ((Below.heap_setCell _ _ _ _ (fun e => by have e : D = w0.heap.size := e; omega)).trans HKD.out) (results_one (p := 4) (a := ⟨w0.heap.size, 0, none⟩) rfl _ _ _ rfl Try.underlying4 rfl ((World.cell?_of_block (a := ⟨w0.heap.size, 0, none⟩) (World.putObj_heap_other (fun e => by have e : w0.heap.size = D := e; omega))).trans (World.cell?_setCell_same _ _ _ cl))) ⟨rfl, below_put (below_set hbW.out (Nat.le_refl _)) (by omega)⟩
      case stop =>
        rintro D k c W _ _ _ h
        exact h.elim
    have hlti : (k : Int) < (l.length : Int) := by omega
    obtain ⟨x, hx⟩ : ∃ x, l[k]? = some x := ⟨l[k], List.getElem?_eq_getElem hlt⟩
    have hmem := List.mem_of_getElem? hx
    have hvr : ActsIn (fun k => k < w0.heap.size) wr (.slice a0 l.length c0) l := HVS.out.keep KR.out.size (fun g hg hl => KR.out.block g hl (by have := HSZ.out; omega))
    obtain ⟨ab, ao, rfl, -, hcap, habl, x0, x1, x2, hxm⟩ := hvr.get hx
    have hn5 := HN.out x hmem
    have HSX : Hid (∀ y ∈ x.xs, Sm y.1) := fun y hy => ⟨Nat.le_trans ((HA3.out x hmem).2 y hy).1 (by decide), Nat.le_trans ((HA3.out x hmem).2 y hy).2 (by decide), (HSM.out x hmem y hy).1, (HSM.out x hmem y hy).2⟩
    have hxs := (HA3.out x hmem).1
    obtain ⟨xa, xc, hxa, _⟩ := hxm.1.slice
    rw [hxa] at x2 hxm
    have hab0 : ab < w0.heap.size := by
      obtain ⟨a', c', e, _, _, h3⟩ := hvr.1
      rcases h3 with h3 | ⟨b, off, e2, hb, _⟩
      · omega
      · cases e; cases e2; exact hb
    have HLX : Hid (∀ y ∈ x.xs, LI (fun j => j < w0.heap.size) w0 y.1 y.2.1 y.2.2) := (H.out.2 x hmem).2
    have HC : Hid (∀ w', Kept (fun j => bb ≤ j) wr w' → w'.cell? ⟨ab, ao + k * 3, none⟩ = some (.int .u8 x.k) ∧ w'.cell? ⟨ab, ao + k * 3 + 1, none⟩ = some (.int .i64 x.n) ∧ w'.cell? ⟨ab, ao + k * 3 + 2, none⟩ = some (.slice xa x.xs.length xc) ∧ MsgsIn (fun k => k < w0.heap.size) w' (.slice xa x.xs.length xc) x.xs) := fun w' hk => by
      have hq := HSZ.out
      have e : ∀ j, w'.cell? ⟨ab, j, none⟩ = wr.cell? ⟨ab, j, none⟩ := fun j => World.cell?_of_block (a := ⟨ab, j, none⟩) (hk.block ab habl (by omega))
      exact ⟨(e _).trans x0, (e _).trans x1, (e _).trans x2, hxm.keep hk.size (fun g hg hl => hk.block g hl (by omega))⟩
    have hms : ms.length ≤ 30100 := by have := HML.out; omega
    have hxsl : xs.length ≤ 30100 := by have := HML.out; omega
    have hml := HML.out
    have hbw : bb ≤ wr.heap.size := by have := HSZ.out; have := KR.out.size; omega
    obtain ⟨r, hr⟩ : ∃ r, r = x.k.toNat % 5 := ⟨_, rfl⟩
    have hit : x.k.tmod 5 = (r : Int) := by rw [Int.tmod_eq_emod_of_nonneg hn5.1]; omega
    have hr5 : r = 0 ∨ r = 1 ∨ r = 2 ∨ r = 3 ∨ r = 4 := by omega
    clear hr hvr hx hxm hmem x1 x2 hxa
    have i0 := (HC.out _ (Kept.refl _ _)).1
    have i1 := (HC.out _ (Kept.refl _ _)).2.1
    have i2 := (HC.out _ (Kept.refl _ _)).2.2.1
    clear x0
    obtain ⟨sv, Sb, hbo⟩ := HBO.out
    have HBB := Lib.hid hbo
    clear hbo HBO
    rcases hr5 with rfl | rfl | rfl | rfl | rfl
    · have hit0 : x.k.tmod 5 = 0 := hit
      clear hit
      obtain ⟨i1', i2', i3', i4'⟩ := HC.out _ (Kept.refl _ _)
      obtain ⟨K, hK⟩ : ∃ K, K = min x.xs.length (M - ms.length) := ⟨_, rfl⟩
      obtain ⟨ns, hns⟩ : ∃ ns, ns = ms ++ (x.xs.take K).map (·.1) := ⟨_, rfl⟩
      have hc := HBB.out.call (X1 := fun e _ => e = .returned (.int .i64 (K : Int))) (ms' := ns) hbw (fun S h1 h2 hq => by rw [hns, hK]; exact Send_any hq h1 (i4'.mono (fun j _ hj hs => by have := h2 j hs; have := HSZ.out; omega)) HSX.out (by omega))
      have hKl : K ≤ x.xs.length := by omega
      have hnl : ns.length = ms.length + K := by rw [hns, List.length_append, List.length_map, List.length_take]; omega
      have HGN : Hid (Good w0 (xs ++ x.xs.take K) ns) := by
        refine ⟨fun y hy => ?_, fun y hy => ?_, fun m hm => ?_⟩
        · rcases List.mem_append.1 hy with h | h
          · exact HG.out.li y h
          · exact HLX.out y (List.mem_of_mem_take h)
        · rcases List.mem_append.1 hy with h | h
          · exact HG.out.sm y h
          · exact HSX.out y (List.mem_of_mem_take h)
        · rw [List.map_append]
          rw [hns] at hm
          rcases List.mem_append.1 hm with h | h
          · exact List.mem_append.2 (.inl (HG.out.sub m h))
          · exact List.mem_append.2 (.inr h)
      have HCL := Lib.hid hc
      clear hc hns hK i1' i2' i3' i4'
      go_wp2_with fail
      refine HCL.out.mono ?_
      rintro e w5 ⟨rfl, ⟨Sb5, hb5⟩, k5⟩
      obtain ⟨j0, j1, j2, j3⟩ := HC.out _ k5
      obtain ⟨a', c', r1, r2, hto⟩ := msgs_to j3 K hKl
      obtain ⟨i0', hi0, hz0, hz1, hz2⟩ := info_parts info_msg
      obtain ⟨sa, sc, hsv⟩ := row_slice hb5.row
      subst hsv
      have cs5 : w5.cell? ⟨sx, 0, none⟩ = some (.slice sa xs.length sc) := by rw [Lib.cell_of_heap hb5.box]; rfl
      have fs5 : w5.frozen? ⟨sx, 0, none⟩ = false := Lib.frozen_of_heap hb5.box 0
      have HB5 := Lib.hid hb5
      have K5 := Lib.hid k5
      have hbw5 : bb ≤ w5.heap.size := Nat.le_trans hbw k5.size
      have hKi : (K : Int) ≤ (x.xs.length : Int) := by omega
      have hKx : K ≤ 100 := by omega
      clear hb5 k5 j3
      by_cases hK0 : K = 0
      · have hgr := HB5.out.below ((Below.refl _ _).drew (w := w5))
        have hfin := HB5.out.grow (ys := x.xs.take K) (sv2 := .slice sa xs.length sc) (w2 := w5) hbw5 (by rw [hK0]; simpa using HB5.out.row) ⟨rfl, rfl, rfl, Nat.le_refl _, fun _ _ _ => rfl⟩ (fun g hg => .inl hg)
        have HFIN : Hid (Both bb bb sx M ns (xs ++ x.xs.take K) (.slice sa xs.length sc) Sb5 (w5.setCell ⟨sx, 0, none⟩ (.slice sa xs.length sc)).drew ∧ Kept (fun j => bb ≤ j) w5 (w5.setCell ⟨sx, 0, none⟩ (.slice sa xs.length sc)).drew) := ⟨hfin.1.below ((Below.refl _ _).drew), kept_drew hfin.2⟩
        have HK0 := Lib.hid hK0
        have HRW := Lib.hid hgr.row
        clear hgr hfin hK0 hto
        go_wp2
        refine wp_region_noPanic ?_
        go_region_law (go_loud (refine step_append_zero rfl (.tmp 60) (.tmp 67) 29 rfl 0 38 i0' 11 Try.underlying29 hi0 _ xs.length (rowC xs) rfl HRW.out a' K c' rfl HK0.out ?_))
        all_goals
          refine NoPanic.normal ?_
          go_wp2_with fail
          generalize (w5.setCell ⟨sx, 0, none⟩ (.slice sa xs.length sc)).drew = w8 at *
          have HBZ : Hid (BothAt bb bb sx M ns (xs ++ x.xs.take K) w8) := ⟨_, _, HFIN.out.1⟩
          have HKZ : Hid (Kept (fun j => bb ≤ j) wr w8) := K5.out.trans HFIN.out.2
          have HGZ : Hid (Good w0 (xs ++ x.xs.take K) ns) := HGN.out
          have HLZ : Hid ((ns).length ≤ 100 * (k + 1) ∧ ((xs ++ x.xs.take K)).length ≤ 100 * (k + 1)) := ⟨by omega, by rw [List.length_append, List.length_take]; omega⟩
          have hnv : ((ns).length : Int) = ((ms.length : Int) + (K : Int)) := by omega
          obtain ⟨Sz, hbz⟩ := BothAt.bag HBZ.out
          have hfit : ((ns).length : Int) ≤ (M : Int) := by have := hbz.fit; omega
          have hlen := Len_any hbz
          rw [hnv] at hlen hfit
          have HLEN := Lib.hid hlen
          have HNV := Lib.hid hnv
          have hge : 0 ≤ ((ms.length : Int) + (K : Int)) := by omega
          clear hlen hbz
          by_cases hmo : most < 0
          · have hle0 : ((ms.length : Int) + (K : Int)) ≤ 0 := by omega
            clear hnv
            (try go_wp2_with fail)
            refine HLEN.out.mono ?_
            rintro e wz ⟨rfl, rfl⟩
            go_wp2
            all_goals
              go_roundw
              case rel => exact ⟨k + 1, ns, (xs ++ x.xs.take K), by omega, by first | rfl | exact congrArg (Value.int .i64) HNV.out.symm, by go_num, HBZ, KR.out.trans HKZ.out, HLZ.out, HGZ.out⟩
              case measure => simp [intOf]; omega
          · have hmo' : 0 ≤ most := by omega
            have hle1 : ((ms.length : Int) + (K : Int)) ≤ most := by omega
            clear hnv hmo
            (try go_wp2_with fail)
            refine HLEN.out.mono ?_
            rintro e wz ⟨rfl, rfl⟩
            go_wp2
            all_goals
              go_roundw
              case rel => exact ⟨k + 1, ns, (xs ++ x.xs.take K), by omega, by first | rfl | exact congrArg (Value.int .i64) HNV.out.symm, by go_num, HBZ, KR.out.trans HKZ.out, HLZ.out, HGZ.out⟩
              case measure => simp [intOf]; omega
      · obtain ⟨ad, hada, hnews⟩ : ∃ ad : Addr, a' = some ad ∧ ∀ j u, (rowC (x.xs.take K))[j]? = some u → w5.cell? (ad.add j) = some u := by
          obtain ⟨a2, c2', e2, _, _, h3⟩ := hto.1
          injection e2 with e21 e22 e23
          subst e21
          rcases h3 with h3 | ⟨b, off, e3, _, _, h4⟩
          · rw [List.length_take] at h3; omega
          · exact ⟨_, e3, fun j u hu => by rw [add_off]; exact h4 j u hu⟩
        subst hada
        have hKp : 0 < K := by omega
        have HNW : Hid (∀ j u, (rowC (x.xs.take K))[j]? = some u → w5.drew.cell? (ad.add j) = some u) := hnews
        have hnwl : (rowC (x.xs.take K)).length = K * 11 := by rw [rowC_len, List.length_take, Nat.min_eq_left hKl]
        have hone : ∀ u ∈ rowC (x.xs.take K), u.oneCell' = true := rowC_one _ (fun y hy => hto.slv y hy)
        have hgr := HB5.out.below ((Below.refl _ _).drew (w := w5))
        have HGR := Lib.hid hgr
        have HONE := Lib.hid hone
        have HNWL := Lib.hid hnwl
        clear hnews hgr hone hnwl hto
        go_wp2
        refine wp_region_noPanic ?_
        go_region_law (go_loud (refine step_append_lies _ rfl (.tmp 60) (.tmp 67) 29 rfl 0 38 i0' (.agg #[.int .u8 0, .int .i64 0, .int .i64 0, .int .i64 0, .int .i64 0, .int .i64 0, .int .i64 0, .bool false, .slice none 0 0, .slice none 0 0, .string ⟨#[]⟩]) 11 128 Try.underlying29 hi0 hz0 hz1 hz2 rfl (by decide) _ xs.length (rowC xs) rfl HGR.out.row ad K c' (rowC (x.xs.take K)) rfl HNWL.out HNW.out HONE.out hKp (by unfold maxLen; omega) (by omega) (Nat.zero_le _) _ rfl ?_; intro g7 cap7 w7 ho7 hg7 hl7 hlt7; have cc7 : w7.cell? ⟨sx, 0, none⟩ = some (.slice sa xs.length sc) := (hg7.cell_far ⟨sx, 0, none⟩ HGR.out.sxlt (fun e => (HGR.out.own sx e.symm).2.1 rfl)).trans cs5; have ff7 : w7.frozen? ⟨sx, 0, none⟩ = false := (hg7.frozen_far ⟨sx, 0, none⟩ HGR.out.sxlt (fun e => (HGR.out.own sx e.symm).2.1 rfl)).trans fs5; have HO7 := Lib.hid ho7; have HG7 := Lib.hid hg7; have HL7 := Lib.hid hl7; clear ho7 hg7 hl7 hlt7))
        all_goals
          refine NoPanic.normal ?_
          have hfin := HGR.out.grow (ys := x.xs.take K) hbw5 (by rw [rowC_append, List.length_append, List.length_take, Nat.min_eq_left hKl]; exact HO7.out) HG7.out (fun g hg => HL7.out.elim (fun e => .inl (by cases hg; exact e)) (fun e => .inr (by cases hg; exact Nat.le_of_eq e.symm)))
          have HFIN := Lib.hid hfin
          clear hfin
          go_wp2_with fail
          generalize w7.setCell ⟨sx, 0, none⟩ (.slice (some ⟨g7, 0, none⟩) (xs.length + K) cap7) = w8 at *
          have HBZ : Hid (BothAt bb bb sx M ns (xs ++ x.xs.take K) w8) := ⟨_, _, HFIN.out.1⟩
          have HKZ : Hid (Kept (fun j => bb ≤ j) wr w8) := K5.out.trans ((kept_drew (Kept.refl _ _)).trans HFIN.out.2)
          have HGZ : Hid (Good w0 (xs ++ x.xs.take K) ns) := HGN.out
          have HLZ : Hid ((ns).length ≤ 100 * (k + 1) ∧ ((xs ++ x.xs.take K)).length ≤ 100 * (k + 1)) := ⟨by omega, by rw [List.length_append, List.length_take]; omega⟩
          have hnv : ((ns).length : Int) = ((ms.length : Int) + (K : Int)) := by omega
          obtain ⟨Sz, hbz⟩ := BothAt.bag HBZ.out
          have hfit : ((ns).length : Int) ≤ (M : Int) := by have := hbz.fit; omega
          have hlen := Len_any hbz
          rw [hnv] at hlen hfit
          have HLEN := Lib.hid hlen
          have HNV := Lib.hid hnv
          have hge : 0 ≤ ((ms.length : Int) + (K : Int)) := by omega
          clear hlen hbz
          by_cases hmo : most < 0
          · have hle0 : ((ms.length : Int) + (K : Int)) ≤ 0 := by omega
            clear hnv
            (try go_wp2_with fail)
            refine HLEN.out.mono ?_
            rintro e wz ⟨rfl, rfl⟩
            go_wp2
            all_goals
              go_roundw
              case rel => exact ⟨k + 1, ns, (xs ++ x.xs.take K), by omega, by first | rfl | exact congrArg (Value.int .i64) HNV.out.symm, by go_num, HBZ, KR.out.trans HKZ.out, HLZ.out, HGZ.out⟩
              case measure => simp [intOf]; omega
          · have hmo' : 0 ≤ most := by omega
            have hle1 : ((ms.length : Int) + (K : Int)) ≤ most := by omega
            clear hnv hmo
            (try go_wp2_with fail)
            refine HLEN.out.mono ?_
            rintro e wz ⟨rfl, rfl⟩
            go_wp2
            all_goals
              go_roundw
              case rel => exact ⟨k + 1, ns, (xs ++ x.xs.take K), by omega, by first | rfl | exact congrArg (Value.int .i64) HNV.out.symm, by go_num, HBZ, KR.out.trans HKZ.out, HLZ.out, HGZ.out⟩
              case measure => simp [intOf]; omega
    · have hit0 : x.k.tmod 5 = 1 := hit
      clear hit
      have hc := HBB.out.call (X1 := fun e w' => ∃ hi, AtRes ms x.n wr.heap.size hi e w') (ms' := takeS ms x.n) hbw (fun S h1 h2 hq => (Take_any hq x.n hn5.2 (by omega)).mono (fun e w' hh => by obtain ⟨hi, h1, h2, h3, _⟩ := hh; exact ⟨⟨hi, h1⟩, h2.mono (fun _ _ hk => hk.1), h3.mono (fun _ _ hk => hk.1)⟩))
      have hSM : Sm ((getI ms x.n).getD noMsg) := getI_sm HBB.out.bag.sm x.n
      have HCL := Lib.hid hc
      clear hc
      cases hgi : getI ms x.n with
      | none =>
        have htn := takeS_none hgi
        rw [htn] at HCL
        unfold AtRes at HCL
        rw [hgi] at HCL
        clear hSM htn hgi
        go_wp2_with fail
        refine HCL.out.mono ?_
        rintro e w5 ⟨⟨hi1, la, lc, ea, ec, rfl, hli1⟩, ⟨Sb5, hb5⟩, k5⟩
        simp only [Option.getD_none, Option.isSome_none]
        generalize (noMsg : Msg) = Mz at *
        obtain ⟨w6, hw6⟩ : ∃ w6, w6 = w5.alloc (.cells (Mz.arr (.slice la Mz.l.length lc) (.slice ea Mz.es.length ec)) 38) := ⟨_, rfl⟩
        have hb56 : Below w5.heap.size w5 w6 := by rw [hw6]; exact (Below.refl _ _).alloc (Nat.le_refl _) _
        have HB6 := Lib.hid (hb5.below hb56)
        have K6 := Lib.hid (k5.trans (Kept.of_below hb56))
        have HW6 := Lib.hid hw6
        clear hw6 hb56 hb5 k5 hli1
        go_wp2_with fail
        rw [← HW6.out]
        have HBZ : Hid (BothAt bb bb sx M ms xs w6) := ⟨_, _, HB6.out⟩
        have HKZ : Hid (Kept (fun j => bb ≤ j) wr w6) := K6.out
        have HGZ : Hid (Good w0 xs ms) := HG.out
        have HLZ : Hid ((ms).length ≤ 100 * (k + 1) ∧ (xs).length ≤ 100 * (k + 1)) := ⟨by omega, by omega⟩
        have hnv : ((ms).length : Int) = (ms.length : Int) := rfl
        obtain ⟨Sz, hbz⟩ := BothAt.bag HBZ.out
        have hfit : ((ms).length : Int) ≤ (M : Int) := by have := hbz.fit; omega
        have hlen := Len_any hbz
        rw [hnv] at hlen hfit
        have HLEN := Lib.hid hlen
        have HNV := Lib.hid hnv
        have hge : 0 ≤ (ms.length : Int) := by omega
        clear hlen hbz
        by_cases hmo : most < 0
        · have hle0 : (ms.length : Int) ≤ 0 := by omega
          clear hnv
          (try go_wp2_with fail)
          refine HLEN.out.mono ?_
          rintro e wz ⟨rfl, rfl⟩
          go_wp2
          all_goals
            go_roundw
            case rel => exact ⟨k + 1, ms, xs, by omega, by first | rfl | exact congrArg (Value.int .i64) HNV.out.symm, by go_num, HBZ, KR.out.trans HKZ.out, HLZ.out, HGZ.out⟩
            case measure => simp [intOf]; omega
        · have hmo' : 0 ≤ most := by omega
          have hle1 : (ms.length : Int) ≤ most := by omega
          clear hnv hmo
          (try go_wp2_with fail)
          refine HLEN.out.mono ?_
          rintro e wz ⟨rfl, rfl⟩
          go_wp2
          all_goals
            go_roundw
            case rel => exact ⟨k + 1, ms, xs, by omega, by first | rfl | exact congrArg (Value.int .i64) HNV.out.symm, by go_num, HBZ, KR.out.trans HKZ.out, HLZ.out, HGZ.out⟩
            case measure => simp [intOf]; omega
      | some Mm =>
        obtain ⟨htl, htm⟩ := takeS_some hgi
        unfold AtRes at HCL
        rw [hgi] at HCL hSM
        have HSM1 := Lib.hid hSM
        have HIN : Hid (InX xs Mm) := HG.out.sub Mm htm
        obtain ⟨ns, hns⟩ : ∃ ns, ns = takeS ms x.n := ⟨_, rfl⟩
        have HMS : Hid (∀ m ∈ ns, m ∈ ms) := fun m hm => by rw [hns] at hm; exact takeS_mem hm
        rw [← hns] at HCL htl
        clear hSM htm hgi hns
        go_wp2_with fail
        refine HCL.out.mono ?_
        rintro e w5 ⟨⟨hi1, la, lc, ea, ec, rfl, hli1⟩, ⟨Sb5, hb5⟩, k5⟩
        simp only [Option.getD_some, Option.isSome_some] at hli1 ⊢
        obtain ⟨w6, hw6⟩ : ∃ w6, w6 = w5.alloc (.cells (Mm.arr (.slice la Mm.l.length lc) (.slice ea Mm.es.length ec)) 38) := ⟨_, rfl⟩
        have hb56 : Below w5.heap.size w5 w6 := by rw [hw6]; exact (Below.refl _ _).alloc (Nat.le_refl _) _
        have HB6 := Lib.hid (hb5.below hb56)
        have K6 := Lib.hid (k5.trans (Kept.of_below hb56))
        have hx6 : w6.heap[w5.heap.size]? = some (msgO Mm (.slice la Mm.l.length lc) (.slice ea Mm.es.length ec)) := by rw [hw6]; exact heap_alloc_new w5 _
        have HLI6 := Lib.hid (hli1.below hb56)
        have HX6 := Lib.hid hx6
        have HW6 := Lib.hid hw6
        clear hw6 hb56 hb5 k5 hli1 hx6
        have hw06 : Below w0.heap.size w0 w6 := HB0S.out.trans ((KR.out.trans K6.out).below HB0S.out.size (fun j hj => by have := HSZ.out; omega))
        have HAM := Lib.hid (among_any (both_msgs HB6.out HG.out hw06) HLI6.out HG.out.sm HSM1.out (by omega))
        obtain ⟨sa, sc, hsv⟩ := row_slice HB6.out.row
        subst hsv
        have cs6 : w6.cell? ⟨sx, 0, none⟩ = some (.slice sa xs.length sc) := by rw [Lib.cell_of_heap HB6.out.box]; rfl
        obtain ⟨y0, y1, y2, y3, y4, y5, y6, y7, y8, y9, y10, -⟩ := box_cells HX6.out
        clear hw06
        go_upto_region 24 with fail
        rw [← HW6.out]
        go_wp2_with fail
        refine HAM.out.mono ?_
        rintro e w7 ⟨⟨bv, rfl, hbv⟩, hb7⟩
        obtain rfl := hbv HIN.out
        have HB7 := Lib.hid (HB6.out.below hb7)
        have K7 : Hid (Kept (fun j => bb ≤ j) wr w7) := K6.out.trans (Kept.of_below hb7)
        clear hbv hb7 y0 y1 y2 y3 y4 y5 y6 y7 y8 y9 y10 cs6 HAM
        have HBZ : Hid (BothAt bb bb sx M ns xs w7) := ⟨_, _, HB7.out⟩
        have HKZ : Hid (Kept (fun j => bb ≤ j) wr w7) := K7.out
        have HGZ : Hid (Good w0 xs ns) := ⟨HG.out.li, HG.out.sm, fun m hm => HG.out.sub m (HMS.out m hm)⟩
        have HLZ : Hid ((ns).length ≤ 100 * (k + 1) ∧ (xs).length ≤ 100 * (k + 1)) := ⟨by omega, by omega⟩
        have hnv : ((ns).length : Int) = ((ms.length : Int) - 1) := by omega
        obtain ⟨Sz, hbz⟩ := BothAt.bag HBZ.out
        have hfit : ((ns).length : Int) ≤ (M : Int) := by have := hbz.fit; omega
        have hlen := Len_any hbz
        rw [hnv] at hlen hfit
        have HLEN := Lib.hid hlen
        have HNV := Lib.hid hnv
        have hge : 0 ≤ ((ms.length : Int) - 1) := by omega
        clear hlen hbz
        by_cases hmo : most < 0
        · have hle0 : ((ms.length : Int) - 1) ≤ 0 := by omega
          clear hnv
          (try go_wp2_with fail)
          refine HLEN.out.mono ?_
          rintro e wz ⟨rfl, rfl⟩
          go_wp2
          all_goals
            go_roundw
            case rel => exact ⟨k + 1, ns, xs, by omega, by first | rfl | exact congrArg (Value.int .i64) HNV.out.symm, by go_num, HBZ, KR.out.trans HKZ.out, HLZ.out, HGZ.out⟩
            case measure => simp [intOf]; omega
        · have hmo' : 0 ≤ most := by omega
          have hle1 : ((ms.length : Int) - 1) ≤ most := by omega
          clear hnv hmo
          (try go_wp2_with fail)
          refine HLEN.out.mono ?_
          rintro e wz ⟨rfl, rfl⟩
          go_wp2
          all_goals
            go_roundw
            case rel => exact ⟨k + 1, ns, xs, by omega, by first | rfl | exact congrArg (Value.int .i64) HNV.out.symm, by go_num, HBZ, KR.out.trans HKZ.out, HLZ.out, HGZ.out⟩
            case measure => simp [intOf]; omega
    · have hit0 : x.k.tmod 5 = 2 := hit
      clear hit
      obtain ⟨hdc, hdm⟩ := doubleS_cases M ms x.n
      have hc := HBB.out.call (X1 := fun e _ => e = .returned (.bool (doubleS M ms x.n).1)) (ms' := (doubleS M ms x.n).2) hbw (fun S h1 h2 hq => Double_any hq h1 (by omega) x.n)
      generalize (doubleS M ms x.n).2 = ns at *
      generalize (doubleS M ms x.n).1 = db at *
      have HMS := Lib.hid hdm
      have HCL := Lib.hid hc
      clear hc hdm
      rcases hdc with ⟨rfl, hdl⟩ | ⟨rfl, hdl⟩
      · go_wp2_with fail
        refine HCL.out.mono ?_
        rintro e w5 ⟨rfl, ⟨Sb5, hb5⟩, k5⟩
        have HB5 := Lib.hid hb5
        have K5 := Lib.hid k5
        clear hb5 k5
        have HBZ : Hid (BothAt bb bb sx M ns xs w5) := ⟨_, _, HB5.out⟩
        have HKZ : Hid (Kept (fun j => bb ≤ j) wr w5) := K5.out
        have HGZ : Hid (Good w0 xs ns) := ⟨HG.out.li, HG.out.sm, fun m hm => HG.out.sub m (HMS.out m hm)⟩
        have HLZ : Hid ((ns).length ≤ 100 * (k + 1) ∧ (xs).length ≤ 100 * (k + 1)) := ⟨by omega, by omega⟩
        have hnv : ((ns).length : Int) = ((ms.length : Int) + 1) := by omega
        obtain ⟨Sz, hbz⟩ := BothAt.bag HBZ.out
        have hfit : ((ns).length : Int) ≤ (M : Int) := by have := hbz.fit; omega
        have hlen := Len_any hbz
        rw [hnv] at hlen hfit
        have HLEN := Lib.hid hlen
        have HNV := Lib.hid hnv
        have hge : 0 ≤ ((ms.length : Int) + 1) := by omega
        clear hlen hbz
        by_cases hmo : most < 0
        · have hle0 : ((ms.length : Int) + 1) ≤ 0 := by omega
          clear hnv
          (try go_wp2_with fail)
          refine HLEN.out.mono ?_
          rintro e wz ⟨rfl, rfl⟩
          go_wp2
          all_goals
            go_roundw
            case rel => exact ⟨k + 1, ns, xs, by omega, by first | rfl | exact congrArg (Value.int .i64) HNV.out.symm, by go_num, HBZ, KR.out.trans HKZ.out, HLZ.out, HGZ.out⟩
            case measure => simp [intOf]; omega
        · have hmo' : 0 ≤ most := by omega
          have hle1 : ((ms.length : Int) + 1) ≤ most := by omega
          clear hnv hmo
          (try go_wp2_with fail)
          refine HLEN.out.mono ?_
          rintro e wz ⟨rfl, rfl⟩
          go_wp2
          all_goals
            go_roundw
            case rel => exact ⟨k + 1, ns, xs, by omega, by first | rfl | exact congrArg (Value.int .i64) HNV.out.symm, by go_num, HBZ, KR.out.trans HKZ.out, HLZ.out, HGZ.out⟩
            case measure => simp [intOf]; omega
      · go_wp2_with fail
        refine HCL.out.mono ?_
        rintro e w5 ⟨rfl, ⟨Sb5, hb5⟩, k5⟩
        have HB5 := Lib.hid hb5
        have K5 := Lib.hid k5
        clear hb5 k5
        have HBZ : Hid (BothAt bb bb sx M ns xs w5) := ⟨_, _, HB5.out⟩
        have HKZ : Hid (Kept (fun j => bb ≤ j) wr w5) := K5.out
        have HGZ : Hid (Good w0 xs ns) := ⟨HG.out.li, HG.out.sm, fun m hm => HG.out.sub m (HMS.out m hm)⟩
        have HLZ : Hid ((ns).length ≤ 100 * (k + 1) ∧ (xs).length ≤ 100 * (k + 1)) := ⟨by omega, by omega⟩
        have hnv : ((ns).length : Int) = (ms.length : Int) := by omega
        obtain ⟨Sz, hbz⟩ := BothAt.bag HBZ.out
        have hfit : ((ns).length : Int) ≤ (M : Int) := by have := hbz.fit; omega
        have hlen := Len_any hbz
        rw [hnv] at hlen hfit
        have HLEN := Lib.hid hlen
        have HNV := Lib.hid hnv
        have hge : 0 ≤ (ms.length : Int) := by omega
        clear hlen hbz
        by_cases hmo : most < 0
        · have hle0 : (ms.length : Int) ≤ 0 := by omega
          clear hnv
          (try go_wp2_with fail)
          refine HLEN.out.mono ?_
          rintro e wz ⟨rfl, rfl⟩
          go_wp2
          all_goals
            go_roundw
            case rel => exact ⟨k + 1, ns, xs, by omega, by first | rfl | exact congrArg (Value.int .i64) HNV.out.symm, by go_num, HBZ, KR.out.trans HKZ.out, HLZ.out, HGZ.out⟩
            case measure => simp [intOf]; omega
        · have hmo' : 0 ≤ most := by omega
          have hle1 : (ms.length : Int) ≤ most := by omega
          clear hnv hmo
          (try go_wp2_with fail)
          refine HLEN.out.mono ?_
          rintro e wz ⟨rfl, rfl⟩
          go_wp2
          all_goals
            go_roundw
            case rel => exact ⟨k + 1, ns, xs, by omega, by first | rfl | exact congrArg (Value.int .i64) HNV.out.symm, by go_num, HBZ, KR.out.trans HKZ.out, HLZ.out, HGZ.out⟩
            case measure => simp [intOf]; omega
    · have hit0 : x.k.tmod 5 = 3 := hit
      clear hit
      have hst := stayS_len' ms x.n
      obtain ⟨ns, hns⟩ : ∃ ns, ns = stayS ms x.n := ⟨_, rfl⟩
      have hc := HBB.out.call (X1 := fun e _ => e = .returned (.int .i64 ((ms.length : Int) - (ns.length : Int)))) (ms' := ns) hbw (fun S h1 h2 hq => by rw [hns]; exact Lose_any hq h1 (by omega) x.n)
      have HMS : Hid (∀ m ∈ ns, m ∈ ms) := fun m hm => by rw [hns] at hm; exact stayS_mem hm
      rw [← hns] at hst
      have HCL := Lib.hid hc
      clear hns hc
      go_wp2_with fail
      refine HCL.out.mono ?_
      rintro e w5 ⟨rfl, ⟨Sb5, hb5⟩, k5⟩
      have HB5 := Lib.hid hb5
      have K5 := Lib.hid k5
      clear hb5 k5
      have HBZ : Hid (BothAt bb bb sx M ns xs w5) := ⟨_, _, HB5.out⟩
      have HKZ : Hid (Kept (fun j => bb ≤ j) wr w5) := K5.out
      have HGZ : Hid (Good w0 xs ns) := ⟨HG.out.li, HG.out.sm, fun m hm => HG.out.sub m (HMS.out m hm)⟩
      have HLZ : Hid ((ns).length ≤ 100 * (k + 1) ∧ (xs).length ≤ 100 * (k + 1)) := ⟨by omega, by omega⟩
      have hnv : ((ns).length : Int) = ((ms.length : Int) - ((ms.length : Int) - (ns.length : Int))) := by omega
      obtain ⟨Sz, hbz⟩ := BothAt.bag HBZ.out
      have hfit : ((ns).length : Int) ≤ (M : Int) := by have := hbz.fit; omega
      have hlen := Len_any hbz
      rw [hnv] at hlen hfit
      have HLEN := Lib.hid hlen
      have HNV := Lib.hid hnv
      have hge : 0 ≤ ((ms.length : Int) - ((ms.length : Int) - (ns.length : Int))) := by omega
      clear hlen hbz
      by_cases hmo : most < 0
      · have hle0 : ((ms.length : Int) - ((ms.length : Int) - (ns.length : Int))) ≤ 0 := by omega
        clear hnv
        (try go_wp2_with fail)
        refine HLEN.out.mono ?_
        rintro e wz ⟨rfl, rfl⟩
        go_wp2
        all_goals
          go_roundw
          case rel => exact ⟨k + 1, ns, xs, by omega, by first | rfl | exact congrArg (Value.int .i64) HNV.out.symm, by go_num, HBZ, KR.out.trans HKZ.out, HLZ.out, HGZ.out⟩
          case measure => simp [intOf]; omega
      · have hmo' : 0 ≤ most := by omega
        have hle1 : ((ms.length : Int) - ((ms.length : Int) - (ns.length : Int))) ≤ most := by omega
        clear hnv hmo
        (try go_wp2_with fail)
        refine HLEN.out.mono ?_
        rintro e wz ⟨rfl, rfl⟩
        go_wp2
        all_goals
          go_roundw
          case rel => exact ⟨k + 1, ns, xs, by omega, by first | rfl | exact congrArg (Value.int .i64) HNV.out.symm, by go_num, HBZ, KR.out.trans HKZ.out, HLZ.out, HGZ.out⟩
          case measure => simp [intOf]; omega
    · have hit0 : x.k.tmod 5 = 4 := hit
      clear hit
      have HBZ : Hid (BothAt bb bb sx M ms xs wr) := ⟨_, _, HBB.out⟩
      have HKZ : Hid (Kept (fun j => bb ≤ j) wr wr) := Kept.refl _ _
      have HGZ : Hid (Good w0 xs ms) := HG.out
      have HLZ : Hid ((ms).length ≤ 100 * (k + 1) ∧ (xs).length ≤ 100 * (k + 1)) := ⟨by omega, by omega⟩
      have hnv : ((ms).length : Int) = (ms.length : Int) := rfl
      obtain ⟨Sz, hbz⟩ := BothAt.bag HBZ.out
      have hfit : ((ms).length : Int) ≤ (M : Int) := by have := hbz.fit; omega
      have hlen := Len_any hbz
      rw [hnv] at hlen hfit
      have HLEN := Lib.hid hlen
      have HNV := Lib.hid hnv
      have hge : 0 ≤ (ms.length : Int) := by omega
      clear hlen hbz
      by_cases hmo : most < 0
      · have hle0 : (ms.length : Int) ≤ 0 := by omega
        clear hnv
        (try go_wp2_with fail)
        refine HLEN.out.mono ?_
        rintro e wz ⟨rfl, rfl⟩
        go_wp2
        all_goals
          go_roundw
          case rel => exact ⟨k + 1, ms, xs, by omega, by first | rfl | exact congrArg (Value.int .i64) HNV.out.symm, by go_num, HBZ, KR.out.trans HKZ.out, HLZ.out, HGZ.out⟩
          case measure => simp [intOf]; omega
      · have hmo' : 0 ≤ most := by omega
        have hle1 : (ms.length : Int) ≤ most := by omega
        clear hnv hmo
        (try go_wp2_with fail)
        refine HLEN.out.mono ?_
        rintro e wz ⟨rfl, rfl⟩
        go_wp2
        all_goals
          go_roundw
          case rel => exact ⟨k + 1, ms, xs, by omega, by first | rfl | exact congrArg (Value.int .i64) HNV.out.symm, by go_num, HBZ, KR.out.trans HKZ.out, HLZ.out, HGZ.out⟩
          case measure => simp [intOf]; omega
end Go.Proofs.Ytegjeklkhpllpaa
