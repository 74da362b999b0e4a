/- What was answered OK is there behind any crash. Printed by genkeeps.py. -/
import Derived.Test.YtnffjoflkeagfaaKeepM
import Derived.Deep.QuietTactic
namespace Go.Proofs.Ytnffjoflkeagfaa
open Go.RowKit Go.Maps

/-- how much the law's lists are -/
def Few (sure late : Recs) (W : Nat) : Prop := (Fr.joinB sure).length + (Fr.joinB late).length ≤ W ∧ W ≤ 4096 ∧ sure.length ≤ 512 ∧ late.length ≤ 512
theorem few {sure late : Recs} {W : Nat} (h : (Fr.joinB sure).length + (Fr.joinB late).length ≤ W) (hW : W ≤ 4096) : Few sure late W := by
  have h1 := (Fr.joinB_each sure).1
  have h2 := (Fr.joinB_each late).1
  exact ⟨h, hW, by omega, by omega⟩
theorem few_size {sure late : Recs} {W : Nat} (h : Few sure late W) : (∀ c ∈ sure, c.size ≤ 65536) ∧ ∀ c ∈ late, c.size ≤ 65536 := by
  obtain ⟨h1, h2, _⟩ := h
  exact ⟨fun c hc => by have := mem_joinB hc; omega, fun c hc => by have := mem_joinB hc; omega⟩
theorem joinB_takeL (l : Recs) (m : Nat) : (Fr.joinB (l.take m)).length ≤ (Fr.joinB l).length := Fr.joinB_take l m
theorem own_nil {w : World} {B : Nat} {e : TypeId} {sz : Nat} {a : Option Addr} {n c : Nat} {xs : List Value} (h : w.ownsRow B e sz (.slice a n c) n xs) : a = none → n = 0 ∧ c = 0 := by
  intro e
  subst e
  rcases h.2 with ⟨h3, _⟩ | ⟨g, cap, cur, h3, _⟩
  · cases h3; exact ⟨rfl, rfl⟩
  · cases h3
set_option maxHeartbeats 8000000 in
set_option maxRecDepth 100000 in
theorem law_keeps5 (room : Int) (v : Value) (l : List Act5) (w : World) (hl : Acts5Off (From w.heap.size) w v l) (hln : l.length ≤ 9223372036854775807)
    (hkx : ∀ x ∈ l, x.k < 256 ∧ -9223372036854775808 ≤ x.n ∧ x.n ≤ 9223372036854775807 ∧ x.keep.length ≤ 140737488355328 ∧ x.l.length ≤ 9223372036854775807 ∧ x.b.size ≤ 140737488355328 ∧ ∀ c ∈ x.l, c.size ≤ 9223372036854775807)
    (_hr0 : -9223372036854775808 ≤ room) (hr1 : room ≤ 9223372036854775807) :
    Calls Try.prog 5 #[.int .i64 room, v] w fun e w' => e = .returned (.bool true) ∧ Below w.heap.size w w' := by
  have hw := works5_any w
  obtain ⟨va, vc, rfl⟩ := hl.slice
  have HL := Lib.hid hl
  have HX := Lib.hid hkx
  clear hl hkx
  obtain ⟨i0, hi, hz0, hz1, hz2⟩ := info_parts info_str5
  go_enter Try.func5, Try.ntmps5
  go_wp2_with fail
  refine hw.mono ?_
  rintro e w00 ⟨rfl, b00⟩
  have hh := heavy5_any (HL.out.kept (Kept.of_below b00)) hln (fun x hx => by obtain ⟨h1, h2, h3, h4, h5, h6, h7⟩ := HX.out x hx; exact ⟨h4, h5, by omega, h7⟩)
  have B00 := Lib.hid b00
  clear b00 hw
  go_wp2_with fail
  refine hh.mono ?_
  rintro e w0 ⟨hv, rfl, hhv, b0⟩
  have K0 : Hid (Kept (From w.heap.size) w w0) := (Kept.of_below B00.out).trans (Kept.of_below b0)
  clear b0 hh B00
  cases hv with
  | true =>
    go_wp2
    go_ret
    exact ⟨rfl, K0.out.below (Nat.le_refl _) (fun _ h => h)⟩
  | false =>
    obtain ⟨hlen, hws, hsm⟩ := hhv rfl
    have HWS := Lib.hid hws
    have HSMALL := Lib.hid hsm
    clear hhv hws hsm
    go_wp2_with fail
    refine (New_any (S := From w.heap.size) w0 (fun k hk => Nat.le_trans K0.out.size hk) room hr1).mono ?_
    rintro e w1 ⟨rfl, d1, b1⟩
    have D1 := Lib.hid d1
    have K1 : Hid (Kept (From w.heap.size) w w1) := K0.out.trans (Kept.of_below b1)
    clear d1 b1
    generalize hdb : w0.heap.size = db at *
    clear hdb
    go_wp2_with fail
    refine (Open_some D1.out (fun k hk => Nat.le_trans K1.out.size hk) (by simp [newS]) (by simp [newS, usedF]) (open_new room)).mono ?_
    rintro e w2 ⟨wb0, rfl, q2, k2⟩
    have P2 : Hid (KeepQ db wb0 (newS room) [] (.slice none 0 0) [] (.slice none 0 0) [] (From w.heap.size) w2) := by
      have hS : ∀ k, w2.heap.size ≤ k → From w.heap.size k := fun k hk => Nat.le_trans (K1.out.trans k2).size hk
      have p1 := Pair.of (djThing _ _ _ _) (rowThing (.slice none 0 0) []) q2 (Below.refl _ _) ⟨World.ownsRow_nil _ _ _ _, fun g hg => by simp [Value.ownBlock] at hg⟩ hS
      have p2 := Pair.of (pairThing (djThing _ _ _ _) (rowThing (.slice none 0 0) [])) (rowThing (.slice none 0 0) []) p1 (Below.refl _ _) ⟨World.ownsRow_nil _ _ _ _, fun g hg => by simp [Value.ownBlock] at hg⟩ hS
      exact Pair.assoc p2
    have K2 : Hid (Kept (From w.heap.size) w w2) := K1.out.trans k2
    have kp0 : Kp (newS room) [] [] := .inl ⟨rfl, rfl, con_new room⟩
    have HKP0 := Lib.hid kp0
    clear q2 k2 kp0
    go_wp2
    go_loopw [8, 10, 11, 12] (fun pw sv lv i wr => ∃ (k wb : Nat) (s : St) (sure late : Recs), k ≤ l.length ∧ pw = ptrV wb ∧ i = .int .i64 k ∧ KeepQ db wb s sure lv late sv sure (From w.heap.size) wr ∧ Kept (From w.heap.size) w wr ∧ Kp s sure late ∧ Few sure late (wsum5 (l.take k))) (fun pw sv lv i _ => l.length - (intOf i).toNat)
    case atStart => exact ⟨0, wb0, _, [], [], by omega, rfl, rfl, P2.out, K2.out, HKP0.out, few (by simp [Fr.joinB, Fr.joinL]) (by simp [wsum5])⟩
    case round =>
      obtain ⟨k, wb, s, sure, late, hk1, rfl, rfl, hp, hkp, hkp0, hfew⟩ := hrel
      have HP := Lib.hid hp
      have HK := Lib.hid hkp
      have HKP := Lib.hid hkp0
      have HF := Lib.hid hfew
      have hBw : w.heap.size ≤ wr.heap.size := hkp.size
      have hsl := hfew.2.2.1
      have hll := hfew.2.2.2
      obtain ⟨sa, scp, rfl⟩ := (keep_sure hp).slice
      obtain ⟨laa, lcp, rfl⟩ := (keep_late hp).slice
      clear hp hkp hkp0 hfew
      by_cases h1 : k < l.length
      · have h1i : (k : Int) < (l.length : Int) := by omega
        obtain ⟨x, hx⟩ : ∃ x, l[k]? = some x := ⟨l[k], List.getElem?_eq_getElem h1⟩
        obtain ⟨hx1, hx2, hx3, hx4, hx5, hx6, hx7⟩ := HX.out x (List.mem_of_getElem? hx)
        obtain ⟨hq1, hq2⟩ := HSMALL.out x (List.mem_of_getElem? hx)
        have HWT : Hid (wsum5 (l.take (k + 1)) = wsum5 (l.take k) + w5 x ∧ wsum5 (l.take (k + 1)) ≤ 4096) := by
          refine ⟨by rw [take_snocA _ _ _ hx, wsum5_snoc], ?_⟩
          have := wsum5_take l (k + 1); have := HWS.out; omega
        have HJX : Hid ((Fr.joinB x.l).length ≤ w5 x) := by show _ ≤ _; unfold w5; omega
        have hall : ∀ c ∈ x.l, c.size ≤ 65536 := fun c hc => by have := mem_joinB hc; have := HJX.out; have := HWT.out.1; have := HWT.out.2; omega
        have HALL := Lib.hid hall
        have hus := HKP.out.used
        have hct := HKP.out.count
        have hfw := HF.out.1
        have hfw2 := HF.out.2.1
        have HSAME : Hid (Few sure late (wsum5 (l.take (k + 1)))) := few (by have := HWT.out.1; omega) HWT.out.2
        obtain ⟨ba, off, la, lc, ka, kc, rfl, _, hcap, _, hlv, hkv, c0, c1, c2, c3, _, htx, hko, _⟩ := act5_get (HL.out.kept HK.out) hx
        have HTX := Lib.hid htx
        have HKO := Lib.hid hko
        have HXX := Lib.hid hx
        clear hx htx hko hall hx7 hx6 hx5
        obtain ⟨r, hr⟩ : ∃ r, r = x.k % 6 := ⟨_, rfl⟩
        have hr9 : r < 6 := by omega
        have hit : ((x.k : Int)).tmod 6 = (r : Int) := by rw [Int.tmod_eq_emod_of_nonneg (by omega)]; omega
        clear hr
        have hr10 : r = 0 ∨ r = 1 ∨ r = 2 ∨ r = 3 ∨ r = 4 ∨ r = 5 := by omega
        clear hr9
        rcases hr10 with rfl | rfl | rfl | rfl | rfl | rfl
        · have hit0 : ((x.k : Int)).tmod 6 = 0 := hit
          clear hit
          by_cases hne : x.l = []
          · as_aux_lemma =>
              have hz0l : x.l.length = 0 := by rw [hne]; rfl
              have HCALL := Lib.hid (wAppend_none (.slice la x.l.length lc) (ptrV wb) wr ⟨la, lc, by rw [hz0l]⟩)
              have HNE := Lib.hid hne
              clear hne hz0l
              go_wp2_with fail
              refine HCALL.out.mono ?_
              rintro e w7 ⟨rfl, rfl⟩
              have HSRC := Lib.hid HTX.out.src
              clear HCALL
              have HRW := Lib.hid (keep_sure HP.out).1
              go_wp2_with (at_builtin; go_loud (refine wpList_append_row rfl _ _ 41 rfl 0 9 i0 (.string ⟨#[]⟩) 1 16 Try.underlying41 hi hz0 hz1 hz2 rfl (by decide) _ _ _ rfl HRW.out _ x.l.length (cellsOf strC x.l) rfl HSRC.out (by simp [cellsOf]) (ones_str x.l) (by unfold maxLen; omega) (by omega) (Nat.zero_le _) ?_))
              intro v8 w8 ho hg hat
              obtain ⟨a8, c8, rfl⟩ := row_slice ho
              have hup := grow_sure HP.out (fun j hj => Nat.le_trans HK.out.size hj) (L' := sure ++ x.l) hg (by have := ho; simpa [cellsOf] using this) hat
              have P8 := Lib.hid hup.1
              have K8 : Hid (Kept (From w.heap.size) w w8) := HK.out.trans hup.2
              have hsl8 : (sure ++ x.l).length = sure.length + x.l.length := List.length_append
              clear ho hg hat hup HRW HSRC
              obtain ⟨_, _, _, _, _, _, eg, _, _, _, elv, ekv, g0, g1, g2, g3, _, gt, gk, _⟩ := act5_get (HL.out.kept K8.out) HXX.out
              cases eg
              rw [hlv] at elv
              cases elv
              rw [hkv] at ekv
              cases ekv
              have HFZ : Hid (Few (sure ++ x.l) late (wsum5 (l.take (k + 1)))) := by rw [HNE.out, List.append_nil]; exact HSAME.out
              have hkp' : Kp s (sure ++ x.l) late := by rw [HNE.out, List.append_nil]; exact HKP.out
              have PZ : Hid (KeepQ db wb s (sure ++ x.l) (.slice laa late.length lcp) late (.slice a8 (sure.length + x.l.length) c8) (sure ++ x.l) (From w.heap.size) w8) := by
                have := P8.out
                rw [HNE.out, List.append_nil] at this ⊢
                exact this
              have KZ := K8
              clear P8 gt gk
              have HKP' := Lib.hid hkp'
              have hlw : (sure ++ x.l).length ≤ 1024 := by omega
              have HRC := Lib.hid (Records_any (Pair.snd (walThing _ _ _ _) (Pair.fst (djThing _ _ _ _) PZ.out)) (by omega))
              go_wp2_with fail
              refine HRC.out.mono ?_
              rintro e wa ⟨rva, rfl, hoa, ba⟩
              have PA := Lib.hid ((keepThing _ _ _ _ _ _ _ _).below PZ.out ba)
              have KA : Hid (Kept (From w.heap.size) w wa) := KZ.out.trans (Kept.of_below ba)
              have HSM := Lib.hid (Fr.same_n _ _ (sure ++ x.l) (sure ++ x.l).length wa (Fr.ListAt.of_own hoa) (Fr.ListAt.of_own (keep_sure PA.out).1) rfl (by omega))
              clear hoa ba HRC
              go_wp2_with fail
              refine HSM.out.mono ?_
              rintro e wb' ⟨rfl, bb⟩
              have PB := Lib.hid ((keepThing _ _ _ _ _ _ _ _).below PA.out bb)
              have KB : Hid (Kept (From w.heap.size) w wb') := KA.out.trans (Kept.of_below bb)
              clear bb HSM
              go_wp2
              go_roundw
              case rel => exact ⟨k + 1, wb, s, (sure ++ x.l), late, by omega, by first | rfl | trivial, by go_num, PB.out, KB.out, HKP'.out, HFZ.out⟩
              case measure => simp [intOf]; omega
          · have HCALL := Lib.hid (wAppend_beside (rowsThing _ _ _ _) HP.out (fun j hj => Nat.le_trans hBw hj) (by omega) (by omega) HTX.out HALL.out (by omega) (by omega) hne)
            have hj1 := HJX.out
            have hj2 := HWT.out.1
            have hj3 := HWT.out.2
            clear hne
            rcases kp_append HKP.out x.l with he | ⟨s', he, ⟨hl0, hkq⟩ | ⟨hl0, hkq⟩⟩ | ⟨s', he, hkq, hl0⟩
            · as_aux_lemma =>
                rw [he] at HCALL
                clear he
                go_wp2_with fail
                refine HCALL.out.mono ?_
                rintro e w7 ⟨rfl, p7, k7⟩
                have P7 := Lib.hid p7
                have K7 : Hid (Kept (From w.heap.size) w w7) := HK.out.trans k7
                clear p7 k7 HCALL
                obtain ⟨_, _, _, _, _, _, eg, _, _, _, elv, ekv, g0, g1, g2, g3, _, gt, gk, _⟩ := act5_get (HL.out.kept K7.out) HXX.out
                cases eg
                rw [hlv] at elv
                cases elv
                rw [hkv] at ekv
                cases ekv
                have hkp' := HKP.out
                have PZ := P7
                have KZ := K7
                clear gt gk
                have HKP' := Lib.hid hkp'
                have HRC := Lib.hid (Records_any (Pair.snd (walThing _ _ _ _) (Pair.fst (djThing _ _ _ _) PZ.out)) (by omega))
                go_wp2_with fail
                refine HRC.out.mono ?_
                rintro e wa ⟨rva, rfl, hoa, ba⟩
                have PA := Lib.hid ((keepThing _ _ _ _ _ _ _ _).below PZ.out ba)
                have KA : Hid (Kept (From w.heap.size) w wa) := KZ.out.trans (Kept.of_below ba)
                have HSM := Lib.hid (Fr.same_n _ _ sure sure.length wa (Fr.ListAt.of_own hoa) (Fr.ListAt.of_own (keep_sure PA.out).1) rfl (by omega))
                clear hoa ba HRC
                go_wp2_with fail
                refine HSM.out.mono ?_
                rintro e wb' ⟨rfl, bb⟩
                have PB := Lib.hid ((keepThing _ _ _ _ _ _ _ _).below PA.out bb)
                have KB : Hid (Kept (From w.heap.size) w wb') := KA.out.trans (Kept.of_below bb)
                clear bb HSM
                go_wp2
                go_roundw
                case rel => exact ⟨k + 1, wb, s, sure, late, by omega, by first | rfl | trivial, by go_num, PB.out, KB.out, HKP'.out, HSAME.out⟩
                case measure => simp [intOf]; omega
            · as_aux_lemma =>
                rw [he] at HCALL
                have HFZ : Hid (Few sure x.l (wsum5 (l.take (k + 1)))) := few (by omega) (by omega)
                have hlz : ((late.length : Int) == 0) = true := by rw [hl0]; rfl
                have hlz3 : (late.length == 0) = true := by rw [hl0]; rfl
                have HL0 := Lib.hid hl0
                have HKQ := Lib.hid hkq
                clear he hl0 hkq
                go_wp2_with fail
                refine HCALL.out.mono ?_
                rintro e w7 ⟨rfl, p7, k7⟩
                have P7 := Lib.hid p7
                have K7 : Hid (Kept (From w.heap.size) w w7) := HK.out.trans k7
                clear p7 k7 HCALL
                obtain ⟨_, _, _, _, _, _, eg, _, _, _, elv, ekv, g0, g1, g2, g3, _, gt, gk, _⟩ := act5_get (HL.out.kept K7.out) HXX.out
                cases eg
                rw [hlv] at elv
                cases elv
                rw [hkv] at ekv
                cases ekv
                have HSRC := Lib.hid gt.src
                have HRW := Lib.hid (keep_late P7.out).1
                clear gt gk
                go_wp2_with (at_builtin; go_loud (refine wpList_append_row rfl _ _ 41 rfl 0 9 i0 (.string ⟨#[]⟩) 1 16 Try.underlying41 hi hz0 hz1 hz2 rfl (by decide) _ _ _ rfl HRW.out _ x.l.length (cellsOf strC x.l) rfl HSRC.out (by simp [cellsOf]) (ones_str x.l) (by unfold maxLen; omega) (by omega) (Nat.zero_le _) ?_))
                intro v8 w8 ho hg hat
                obtain ⟨a8, c8, rfl⟩ := row_slice ho
                have hup := grow_late P7.out (fun j hj => Nat.le_trans K7.out.size hj) (L' := late ++ x.l) hg (by have := ho; simpa [cellsOf] using this) hat
                have P8 := Lib.hid hup.1
                have K8 : Hid (Kept (From w.heap.size) w w8) := K7.out.trans hup.2
                clear ho hg hat hup HRW HSRC
                have hkp' : Kp s' sure (late ++ x.l) := by rw [HL0.out, List.nil_append]; exact HKQ.out
                have HFZ2 : Hid (Few sure (late ++ x.l) (wsum5 (l.take (k + 1)))) := by rw [HL0.out, List.nil_append]; exact HFZ.out
                have PZ := P8
                have KZ := K8
                clear HFZ
                have HKP' := Lib.hid hkp'
                have HRC := Lib.hid (Records_any (Pair.snd (walThing _ _ _ _) (Pair.fst (djThing _ _ _ _) PZ.out)) (by omega))
                go_wp2_with fail
                refine HRC.out.mono ?_
                rintro e wa ⟨rva, rfl, hoa, ba⟩
                have PA := Lib.hid ((keepThing _ _ _ _ _ _ _ _).below PZ.out ba)
                have KA : Hid (Kept (From w.heap.size) w wa) := KZ.out.trans (Kept.of_below ba)
                have HSM := Lib.hid (Fr.same_n _ _ sure sure.length wa (Fr.ListAt.of_own hoa) (Fr.ListAt.of_own (keep_sure PA.out).1) rfl (by omega))
                clear hoa ba HRC
                go_wp2_with fail
                refine HSM.out.mono ?_
                rintro e wb' ⟨rfl, bb⟩
                have PB := Lib.hid ((keepThing _ _ _ _ _ _ _ _).below PA.out bb)
                have KB : Hid (Kept (From w.heap.size) w wb') := KA.out.trans (Kept.of_below bb)
                clear bb HSM
                go_wp2
                go_roundw
                case rel => exact ⟨k + 1, wb, s', sure, (late ++ x.l), by omega, by first | rfl | trivial, by go_num, PB.out, KB.out, HKP'.out, HFZ2.out⟩
                case measure => simp [intOf]; omega
            · as_aux_lemma =>
                rw [he] at HCALL
                have hlz : ¬ late.length = 0 := fun e => hl0 (List.length_eq_zero_iff.1 e)
                have hlz2 : ((late.length : Int) == 0) = false := by simpa using hl0
                have HKQ := Lib.hid hkq
                clear he hl0 hkq
                go_wp2_with fail
                refine HCALL.out.mono ?_
                rintro e w7 ⟨rfl, p7, k7⟩
                have P7 := Lib.hid p7
                have K7 : Hid (Kept (From w.heap.size) w w7) := HK.out.trans k7
                clear p7 k7 HCALL
                obtain ⟨_, _, _, _, _, _, eg, _, _, _, elv, ekv, g0, g1, g2, g3, _, gt, gk, _⟩ := act5_get (HL.out.kept K7.out) HXX.out
                cases eg
                rw [hlv] at elv
                cases elv
                rw [hkv] at ekv
                cases ekv
                have hkp' := HKQ.out
                have PZ := P7
                have KZ := K7
                clear gt gk
                have HKP' := Lib.hid hkp'
                have HRC := Lib.hid (Records_any (Pair.snd (walThing _ _ _ _) (Pair.fst (djThing _ _ _ _) PZ.out)) (by omega))
                go_wp2_with fail
                refine HRC.out.mono ?_
                rintro e wa ⟨rva, rfl, hoa, ba⟩
                have PA := Lib.hid ((keepThing _ _ _ _ _ _ _ _).below PZ.out ba)
                have KA : Hid (Kept (From w.heap.size) w wa) := KZ.out.trans (Kept.of_below ba)
                have HSM := Lib.hid (Fr.same_n _ _ sure sure.length wa (Fr.ListAt.of_own hoa) (Fr.ListAt.of_own (keep_sure PA.out).1) rfl (by omega))
                clear hoa ba HRC
                go_wp2_with fail
                refine HSM.out.mono ?_
                rintro e wb' ⟨rfl, bb⟩
                have PB := Lib.hid ((keepThing _ _ _ _ _ _ _ _).below PA.out bb)
                have KB : Hid (Kept (From w.heap.size) w wb') := KA.out.trans (Kept.of_below bb)
                clear bb HSM
                go_wp2
                go_roundw
                case rel => exact ⟨k + 1, wb, s', sure, late, by omega, by first | rfl | trivial, by go_num, PB.out, KB.out, HKP'.out, HSAME.out⟩
                case measure => simp [intOf]; omega
            · as_aux_lemma =>
                rw [he] at HCALL
                have HFZ : Hid (Few (sure ++ x.l) [] (wsum5 (l.take (k + 1)))) := few (by rw [joinB_app, List.length_append]; simp [Fr.joinB, Fr.joinL]; simp [Fr.joinB, Fr.joinL] at hfw hj1; omega) (by omega)
                have HL0 := Lib.hid hl0
                have HKQ := Lib.hid hkq
                clear he hl0 hkq
                go_wp2_with fail
                refine HCALL.out.mono ?_
                rintro e w7 ⟨rfl, p7, k7⟩
                have P7 := Lib.hid p7
                have K7 : Hid (Kept (From w.heap.size) w w7) := HK.out.trans k7
                clear p7 k7 HCALL
                obtain ⟨_, _, _, _, _, _, eg, _, _, _, elv, ekv, g0, g1, g2, g3, _, gt, gk, _⟩ := act5_get (HL.out.kept K7.out) HXX.out
                cases eg
                rw [hlv] at elv
                cases elv
                rw [hkv] at ekv
                cases ekv
                have HSRC := Lib.hid gt.src
                clear gt gk
                have HRW := Lib.hid (keep_sure P7.out).1
                go_wp2_with (at_builtin; go_loud (refine wpList_append_row rfl _ _ 41 rfl 0 9 i0 (.string ⟨#[]⟩) 1 16 Try.underlying41 hi hz0 hz1 hz2 rfl (by decide) _ _ _ rfl HRW.out _ x.l.length (cellsOf strC x.l) rfl HSRC.out (by simp [cellsOf]) (ones_str x.l) (by unfold maxLen; omega) (by omega) (Nat.zero_le _) ?_))
                intro v8 w8 ho hg hat
                obtain ⟨a8, c8, rfl⟩ := row_slice ho
                have hup := grow_sure P7.out (fun j hj => Nat.le_trans K7.out.size hj) (L' := sure ++ x.l) hg (by have := ho; simpa [cellsOf] using this) hat
                have P8 := Lib.hid hup.1
                have K8 : Hid (Kept (From w.heap.size) w w8) := K7.out.trans hup.2
                have hsl8 : (sure ++ x.l).length = sure.length + x.l.length := List.length_append
                clear ho hg hat hup HRW HSRC
                have HFZ2 : Hid (Few (sure ++ x.l) late (wsum5 (l.take (k + 1)))) := by rw [HL0.out]; exact HFZ.out
                have hkp' : Kp s' (sure ++ x.l) late := by rw [HL0.out]; exact HKQ.out
                have PZ := P8
                have KZ := K8
                clear HFZ
                obtain ⟨_, _, _, _, _, _, eg, _, _, _, elv, ekv, g0, g1, g2, g3, _, gt, gk, _⟩ := act5_get (HL.out.kept K8.out) HXX.out
                cases eg
                rw [hlv] at elv
                cases elv
                rw [hkv] at ekv
                cases ekv
                clear gt gk
                have HKP' := Lib.hid hkp'
                have hlw : (sure ++ x.l).length ≤ 1024 := by omega
                have HRC := Lib.hid (Records_any (Pair.snd (walThing _ _ _ _) (Pair.fst (djThing _ _ _ _) PZ.out)) (by omega))
                go_wp2_with fail
                refine HRC.out.mono ?_
                rintro e wa ⟨rva, rfl, hoa, ba⟩
                have PA := Lib.hid ((keepThing _ _ _ _ _ _ _ _).below PZ.out ba)
                have KA : Hid (Kept (From w.heap.size) w wa) := KZ.out.trans (Kept.of_below ba)
                have HSM := Lib.hid (Fr.same_n _ _ (sure ++ x.l) (sure ++ x.l).length wa (Fr.ListAt.of_own hoa) (Fr.ListAt.of_own (keep_sure PA.out).1) rfl (by omega))
                clear hoa ba HRC
                go_wp2_with fail
                refine HSM.out.mono ?_
                rintro e wb' ⟨rfl, bb⟩
                have PB := Lib.hid ((keepThing _ _ _ _ _ _ _ _).below PA.out bb)
                have KB : Hid (Kept (From w.heap.size) w wb') := KA.out.trans (Kept.of_below bb)
                clear bb HSM
                go_wp2
                go_roundw
                case rel => exact ⟨k + 1, wb, s', (sure ++ x.l), late, by omega, by first | rfl | trivial, by go_num, PB.out, KB.out, HKP'.out, HFZ2.out⟩
                case measure => simp [intOf]; omega
        · have hit0 : ((x.k : Int)).tmod 6 = 1 := hit
          clear hit
          have HCALL := Lib.hid (wRewrite_beside (rowsThing _ _ _ _) HP.out (fun j hj => Nat.le_trans hBw hj) (by omega) (by omega) HTX.out HALL.out (by omega))
          have hj1 := HJX.out
          have hj2 := HWT.out.1
          have hj3 := HWT.out.2
          rcases kp_other HKP.out x.l with he | ⟨s', he, hkq⟩ | ⟨s', he, hkq, hl0⟩
          · as_aux_lemma =>
              rw [he] at HCALL
              clear he
              go_wp2_with fail
              refine HCALL.out.mono ?_
              rintro e w7 ⟨rfl, p7, k7⟩
              have P7 := Lib.hid p7
              have K7 : Hid (Kept (From w.heap.size) w w7) := HK.out.trans k7
              clear p7 k7 HCALL
              obtain ⟨_, _, _, _, _, _, eg, _, _, _, elv, ekv, g0, g1, g2, g3, _, gt, gk, _⟩ := act5_get (HL.out.kept K7.out) HXX.out
              cases eg
              rw [hlv] at elv
              cases elv
              rw [hkv] at ekv
              cases ekv
              have hkp' := HKP.out
              have PZ := P7
              have KZ := K7
              clear gt gk
              have HKP' := Lib.hid hkp'
              have HRC := Lib.hid (Records_any (Pair.snd (walThing _ _ _ _) (Pair.fst (djThing _ _ _ _) PZ.out)) (by omega))
              go_wp2_with fail
              refine HRC.out.mono ?_
              rintro e wa ⟨rva, rfl, hoa, ba⟩
              have PA := Lib.hid ((keepThing _ _ _ _ _ _ _ _).below PZ.out ba)
              have KA : Hid (Kept (From w.heap.size) w wa) := KZ.out.trans (Kept.of_below ba)
              have HSM := Lib.hid (Fr.same_n _ _ sure sure.length wa (Fr.ListAt.of_own hoa) (Fr.ListAt.of_own (keep_sure PA.out).1) rfl (by omega))
              clear hoa ba HRC
              go_wp2_with fail
              refine HSM.out.mono ?_
              rintro e wb' ⟨rfl, bb⟩
              have PB := Lib.hid ((keepThing _ _ _ _ _ _ _ _).below PA.out bb)
              have KB : Hid (Kept (From w.heap.size) w wb') := KA.out.trans (Kept.of_below bb)
              clear bb HSM
              go_wp2
              go_roundw
              case rel => exact ⟨k + 1, wb, s, sure, late, by omega, by first | rfl | trivial, by go_num, PB.out, KB.out, HKP'.out, HSAME.out⟩
              case measure => simp [intOf]; omega
          · as_aux_lemma =>
              rw [he] at HCALL
              have HKQ := Lib.hid hkq
              clear he hkq
              go_wp2_with fail
              refine HCALL.out.mono ?_
              rintro e w7 ⟨rfl, p7, k7⟩
              have P7 := Lib.hid p7
              have K7 : Hid (Kept (From w.heap.size) w w7) := HK.out.trans k7
              clear p7 k7 HCALL
              obtain ⟨_, _, _, _, _, _, eg, _, _, _, elv, ekv, g0, g1, g2, g3, _, gt, gk, _⟩ := act5_get (HL.out.kept K7.out) HXX.out
              cases eg
              rw [hlv] at elv
              cases elv
              rw [hkv] at ekv
              cases ekv
              have hkp' := HKQ.out
              have PZ := P7
              have KZ := K7
              clear gt gk
              have HKP' := Lib.hid hkp'
              have HRC := Lib.hid (Records_any (Pair.snd (walThing _ _ _ _) (Pair.fst (djThing _ _ _ _) PZ.out)) (by omega))
              go_wp2_with fail
              refine HRC.out.mono ?_
              rintro e wa ⟨rva, rfl, hoa, ba⟩
              have PA := Lib.hid ((keepThing _ _ _ _ _ _ _ _).below PZ.out ba)
              have KA : Hid (Kept (From w.heap.size) w wa) := KZ.out.trans (Kept.of_below ba)
              have HSM := Lib.hid (Fr.same_n _ _ sure sure.length wa (Fr.ListAt.of_own hoa) (Fr.ListAt.of_own (keep_sure PA.out).1) rfl (by omega))
              clear hoa ba HRC
              go_wp2_with fail
              refine HSM.out.mono ?_
              rintro e wb' ⟨rfl, bb⟩
              have PB := Lib.hid ((keepThing _ _ _ _ _ _ _ _).below PA.out bb)
              have KB : Hid (Kept (From w.heap.size) w wb') := KA.out.trans (Kept.of_below bb)
              clear bb HSM
              go_wp2
              go_roundw
              case rel => exact ⟨k + 1, wb, s', sure, late, by omega, by first | rfl | trivial, by go_num, PB.out, KB.out, HKP'.out, HSAME.out⟩
              case measure => simp [intOf]; omega
          · as_aux_lemma =>
              rw [he] at HCALL
              have HFZ : Hid (Few x.l [] (wsum5 (l.take (k + 1)))) := few (by simp [Fr.joinB, Fr.joinL]; simp [Fr.joinB, Fr.joinL] at hj1; omega) (by omega)
              have HL0 := Lib.hid hl0
              have HKQ := Lib.hid hkq
              clear he hl0 hkq
              go_wp2_with fail
              refine HCALL.out.mono ?_
              rintro e w7 ⟨rfl, p7, k7⟩
              have P7 := Lib.hid p7
              have K7 : Hid (Kept (From w.heap.size) w w7) := HK.out.trans k7
              clear p7 k7 HCALL
              obtain ⟨_, _, _, _, _, _, eg, _, _, _, elv, ekv, g0, g1, g2, g3, _, gt, gk, _⟩ := act5_get (HL.out.kept K7.out) HXX.out
              cases eg
              rw [hlv] at elv
              cases elv
              rw [hkv] at ekv
              cases ekv
              have HSRC := Lib.hid (gt.below ((Below.refl _ w7).alloc (Nat.le_refl _) (.cells #[] 9))).src
              have hbl7 := World.block_lt_of_cell? w7 _ g1
              have g1a : ∀ o, (w7.alloc o).cell? ⟨ba, off + k * 5 + 1, none⟩ = _ := fun o => (((Below.refl _ w7).alloc (Nat.le_refl _) o).cell (p := ⟨ba, off + k * 5 + 1, none⟩) hbl7).trans g1
              clear gt gk
              go_wp2_with (at_builtin; go_loud (refine wpList_append_row rfl _ _ 41 rfl w7.heap.size 9 i0 (.string ⟨#[]⟩) 1 16 Try.underlying41 hi hz0 hz1 hz2 rfl (by decide) _ _ _ rfl (World.ownsRow_lit w7 #[] 0 (Nat.le_refl _) (by decide) rfl) _ x.l.length (cellsOf strC x.l) rfl HSRC.out (by simp [cellsOf]) (ones_str x.l) (by unfold maxLen; omega) (by omega) (by simp) ?_))
              intro v8 w8 ho hg _
              have hb8 : Below w7.heap.size w7 w8 := ((Below.refl _ w7).alloc (Nat.le_refl _) _).grown hg (by simp) (fun k hk => by simp [Value.ownBlock] at hk; omega)
              obtain ⟨a8, c8, rfl⟩ := row_slice ho
              have P8 := Lib.hid (new_sure P7.out (fun j hj => Nat.le_trans K7.out.size hj) hb8 (L' := x.l) (by simpa using ho))
              have K8 : Hid (Kept (From w.heap.size) w w8) := K7.out.trans (Kept.of_below hb8)
              clear ho hg hb8 HSRC
              have HFZ2 : Hid (Few x.l late (wsum5 (l.take (k + 1)))) := by rw [HL0.out]; exact HFZ.out
              have hkp' : Kp s' x.l late := by rw [HL0.out]; exact HKQ.out
              have PZ := P8
              have KZ := K8
              clear HFZ
              obtain ⟨_, _, _, _, _, _, eg, _, _, _, elv, ekv, g0, g1, g2, g3, _, gt, gk, _⟩ := act5_get (HL.out.kept K8.out) HXX.out
              cases eg
              rw [hlv] at elv
              cases elv
              rw [hkv] at ekv
              cases ekv
              clear gt gk
              have HKP' := Lib.hid hkp'
              have HRC := Lib.hid (Records_any (Pair.snd (walThing _ _ _ _) (Pair.fst (djThing _ _ _ _) PZ.out)) (by omega))
              go_wp2_with fail
              refine HRC.out.mono ?_
              rintro e wa ⟨rva, rfl, hoa, ba⟩
              have PA := Lib.hid ((keepThing _ _ _ _ _ _ _ _).below PZ.out ba)
              have KA : Hid (Kept (From w.heap.size) w wa) := KZ.out.trans (Kept.of_below ba)
              have HSM := Lib.hid (Fr.same_n _ _ x.l x.l.length wa (Fr.ListAt.of_own hoa) (Fr.ListAt.of_own (keep_sure PA.out).1) rfl (by omega))
              clear hoa ba HRC
              go_wp2_with fail
              refine HSM.out.mono ?_
              rintro e wb' ⟨rfl, bb⟩
              have PB := Lib.hid ((keepThing _ _ _ _ _ _ _ _).below PA.out bb)
              have KB : Hid (Kept (From w.heap.size) w wb') := KA.out.trans (Kept.of_below bb)
              clear bb HSM
              go_wp2
              go_roundw
              case rel => exact ⟨k + 1, wb, s', x.l, late, by omega, by first | rfl | trivial, by go_num, PB.out, KB.out, HKP'.out, HFZ2.out⟩
              case measure => simp [intOf]; omega
        · as_aux_lemma =>
            have hit0 : ((x.k : Int)).tmod 6 = 2 := hit
            clear hit
            obtain ⟨hz1', hz2'⟩ := few_size HF.out
            obtain ⟨m, s', hm, ho, hkq⟩ := kp_crash HKP.out x.keep hz1' hz2'
            have HCALL := Lib.hid (Crash_beside (rowsThing _ _ _ _) HP.out (fun j hj => Nat.le_trans hBw hj) ⟨by omega, by omega⟩ HKP.out.keys HKO.out (by omega))
            have hmk : (late.take m).length = m := by rw [List.length_take]; omega
            have hkl : (sure ++ late.take m).length = sure.length + m := by rw [List.length_append, hmk]
            have HFZ : Hid (Few (sure ++ late.take m) [] (wsum5 (l.take (k + 1)))) := few (by have := joinB_takeL late m; have := HWT.out.1; rw [joinB_app, List.length_append]; have e : (Fr.joinB []).length = 0 := rfl; omega) HWT.out.2
            have hcu : usedF (crashS s x.keep).fs ≤ 4096 := Nat.le_trans (crashF_used s.fs x.keep) (by omega)
            have hcc : (crashS s x.keep).fs.length ≤ 1 := Nat.le_trans (crashF_len s.fs x.keep) hct
            have HKQ := Lib.hid hkq
            have HO := Lib.hid ho
            have hmi : ¬ (late.length : Int) < (m : Int) := by omega
            have HHKL := Lib.hid hkl
            clear hz1' hz2' hkq ho
            go_wp2_with fail
            refine HCALL.out.mono ?_
            rintro e w7 ⟨rfl, p7, k7⟩
            have P7 := Lib.hid p7
            have K7 : Hid (Kept (From w.heap.size) w w7) := HK.out.trans k7
            clear p7 k7 HCALL
            have HOP := Lib.hid (Open_beside (pairThing (walThing _ _ _ _) (rowsThing _ _ _ _)) (Pair.assoc P7.out) (fun j hj => Nat.le_trans K7.out.size hj) (by omega) (by omega) HO.out)
            clear hcu hcc
            go_wp2_with fail
            refine HOP.out.mono ?_
            rintro e w8 ⟨⟨vb, rfl, p8⟩, k8⟩
            have P8 : Hid (KeepQ db vb s' (sure ++ late.take m) (.slice laa late.length lcp) late (.slice sa sure.length scp) sure (From w.heap.size) w8) := Pair.drop p8
            have K8 : Hid (Kept (From w.heap.size) w w8) := K7.out.trans k8
            have HRC0 := Lib.hid (Records_any (Pair.snd (walThing _ _ _ _) (Pair.fst (djThing _ _ _ _) P8.out)) (by omega))
            clear p8 k8 HOP
            go_wp2_with fail
            refine HRC0.out.mono ?_
            rintro e w9 ⟨rvk, rfl, hok, b9⟩
            obtain ⟨kaa, kcp, rfl⟩ := row_slice hok
            have P9 := Lib.hid ((keepThing _ _ _ _ _ _ _ _).below P8.out b9)
            have K9 : Hid (Kept (From w.heap.size) w w9) := K8.out.trans (Kept.of_below b9)
            have HOK := Lib.hid hok
            have hlk : Fr.ListAt w9 _ _ (cellsOf strC (sure ++ late.take m)) := Fr.ListAt.of_own hok
            rw [hkl] at hlk ⊢
            obtain ⟨V1, v1a, v1b, l1⟩ := Fr.slice_to hlk rfl
            obtain ⟨V2, v2a, v2b, l2⟩ := Fr.slice_from hlk rfl hmk
            obtain ⟨V3, v3a, v3b, l3⟩ := Fr.slice_first (N := late.length) m (Fr.ListAt.of_own (keep_late P9.out).1) hm
            have HS1 := Lib.hid (same_qq V1 _ sure sure.length w9 l1 (Fr.ListAt.of_own (keep_sure P9.out).1) rfl (by omega))
            have HS2 := Lib.hid (same_qq V2 V3 (late.take m) m w9 l2 l3 hmk (by omega))
            have hsub : (sure.length : Int) + (m : Int) - (sure.length : Int) = (m : Int) := by omega
            have d1 : decide ((m : Int) < 0) = false := by simp
            have d2 : decide ((late.length : Int) < (m : Int)) = false := by simpa using hm
            have d3 : decide (late.length < m) = false := by simpa using hm
            clear hok b9 HRC0 l1 l2 l3 hlk hkl hmk
            go_wp2_with fail
            go_quiet (first
              | (go_at_call 19; with_reducible exact Calls.quiet_of (HS1.out _))
              | (go_at_call 19; with_reducible exact Calls.quiet_of (HS2.out _)))
            have hbq := below_drewN (Below.refl w9.heap.size w9) nq
            have P10 := Lib.hid ((keepThing _ _ _ _ _ _ _ _).below P9.out hbq)
            have K10 : Hid (Kept (From w.heap.size) w (w9.drewN nq)) := K9.out.trans (Kept.of_below hbq)
            have hrk := own_keep HOK.out (fun g hg => hbq.block g (own_lt HOK.out hg))
            rw [HHKL.out] at hrk
            have HRK := Lib.hid hrk
            have HSRC := Lib.hid (Src.of_at (Fr.ListAt.of_own (own_keep hrk (w' := (w9.drewN nq).alloc (.cells #[] 9)) (fun g hg => ((Below.refl _ _).alloc (Nat.le_refl _) _).block g (own_lt hrk hg)))) (own_nil hrk))
            clear hbq hrk
            go_wp2_with (at_builtin; go_loud (refine wpList_append_row rfl _ _ 41 rfl (w9.drewN nq).heap.size 9 i0 (.string ⟨#[]⟩) 1 16 Try.underlying41 hi hz0 hz1 hz2 rfl (by decide) _ _ _ rfl (World.ownsRow_lit (w9.drewN nq) #[] 0 (Nat.le_refl _) (by decide) rfl) _ (sure.length + m) (cellsOf strC (sure ++ late.take m)) rfl HSRC.out (by rw [Nat.mul_one]; simpa [cellsOf] using HHKL.out) (ones_str (sure ++ late.take m)) (by unfold maxLen; omega) (by omega) (by simp) ?_))
            intro v8 w11 ho hg _
            have hb8 : Below (w9.drewN nq).heap.size (w9.drewN nq) w11 := ((Below.refl _ (w9.drewN nq)).alloc (Nat.le_refl _) _).grown hg (by simp) (fun j hj => Nat.le_of_eq (by simpa [Value.ownBlock] using hj))
            obtain ⟨a8, c8, rfl⟩ := row_slice ho
            have P11 := Lib.hid (new_sure P10.out (fun j hj => Nat.le_trans K10.out.size hj) hb8 (L' := sure ++ late.take m) (by rw [HHKL.out]; simpa using ho))
            have K11 : Hid (Kept (From w.heap.size) w w11) := K10.out.trans (Kept.of_below hb8)
            clear ho hg hb8 HSRC
            have hkp' := HKQ.out
            have hlw' : (sure ++ late.take m).length ≤ 1024 := by rw [HHKL.out]; omega
            have PZ := Lib.hid (no_late P11.out)
            have KZ := K11
            have HKP' := Lib.hid hkp'
            have hlw := hlw'
            have HRC := Lib.hid (Records_any (Pair.snd (walThing _ _ _ _) (Pair.fst (djThing _ _ _ _) PZ.out)) (by omega))
            go_wp2_with fail
            refine HRC.out.mono ?_
            rintro e wa ⟨rva, rfl, hoa, ba⟩
            have PA := Lib.hid ((keepThing _ _ _ _ _ _ _ _).below PZ.out ba)
            have KA : Hid (Kept (From w.heap.size) w wa) := KZ.out.trans (Kept.of_below ba)
            have HSM := Lib.hid (Fr.same_n _ _ (sure ++ late.take m) (sure ++ late.take m).length wa (Fr.ListAt.of_own hoa) (Fr.ListAt.of_own (keep_sure PA.out).1) rfl (by omega))
            clear hoa ba HRC
            go_wp2_with fail
            refine HSM.out.mono ?_
            rintro e wb' ⟨rfl, bb⟩
            have PB := Lib.hid ((keepThing _ _ _ _ _ _ _ _).below PA.out bb)
            have KB : Hid (Kept (From w.heap.size) w wb') := KA.out.trans (Kept.of_below bb)
            clear bb HSM
            go_wp2
            go_roundw
            case rel => exact ⟨k + 1, vb, s', (sure ++ late.take m), [], by omega, by first | rfl | trivial, by go_num, PB.out, KB.out, HKP'.out, HFZ.out⟩
            case measure => simp [intOf]; omega
        · as_aux_lemma =>
            have hit0 : ((x.k : Int)).tmod 6 = 3 := hit
            clear hit
            have HCALL := Lib.hid (Break_beside (rowsThing _ _ _ _) HP.out (fun j hj => Nat.le_trans hBw hj) x.n hx3)
            have hkp' := kp_break HKP.out x.n
            generalize breakS s x.n = s' at *
            go_wp2_with fail
            refine HCALL.out.mono ?_
            rintro e w7 ⟨rfl, p7, k7⟩
            have P7 := Lib.hid p7
            have K7 : Hid (Kept (From w.heap.size) w w7) := HK.out.trans k7
            clear p7 k7 HCALL
            obtain ⟨_, _, _, _, _, _, eg, _, _, _, elv, ekv, g0, g1, g2, g3, _, gt, gk, _⟩ := act5_get (HL.out.kept K7.out) HXX.out
            cases eg
            rw [hlv] at elv
            cases elv
            rw [hkv] at ekv
            cases ekv
            have PZ := P7
            have KZ := K7
            clear gt gk
            have HKP' := Lib.hid hkp'
            have HRC := Lib.hid (Records_any (Pair.snd (walThing _ _ _ _) (Pair.fst (djThing _ _ _ _) PZ.out)) (by omega))
            go_wp2_with fail
            refine HRC.out.mono ?_
            rintro e wa ⟨rva, rfl, hoa, ba⟩
            have PA := Lib.hid ((keepThing _ _ _ _ _ _ _ _).below PZ.out ba)
            have KA : Hid (Kept (From w.heap.size) w wa) := KZ.out.trans (Kept.of_below ba)
            have HSM := Lib.hid (Fr.same_n _ _ sure sure.length wa (Fr.ListAt.of_own hoa) (Fr.ListAt.of_own (keep_sure PA.out).1) rfl (by omega))
            clear hoa ba HRC
            go_wp2_with fail
            refine HSM.out.mono ?_
            rintro e wb' ⟨rfl, bb⟩
            have PB := Lib.hid ((keepThing _ _ _ _ _ _ _ _).below PA.out bb)
            have KB : Hid (Kept (From w.heap.size) w wb') := KA.out.trans (Kept.of_below bb)
            clear bb HSM
            go_wp2
            go_roundw
            case rel => exact ⟨k + 1, wb, s', sure, late, by omega, by first | rfl | trivial, by go_num, PB.out, KB.out, HKP'.out, HSAME.out⟩
            case measure => simp [intOf]; omega
        · as_aux_lemma =>
            have hit0 : ((x.k : Int)).tmod 6 = 4 := hit
            clear hit
            have hkp' := HKP.out
            have PZ := HP
            have KZ := HK
            have HKP' := Lib.hid hkp'
            have HRC := Lib.hid (Records_any (Pair.snd (walThing _ _ _ _) (Pair.fst (djThing _ _ _ _) PZ.out)) (by omega))
            go_wp2_with fail
            refine HRC.out.mono ?_
            rintro e wa ⟨rva, rfl, hoa, ba⟩
            have PA := Lib.hid ((keepThing _ _ _ _ _ _ _ _).below PZ.out ba)
            have KA : Hid (Kept (From w.heap.size) w wa) := KZ.out.trans (Kept.of_below ba)
            have HSM := Lib.hid (Fr.same_n _ _ sure sure.length wa (Fr.ListAt.of_own hoa) (Fr.ListAt.of_own (keep_sure PA.out).1) rfl (by omega))
            clear hoa ba HRC
            go_wp2_with fail
            refine HSM.out.mono ?_
            rintro e wb' ⟨rfl, bb⟩
            have PB := Lib.hid ((keepThing _ _ _ _ _ _ _ _).below PA.out bb)
            have KB : Hid (Kept (From w.heap.size) w wb') := KA.out.trans (Kept.of_below bb)
            clear bb HSM
            go_wp2
            go_roundw
            case rel => exact ⟨k + 1, wb, s, sure, late, by omega, by first | rfl | trivial, by go_num, PB.out, KB.out, HKP'.out, HSAME.out⟩
            case measure => simp [intOf]; omega
        · as_aux_lemma =>
            have hit0 : ((x.k : Int)).tmod 6 = 5 := hit
            clear hit
            have hkp' := HKP.out
            have PZ := HP
            have KZ := HK
            have HKP' := Lib.hid hkp'
            have HRC := Lib.hid (Records_any (Pair.snd (walThing _ _ _ _) (Pair.fst (djThing _ _ _ _) PZ.out)) (by omega))
            go_wp2_with fail
            refine HRC.out.mono ?_
            rintro e wa ⟨rva, rfl, hoa, ba⟩
            have PA := Lib.hid ((keepThing _ _ _ _ _ _ _ _).below PZ.out ba)
            have KA : Hid (Kept (From w.heap.size) w wa) := KZ.out.trans (Kept.of_below ba)
            have HSM := Lib.hid (Fr.same_n _ _ sure sure.length wa (Fr.ListAt.of_own hoa) (Fr.ListAt.of_own (keep_sure PA.out).1) rfl (by omega))
            clear hoa ba HRC
            go_wp2_with fail
            refine HSM.out.mono ?_
            rintro e wb' ⟨rfl, bb⟩
            have PB := Lib.hid ((keepThing _ _ _ _ _ _ _ _).below PA.out bb)
            have KB : Hid (Kept (From w.heap.size) w wb') := KA.out.trans (Kept.of_below bb)
            clear bb HSM
            go_wp2
            go_roundw
            case rel => exact ⟨k + 1, wb, s, sure, late, by omega, by first | rfl | trivial, by go_num, PB.out, KB.out, HKP'.out, HSAME.out⟩
            case measure => simp [intOf]; omega
      · have h1i : ¬ (k : Int) < (l.length : Int) := by omega
        go_wp2
        go_ret
        exact ⟨rfl, HK.out.below (Nat.le_refl _) (fun _ h => h)⟩
end Go.Proofs.Ytnffjoflkeagfaa
