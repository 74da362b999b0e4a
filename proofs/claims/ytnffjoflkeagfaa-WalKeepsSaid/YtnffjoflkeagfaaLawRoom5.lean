/- A journal whose disk is full has what it had. -/
import Derived.Test.YtnffjoflkeagfaaPairs
namespace Go.Proofs.Ytnffjoflkeagfaa
open Go.RowKit Go.Maps

theorem one_lit (x : ByteArray) : cellsOf strC [x] = [.string x] := rfl
theorem joinB_oneL (x : ByteArray) : (Fr.joinB [x]).length = 8 + x.size := by
  have := Fr.joinB_step [x] 0 x rfl
  simpa [Fr.joinB, Fr.joinL] using this
theorem ones1s (x : ByteArray) : ∀ u ∈ [Value.string x], u.oneCell' = true := by
  intro u hu; simp at hu; subst hu; rfl
theorem mem_joinB {l : Recs} {c : ByteArray} (h : c ∈ l) : c.size + 8 ≤ (Fr.joinB l).length := (Fr.joinB_each l).2 c h
set_option maxHeartbeats 8000000 in
set_option maxRecDepth 100000 in
theorem law_room5 (room : Int) (v : Value) (l : Recs) (w : World) (hv : TxtOff (From w.heap.size) w v l) (hln : l.length ≤ 9223372036854775807) (hls : ∀ c ∈ l, c.size ≤ 9223372036854775807)
    (hr0 : -9223372036854775808 ≤ room) (hr1 : room ≤ 9223372036854775807) :
    Calls Try.prog 7 #[.int .i64 room, v] w fun e w' => e = .returned (.bool true) ∧ Below w.heap.size w w' := by
  have hw := works5_any w
  obtain ⟨va, vc, rfl⟩ := hv.slice
  have HV := Lib.hid hv
  have HLS := Lib.hid hls
  clear hv hls
  obtain ⟨i0, hi, hz0, hz1, hz2⟩ := info_parts info_str5
  go_enter Try.func7, Try.ntmps7
  go_wp2_with fail
  refine hw.mono ?_
  rintro e w0 ⟨rfl, b0⟩
  have K0 : Hid (Kept (From w.heap.size) w w0) := Kept.of_below b0
  clear b0 hw
  go_wp2
  go_loopw [6, 7] (fun n i wr => ∃ k N : Nat, k ≤ l.length ∧ i = .int .i64 k ∧ n = .int .i64 N ∧ (Fr.joinB (l.take k)).length ≤ N ∧ N ≤ 4096 ∧ wr = w0) (fun n i _ => l.length - (intOf i).toNat)
  case atStart => exact ⟨0, 0, by omega, rfl, rfl, by simp [Fr.joinB, Fr.joinL], by omega, rfl⟩
  case round =>
    obtain ⟨k, N, hk, rfl, rfl, hJ, hN, hww⟩ := hrel
    subst hww
    by_cases hlt : k < l.length
    · have hlti : (k : Int) < (l.length : Int) := by omega
      obtain ⟨x, hx⟩ : ∃ x, l[k]? = some x := ⟨l[k], List.getElem?_eq_getElem hlt⟩
      obtain ⟨ab, aoff, rfl, hac, _, _, d0⟩ := txt_cell (HV.out.kept K0.out).1 hx
      have hxs := HLS.out x (List.mem_of_getElem? hx)
      have HST := Lib.hid (Fr.joinB_step l k x hx)
      obtain ⟨p2, hp2⟩ : ∃ p, p = min x.size 4096 := ⟨_, rfl⟩
      have m2 : min ((x.size : Nat) : Int) 4096 = (p2 : Int) := by omega
      have m3 : min ((N : Nat) : Int) 4096 = (N : Int) := by omega
      have q2 : p2 ≤ 4096 := by omega
      have HP2 := Lib.hid hp2
      clear hx hp2
      by_cases hb : 4096 < N + p2 + 8
      · have hbi : (4096 : Int) < (N : Int) + (p2 : Int) + 8 := by omega
        go_wp2_with fail
        try (go_quiet (fail))
        go_wp2
        go_ret
        exact ⟨rfl, by first | exact K0.out.below (Nat.le_refl _) (fun _ h => h) | exact below_drewN (K0.out.below (Nat.le_refl _) (fun _ h => h)) _⟩
      · have hbi : ¬ (4096 : Int) < (N : Int) + (p2 : Int) + 8 := by omega
        go_wp2_with fail
        try (go_quiet (fail))
        go_wp2
        go_roundw
        case rel => exact ⟨k + 1, N + p2 + 8, by omega, by go_num, by first | rfl | (push_cast; rfl), by have := HST.out; have := HP2.out; omega, by omega, by first | rfl | trivial⟩
        case measure => simp [intOf]; omega
    · have hlti : ¬ (k : Int) < (l.length : Int) := by omega
      have hke : l.take k = l := List.take_of_length_le (by omega)
      rw [hke] at hJ
      have HJ : Hid ((Fr.joinB l).length ≤ 4096) := by show _ ≤ _; omega
      have hll : l.length ≤ 512 := by have := (Fr.joinB_each l).1; omega
      clear hke hJ
      obtain ⟨wo, hwo⟩ : ∃ wo : World, wo = wr := ⟨_, rfl⟩
      subst hwo
      go_wp2_with fail
      refine (New_any (S := From w.heap.size) wo (fun k hk => Nat.le_trans K0.out.size hk) room hr1).mono ?_
      rintro e w1 ⟨rfl, d1, b1⟩
      have D1 := Lib.hid d1
      have K1 : Hid (Kept (From w.heap.size) w w1) := K0.out.trans (Kept.of_below b1)
      clear d1 b1
      generalize hdb : wo.heap.size = db at *
      clear hdb
      go_wp2_with fail
      refine (Open_some D1.out (fun k hk => Nat.le_trans K1.out.size hk) (by simp [newS]) (by simp [newS, usedF]) (open_new room)).mono ?_
      rintro e w2 ⟨wb, rfl, q2, k2⟩
      have P2 : Hid (Pair (DJ db wb (newS room) []) (RowQ (.slice none 0 0) []) (From w.heap.size) w2) := Pair.of (djThing _ _ _ _) (rowThing _ _) q2 (Below.refl _ _) ⟨World.ownsRow_nil _ _ _ _, fun g hg => by simp [Value.ownBlock] at hg⟩ (fun k hk => Nat.le_trans (K1.out.trans k2).size hk)
      have K2 : Hid (Kept (From w.heap.size) w w2) := K1.out.trans k2
      have hrm : max room 0 = ((newS room).room : Int) := by simp only [newS]; omega
      have HRI : Hid ((newS room).room ≤ 9223372036854775807) := by show _ ≤ _; simp only [newS]; omega
      have hri := HRI.out
      clear q2 k2
      generalize hR : (newS room).room = R at *
      have HR := Lib.hid hR
      clear hR
      go_wp2
      go_loopw [11, 12, 13] (fun wv lf i wr => ∃ (k : Nat) (s : St) (want : Recs), k ≤ l.length ∧ i = .int .i64 k ∧ lf = .int .i64 ((R : Int) - ((Fr.joinB want).length : Int)) ∧ Pair (DJ db wb s want) (RowQ wv want) (From w.heap.size) wr ∧ Kept (From w.heap.size) w wr ∧
        s.down = false ∧ s.waits = false ∧ Con s (Fr.joinB want) (Fr.joinB want).length ∧ (Fr.joinB want).length ≤ (Fr.joinB (l.take k)).length ∧ want.length ≤ k ∧ s.room = R ∧ (Fr.joinB want).length ≤ R ∧ Hid (∀ c ∈ want, c ∈ l)) (fun wv lf i _ => l.length - (intOf i).toNat)
      case atStart => exact ⟨0, _, [], by omega, rfl, by rw [← hrm]; first | rfl | simp [Fr.joinB, Fr.joinL], P2.out, K2.out, rfl, rfl, con_new room, by simp [Fr.joinB, Fr.joinL], by simp, HR.out, by simp [Fr.joinB, Fr.joinL], fun c hc => by simp at hc⟩
      case round =>
        obtain ⟨k, s, want, hk, rfl, rfl, hp, hkp, hd, hwt, hcon, hjw, hwl, hrm2, hjR, hmem⟩ := hrel
        have HP := Lib.hid hp
        have HK := Lib.hid hkp
        have hq : RowS (From w.heap.size) wr _ want := Pair.snd (rowThing _ _) hp
        obtain ⟨wa, wcp, rfl⟩ := hq.slice
        have HCON := Lib.hid hcon
        have hkb := hkp.size
        have hsmJ := Fr.joinB_take l k
        clear hp hkp hq
        by_cases hlt : k < l.length
        · have hlti : (k : Int) < (l.length : Int) := by omega
          obtain ⟨x, hx⟩ : ∃ x, l[k]? = some x := ⟨l[k], List.getElem?_eq_getElem hlt⟩
          obtain ⟨ab, aoff, rfl, hac, _, hab, d0⟩ := txt_cell (HV.out.kept HK.out).1 hx
          have hxj := mem_joinB (List.mem_of_getElem? hx)
          have hxs : x.size ≤ 4096 := by have := HJ.out; omega
          have hus := hcon.used
          have hct := hcon.count
          have HCALL := Lib.hid (wAppend_blit (rowThing _ _) HP.out (fun j hj => Nat.le_trans hkb hj) (l := [x]) (by omega) (by have := HJ.out; omega) 9 (fun c hc => by rw [List.mem_singleton.1 hc]; omega) (by simp) (by omega) (by simp))
          have HXX := Lib.hid hx
          have HMEM := Lib.hid (List.mem_of_getElem? hx)
          have hst := Fr.joinB_step l k x hx
          have hj1 := joinB_oneL x
          clear hx
          rcases write_cases hcon hd want [x] with ⟨hf, he⟩ | ⟨_, s', _, hw', _⟩ | ⟨hf, s', he, hd', hw', hr', hfs⟩
          · rw [he] at HCALL
            have hfi : ¬ (x.size : Int) ≤ (R : Int) - ((Fr.joinB want).length : Int) - 8 := by rw [hrm2] at hf; omega
            clear hcon he hf
            go_wp2_with fail
            refine HCALL.out.mono ?_
            rintro e w7 ⟨rfl, p7, k7⟩
            have P7 := Lib.hid p7
            have K7 : Hid (Kept (From w.heap.size) w w7) := HK.out.trans k7
            obtain ⟨_, _, e7, _, _, _, d7⟩ := txt_cell (HV.out.kept K7.out).1 HXX.out
            cases e7
            clear p7 k7 HCALL
            go_wp2
            go_roundw
            case rel => exact ⟨k + 1, s, want, by omega, by go_num, rfl, P7.out, K7.out, hd, hwt, HCON.out, by omega, by omega, hrm2, hjR, hmem⟩
            case measure => simp [intOf]; omega
          · rw [hwt] at hw'; cases hw'
          · rw [he] at HCALL
            have hfi : (x.size : Int) ≤ (R : Int) - ((Fr.joinB want).length : Int) - 8 := by rw [hrm2] at hf; omega
            have hja : (Fr.joinB (want ++ [x])).length = (Fr.joinB want).length + (8 + x.size) := by rw [joinB_app, List.length_append, hj1]
            have HCON' : Hid (Con s' (Fr.joinB (want ++ [x])) (Fr.joinB (want ++ [x])).length) := by
              show Con _ _ _
              rw [joinB_app]
              exact .inr ⟨true, hfs⟩
            have hR' : s'.room = R := hr'.trans hrm2
            have hwt' := hw' hwt
            have HJA := Lib.hid hja
            clear hcon he hf hw' hr' hfs hja
            go_wp2_with fail
            refine HCALL.out.mono ?_
            rintro e w7 ⟨rfl, p7, k7⟩
            have P7 := Lib.hid p7
            have K7 : Hid (Kept (From w.heap.size) w w7) := HK.out.trans k7
            obtain ⟨_, _, e7, _, _, _, d7⟩ := txt_cell (HV.out.kept K7.out).1 HXX.out
            cases e7
            have hrow7 : RowS (From w.heap.size) w7 _ want := Pair.snd (rowThing _ _) p7
            have HR7 := Lib.hid hrow7.1
            clear p7 k7 HCALL hrow7
            go_wp2_with (at_builtin; go_loud (refine wpList_append_row rfl _ _ 41 rfl 0 9 i0 (.string ⟨#[]⟩) 1 16 Try.underlying41 hi hz0 hz1 hz2 rfl (by decide) _ _ _ rfl (HR7.out.alloc _) _ 1 [.string x] rfl (.inr ⟨⟨_, 0, none⟩, _, rfl, newsAt _ _ [.string x] _ (by simp)⟩) rfl (ones1s x) (by unfold maxLen; omega) (by omega) (Nat.zero_le _) ?_))
            intro v8 w8 ho hg hat
            obtain ⟨a8, c8, rfl⟩ := row_slice ho
            have hup := Pair.upd2 (djThing _ _ _ _) (rowThing _ _) (rowThing (.slice a8 (want.length + 1) c8) (want ++ [x])) (w' := w8) P7.out (fun j hj => Nat.le_trans K7.out.size hj) (fun T hT _ hq => row_grow hq hT ((Below.refl _ w7).alloc (Nat.le_refl _) _) hg (by have := ho; simpa [cellsOf] using this) (hat.imp id (fun e => e.trans (by simp))))
            have P8 := Lib.hid hup.1
            have K8 : Hid (Kept (From w.heap.size) w w8) := K7.out.trans hup.2
            obtain ⟨_, _, e8, _, _, _, d8⟩ := txt_cell (HV.out.kept K8.out).1 HXX.out
            cases e8
            clear ho hg hat hup d7
            go_wp2
            go_roundw
            case rel =>
              refine ⟨k + 1, s', want ++ [x], by omega, by go_num, ?_, P8.out, K8.out, hd', hwt', HCON'.out, by have := HJA.out; omega, by simp; omega, hR', by have := HJA.out; omega, fun c hc => ?_⟩
              · rw [HJA.out]; congr 1; omega
              · rcases List.mem_append.1 hc with hc | hc
                · exact hmem c hc
                · rw [List.mem_singleton.1 hc]; exact HMEM.out
            case measure => simp [intOf]; omega
        · have hlti : ¬ (k : Int) < (l.length : Int) := by omega
          have hsz : ∀ c ∈ want, c.size ≤ 65536 := fun c hc => by have := mem_joinB (hmem c hc); have := HJ.out; omega
          obtain ⟨s2, sy2, ho2, _, _, _, _, _⟩ := open_con hcon hd hwt
          obtain ⟨hs1, hs2⟩ := Fr.scan_all want hsz
          rw [hs1] at ho2
          have hus := hcon.used
          have hct := hcon.count
          have HOP := Lib.hid (Open_beside (pairThing (walThing _ _ _ _) (rowThing _ _)) (Pair.assoc HP.out) (fun j hj => Nat.le_trans hkb hj) (by omega) (by have := HJ.out; omega) ho2)
          clear hcon ho2 hs1 hs2 hsz hmem
          go_wp2_with fail
          refine HOP.out.mono ?_
          rintro e w7 ⟨⟨vb, rfl, p7⟩, k7⟩
          have P7 := Lib.hid p7
          have K7 : Hid (Kept (From w.heap.size) w w7) := HK.out.trans k7
          have HRC := Lib.hid (Records_any (Pair.fst (walThing _ _ _ _) (Pair.snd (pairThing (walThing _ _ _ _) (rowThing _ _)) p7)) (by omega))
          clear p7 k7 HOP
          go_wp2_with fail
          refine HRC.out.mono ?_
          rintro e w8 ⟨rv1, rfl, ho1, b8⟩
          have P8 := Lib.hid ((pairThing (djThing _ _ _ _) (pairThing (walThing _ _ _ _) (rowThing _ _))).below P7.out b8)
          have K8 : Hid (Kept (From w.heap.size) w w8) := K7.out.trans (Kept.of_below b8)
          have hrw8 : RowS (From w.heap.size) w8 _ want := Pair.snd (rowThing _ _) (Pair.snd (pairThing (walThing _ _ _ _) (rowThing _ _)) P8.out)
          have HSM := Lib.hid (Fr.same_n _ _ want want.length w8 (Fr.ListAt.of_own ho1) (Fr.ListAt.of_own hrw8.1) rfl (by omega))
          clear ho1 b8 HRC hrw8
          go_wp2_with fail
          refine HSM.out.mono ?_
          rintro e w9 ⟨rfl, b9⟩
          have P9 := Lib.hid ((pairThing (djThing _ _ _ _) (pairThing (walThing _ _ _ _) (rowThing _ _))).below P8.out b9)
          have K9 : Hid (Kept (From w.heap.size) w w9) := K8.out.trans (Kept.of_below b9)
          have HRC2 := Lib.hid (Records_any (Pair.snd (walThing _ _ _ _) (Pair.fst (djThing _ _ _ _) P9.out)) (by omega))
          clear b9 HSM
          go_wp2_with fail
          refine HRC2.out.mono ?_
          rintro e w10 ⟨rv2, rfl, ho2, b10⟩
          have P10 := Lib.hid ((pairThing (djThing _ _ _ _) (pairThing (walThing _ _ _ _) (rowThing _ _))).below P9.out b10)
          have K10 : Hid (Kept (From w.heap.size) w w10) := K9.out.trans (Kept.of_below b10)
          have hrw10 : RowS (From w.heap.size) w10 _ want := Pair.snd (rowThing _ _) (Pair.snd (pairThing (walThing _ _ _ _) (rowThing _ _)) P10.out)
          have HSM2 := Lib.hid (Fr.same_n _ _ want want.length w10 (Fr.ListAt.of_own ho2) (Fr.ListAt.of_own hrw10.1) rfl (by omega))
          clear ho2 b10 HRC2 hrw10
          go_wp2_with fail
          refine HSM2.out.mono ?_
          rintro e w11 ⟨rfl, b11⟩
          have K11 : Hid (Kept (From w.heap.size) w w11) := K10.out.trans (Kept.of_below b11)
          clear b11 HSM2
          go_wp2
          go_ret
          exact ⟨rfl, K11.out.below (Nat.le_refl _) (fun _ h => h)⟩
end Go.Proofs.Ytnffjoflkeagfaa
