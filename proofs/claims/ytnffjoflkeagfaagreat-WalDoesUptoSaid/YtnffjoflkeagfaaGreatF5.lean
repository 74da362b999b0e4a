/- The reference's Unframe. The reference's Scan and Join. -/
import Derived.Test.YtnffjoflkeagfaaGreatF4
namespace Go.Proofs.YtnffjoflkeagfaaGreat.Fr
open Go.RowKit

set_option maxHeartbeats 1000000 in
theorem refUnframe_bad (s : ByteArray) (a : Int) (w : World) (h0 : -9223372036854775808 ≤ a) (h1 : a ≤ 9223372036854775807) (hs : s.size ≤ 1099511627776) (ha : a < 0 ∨ (s.size : Int) < a) :
    Calls Tryz.prog 72 #[.string s, .int .i64 a] w fun e w' => e = .returned (.tuple #[.string ⟨#[]⟩, .int .i64 a, .int .i64 1]) ∧ w = w' := by
  rcases ha with ha | ha
  · go_enter Tryz.func72, Tryz.ntmps72
    go_wp2
    go_ret3
    exact ⟨rfl, rfl⟩
  · have h2 : ¬ a < 0 := by omega
    go_enter Tryz.func72, Tryz.ntmps72
    go_wp2
    go_ret3
    exact ⟨rfl, rfl⟩
theorem fS_bad {l : List UInt8} (h : fE l ≠ 0) : fS l = ⟨#[]⟩ ∧ fK l = 0 := ⟨by unfold fS; rw [if_neg h], by unfold fK; rw [if_neg h]⟩
set_option maxHeartbeats 8000000 in
set_option maxRecDepth 100000 in
theorem refUnframe_at (s : ByteArray) (a : Nat) (w : World) (hs : s.size ≤ 1099511627776) (ha : a ≤ s.size) :
    Calls Tryz.prog 72 #[.string s, .int .i64 a] w fun e w' => e = .returned (.tuple #[.string (fS ((bs s).drop a)), .int .i64 ((a + fK ((bs s).drop a) : Nat) : Nat), .int .i64 (fE ((bs s).drop a))]) ∧ Below w.heap.size w w' := by
  have hai : ¬ (s.size : Int) < (a : Int) := by omega
  have ha0 : ¬ (a : Int) < 0 := by omega
  have hl : ((bs s).drop a).length = s.size - a := by rw [List.length_drop, bs_size]
  by_cases h8 : s.size - a < 8
  · have h8i : (s.size : Int) - (a : Int) < 8 := by omega
    have hE := Lib.hid (fE_short (l := (bs s).drop a) (by omega))
    have hB := Lib.hid (fS_bad (l := (bs s).drop a) (by rw [hE.out]; decide))
    clear hl
    go_enter Tryz.func72, Tryz.ntmps72
    go_wp2
    go_ret3
    exact ⟨ret3v (by rw [hB.out.1]; rfl) (by rw [hB.out.2]; rfl) (by rw [hE.out]), Below.refl _ _⟩
  have h8i : ¬ (s.size : Int) - (a : Int) < 8 := by omega
  have hnum := fun w' => refNumber_any s a w' hs (by omega)
  have hn32 := num4_lt ((bs s).drop a)
  by_cases hbig : 65536 < num4 ((bs s).drop a)
  · have hE := Lib.hid (fE_long (l := (bs s).drop a) (by omega) hbig)
    have hB := Lib.hid (fS_bad (l := (bs s).drop a) (by rw [hE.out]; decide))
    have hbi : (65536 : Int) < (num4 ((bs s).drop a) : Nat) := by omega
    clear hl
    generalize num4 ((bs s).drop a) = n at *
    go_enter Tryz.func72, Tryz.ntmps72
    go_wp2_with fail
    refine (hnum _).mono ?_
    rintro e w1 ⟨rfl, q, rfl⟩
    go_wp2
    go_ret3
    exact ⟨ret3v (by rw [hB.out.1]; rfl) (by rw [hB.out.2]; rfl) (by rw [hE.out]), below_drewN (Below.refl _ _) q⟩
  have hbi : ¬ (65536 : Int) < (num4 ((bs s).drop a) : Nat) := by omega
  by_cases hless : s.size - a - 8 < num4 ((bs s).drop a)
  · have hE := Lib.hid (fE_less (l := (bs s).drop a) (by omega) hbig (by omega))
    have hB := Lib.hid (fS_bad (l := (bs s).drop a) (by rw [hE.out]; decide))
    have hli : (s.size : Int) - (a : Int) - 8 < (num4 ((bs s).drop a) : Nat) := by omega
    clear hl hbig hless
    generalize num4 ((bs s).drop a) = n at *
    go_enter Tryz.func72, Tryz.ntmps72
    go_wp2_with fail
    refine (hnum _).mono ?_
    rintro e w1 ⟨rfl, q, rfl⟩
    go_wp2
    go_ret3
    exact ⟨ret3v (by rw [hB.out.1]; rfl) (by rw [hB.out.2]; rfl) (by rw [hE.out]), below_drewN (Below.refl _ _) q⟩
  have hli : ¬ (s.size : Int) - (a : Int) - 8 < (num4 ((bs s).drop a) : Nat) := by omega
  have hfB : bs (s.extract (a + 8) (a + 8 + num4 ((bs s).drop a))) = fB ((bs s).drop a) := by
    rw [bs_extract]; unfold fB; rw [List.drop_drop]; congr 1; omega
  have hh4 : bs (s.extract a (a + 4)) = ((bs s).drop a).take 4 := by rw [bs_extract]; congr 1; omega
  have hcp : s.extract (a + 8) (a + 8 + num4 ((bs s).drop a)) = mk (fB ((bs s).drop a)) := ba_ext (by rw [hfB]; rfl)
  have hlB : (fB ((bs s).drop a)).length ≤ num4 ((bs s).drop a) := by unfold fB; rw [List.length_take]; omega
  have hz1 : (s.extract a (a + 4)).size = 4 := by rw [← bs_size, hh4, List.length_take]; omega
  have hz2 : (s.extract (a + 8) (a + 8 + num4 ((bs s).drop a))).size ≤ 1048576 := by rw [hcp, mk_size]; omega
  have hsm := fun w' => refSum_any (s.extract a (a + 4) ++ s.extract (a + 8) (a + 8 + num4 ((bs s).drop a))) w' (by rw [app_size]; omega)
  rw [bs_append, hh4, hfB] at hsm
  have hnum4 := fun w' => refNumber_any s (a + 4) w' hs (by omega)
  rw [← List.drop_drop] at hnum4
  have HCP := Lib.hid hcp
  have hn32b := num4_lt (((bs s).drop a).drop 4)
  have hs32 := sumL_lt (((bs s).drop a).take 4 ++ fB ((bs s).drop a))
  have hl1 : (s.extract a (a + 4)).size + (s.extract (a + 8) (a + 8 + num4 ((bs s).drop a))).size ≤ 9223372036854775807 := by omega
  have wa : IntKind.i64.wrap ((a : Int) + 4) = ((a + 4 : Nat) : Int) := by rw [IntWalk.i64_in _ (by omega)]; omega
  have ta : ((a + 4 : Nat) : Int).toNat = a + 4 := by omega
  have hae : (a : Int) ≤ ((a + 4 : Nat) : Int) := by omega
  have hae2 : ((a + 4 : Nat) : Int) ≤ (s.size : Int) := by omega
  by_cases hsum : sumL (((bs s).drop a).take 4 ++ fB ((bs s).drop a)) = num4 (((bs s).drop a).drop 4)
  · have hE := Lib.hid (fE_ok (l := (bs s).drop a) (by omega) hbig (by omega) hsum)
    have hF := Lib.hid (show fS ((bs s).drop a) = mk (fB ((bs s).drop a)) ∧ fK ((bs s).drop a) = 8 + num4 ((bs s).drop a) from ⟨by unfold fS; rw [if_pos hE.out], by unfold fK; rw [if_pos hE.out]⟩)
    have hni : (((num4 (((bs s).drop a).drop 4) : Nat) : Int) != ((sumL (((bs s).drop a).take 4 ++ fB ((bs s).drop a)) : Nat) : Int)) = false := by rw [hsum]; simp
    clear hl hbig hless hsum hcp hfB hh4
    generalize num4 ((bs s).drop a) = n at *
    generalize num4 (((bs s).drop a).drop 4) = n4 at *
    generalize sumL (((bs s).drop a).take 4 ++ fB ((bs s).drop a)) = S at *
    have HZ1 := Lib.hid hz1
    have HWA := Lib.hid wa
    have HTA := Lib.hid ta
    clear hz1 wa ta
    go_enter Tryz.func72, Tryz.ntmps72
    go_wp2_with fail
    refine (hnum _).mono ?_
    rintro e w1 ⟨rfl, q, hq⟩
    have b1 : Below w.heap.size w w1 := by rw [hq]; exact below_drewN (Below.refl w.heap.size w) q
    clear hq
    go_wp2
    have wa := HWA.out
    have ta := HTA.out
    go_quiet ((first
      | (go_at_call 86; exact Calls.quiet_of (hnum4 _))
      | (go_at_call 87; exact Calls.quiet_of_same ((hsm _).mono (fun _ _ hh => ⟨hh.1, hh.2.symm⟩)))))
    clear wa ta
    go_wp2
    go_ret3
    exact ⟨ret3v (by rw [hF.out.1, ← HCP.out]; rfl) (by rw [hF.out.2]; omega) (by rw [hE.out]), below_drewN b1 _⟩
  · have hE := Lib.hid (fE_sum (l := (bs s).drop a) (by omega) hbig (by omega) hsum)
    have hB := Lib.hid (fS_bad (l := (bs s).drop a) (by rw [hE.out]; decide))
    have hni : (((num4 (((bs s).drop a).drop 4) : Nat) : Int) != ((sumL (((bs s).drop a).take 4 ++ fB ((bs s).drop a)) : Nat) : Int)) = true := by rw [bne_iff_ne]; omega
    clear hl hbig hless hsum hcp hfB hh4
    generalize num4 ((bs s).drop a) = n at *
    generalize num4 (((bs s).drop a).drop 4) = n4 at *
    generalize sumL (((bs s).drop a).take 4 ++ fB ((bs s).drop a)) = S at *
    have HZ1 := Lib.hid hz1
    have HWA := Lib.hid wa
    have HTA := Lib.hid ta
    clear hz1 wa ta
    go_enter Tryz.func72, Tryz.ntmps72
    go_wp2_with fail
    refine (hnum _).mono ?_
    rintro e w1 ⟨rfl, q, hq⟩
    have b1 : Below w.heap.size w w1 := by rw [hq]; exact below_drewN (Below.refl w.heap.size w) q
    clear hq
    go_wp2
    have wa := HWA.out
    have ta := HTA.out
    go_quiet ((first
      | (go_at_call 86; exact Calls.quiet_of (hnum4 _))
      | (go_at_call 87; exact Calls.quiet_of_same ((hsm _).mono (fun _ _ hh => ⟨hh.1, hh.2.symm⟩)))))
    clear wa ta
    go_wp2
    go_ret3
    exact ⟨ret3v (by rw [hB.out.1]; rfl) (by rw [hB.out.2]; rfl) (by rw [hE.out]), below_drewN b1 _⟩
end Go.Proofs.YtnffjoflkeagfaaGreat.Fr
namespace Go.Proofs.YtnffjoflkeagfaaGreat.Fr
open Go.RowKit

set_option maxHeartbeats 4000000 in
set_option maxRecDepth 100000 in
theorem refScan_any (s : ByteArray) (w : World) (hs : s.size ≤ 1099511627776) :
    Calls Tryz.prog 40 #[.string s] w fun e w' => ∃ v, e = .returned (.tuple #[v, .int .i64 (scanN (bs s) : Nat)]) ∧ w'.ownsRow w.heap.size 9 1 v (scanT (bs s)).length (cellsOf strC (scanT (bs s))) ∧ Below w.heap.size w w' := by
  obtain ⟨i0, hi, hz0, hz1, hz2⟩ := info_parts info_str
  have hlen := bs_size s
  have HLEN := Lib.hid hlen
  clear hlen
  go_enter Tryz.func40, Tryz.ntmps40
  go_wp2
  go_loopw [4, 5] (fun v i wr => ∃ (a n : Nat) (xs : List ByteArray), a ≤ s.size ∧ i = .int .i64 a ∧ 8 * n ≤ a ∧ wr.ownsRow w.heap.size 9 1 v n (cellsOf strC xs) ∧ Below w.heap.size w wr ∧ Hid (xs.length = n) ∧ SRel (bs s) a xs)
    (fun _ i _ => s.size - (intOf i).toNat)
  case atStart => exact ⟨0, 0, [], by omega, rfl, by omega, World.ownsRow_nil _ _ _ _, Below.refl _ _, rfl, SRel.start _⟩
  case round =>
    obtain ⟨a, n, xs, ha, rfl, hn8, hown, hbel, HX, hrel⟩ := hrel
    have HR := Lib.hid hrel
    clear hrel
    have haI : (a : Int) ≤ (s.size : Int) := by omega
    have hsw := hbel.size
    have hu := refUnframe_at s a wr hs ha
    by_cases hE : fE ((bs s).drop a) = 0
    · have hSt := Lib.hid (HR.out.step hE)
      have hK := Lib.hid (show fK ((bs s).drop a) = 8 + num4 ((bs s).drop a) by unfold fK; rw [if_pos hE])
      have hp := (fE_parts hE).2.2.1
      rw [List.length_drop, HLEN.out] at hp
      rw [hE] at hu
      have hK8 : 8 ≤ fK ((bs s).drop a) ∧ a + fK ((bs s).drop a) ≤ s.size := by rw [hK.out]; omega
      clear hE
      generalize fS ((bs s).drop a) = S at *
      generalize fK ((bs s).drop a) = K at *
      go_wp2_with fail
      refine hu.mono ?_
      rintro e w2 ⟨rfl, b2⟩
      have hown2 := own_below hown b2
      have hbel2 := hbel.trans (b2.mono hsw)
      have hsw2 := b2.size
      clear hown hbel
      go_wp2_with (at_builtin; refine wpList_append_own _ rfl _ _ 35 rfl w.heap.size 9 i0 (.string ⟨#[]⟩) 1 16 Tryz.underlying35 hi hz0 hz1 hz2 rfl (by decide) _ _ _ rfl (hown2.alloc _) ⟨w2.heap.size, 0, none⟩ 1 1 [.string S] rfl rfl ?c1 ?c2 ?c3 ?c4 ?c5 ?_)
      case c1 =>
        intro i u hu
        match i, hu with
        | 0, hu => simp at hu; subst hu; simp [Addr.add]
      case c2 => intro u hu; simp at hu; subst hu; rfl
      case c3 => unfold maxLen; omega
      case c4 => omega
      case c5 => simp; omega
      intro v' w3 hown' hgrow _
      have hb3 : Below w.heap.size w w3 := (hbel2.alloc (by omega) _).grown hgrow (by simp; omega) (fun k hk => (hown2.lt k hk).1)
      have HOW := Lib.hid hown'
      clear hown2 hgrow hbel2 hown'
      go_wp2
      go_roundw
      case rel => exact ⟨a + K, n + 1, xs ++ [S], by omega, by go_num, by omega, by simpa [cellsOf] using HOW.out, hb3, by show _ = _; rw [List.length_append, HX]; rfl, hSt.out⟩
      case measure => simp [intOf]; omega
    · have hSp := Lib.hid (HR.out.stop hE)
      have hEb : (fE ((bs s).drop a) != 0) = true := by simpa using hE
      clear hE
      generalize fS ((bs s).drop a) = S at *
      generalize fE ((bs s).drop a) = E at *
      go_wp2_with fail
      refine hu.mono ?_
      rintro e w2 ⟨rfl, b2⟩
      have HOW := Lib.hid (own_below hown b2)
      have hbel2 := hbel.trans (b2.mono hsw)
      clear hown hbel
      go_wp2
      go_ret2
      refine ⟨_, ret2s rfl (by rw [hSp.out.2]), ?_, hbel2⟩
      rw [hSp.out.1, HX]
      exact HOW.out

set_option maxHeartbeats 4000000 in
set_option maxRecDepth 100000 in
theorem refJoin_any (v : Value) (l : List ByteArray) (w : World) (hl : ListAt w v l.length (cellsOf strC l)) (hn : l.length ≤ 1048576) (hall : ∀ c ∈ l, c.size ≤ 65536) :
    Calls Tryz.prog 42 #[v] w fun e w' => e = .returned (.tuple #[.string (mk (joinB l)), .int .i64 0]) ∧ Below w.heap.size w w' := by
  obtain ⟨_, aa, cap, rfl, _, hc⟩ := hl
  have HC := Lib.hid hc
  have hjl := joinB_le l hall
  have HA := Lib.hid hall
  clear hall hc
  go_enter Tryz.func42, Tryz.ntmps42
  go_wp2
  go_loopw [4, 5] (fun vs i wr => ∃ (k : Nat) (S : ByteArray), k ≤ l.length ∧ i = .int .i64 k ∧ vs = .string S ∧ Hid (S = mk (joinB (l.take k))) ∧ Below w.heap.size w wr) (fun _ i _ => l.length - (intOf i).toNat)
  case atStart => exact ⟨0, ⟨#[]⟩, by omega, rfl, rfl, rfl, Below.refl _ _⟩
  case round =>
    obtain ⟨k, S, hk, rfl, rfl, HS, hbel⟩ := hrel
    by_cases hlt : k < l.length
    · obtain ⟨x, hx⟩ : ∃ x, l[k]? = some x := ⟨l[k], List.getElem?_eq_getElem hlt⟩
      obtain ⟨ba, offa, rfl, hba, hca⟩ := HC.out.resolve_left (by omega)
      have c1 := (hbel.cell (p := ⟨ba, offa + k, none⟩) hba).trans (ListAt.get hca hx)
      have hxs := HA.out x (List.mem_of_getElem? hx)
      have hst := joinB_step l k x hx
      have hle2 := joinB_take l (k + 1)
      have hSz : S.size + (mk (frameL (bs x))).size ≤ 9223372036854775807 := by
        have e1 : S.size = (joinB (l.take k)).length := by rw [HS, mk_size]
        rw [mk_size, frameL_length, bs_size]; omega
      have HJ : Hid (S ++ mk (frameL (bs x)) = mk (joinB (l.take (k + 1)))) := by
        show _ = _
        apply ba_ext
        rw [bs_append, HS, bs_mk, bs_mk, bs_mk, joinB_snoc l k x hx]
      have hf := fun w' => refFrame_any x w' hxs
      clear hca hx hst hle2 HS
      generalize mk (frameL (bs x)) = F at *
      have hbs := hbel.size
      go_wp2_with fail
      refine (hf _).mono ?_
      rintro e w2 ⟨rfl, b2⟩
      have b3 := hbel.trans (b2.mono hbs)
      clear hbel b2
      go_wp2
      go_roundw
      case rel => exact ⟨k + 1, S ++ F, by omega, by go_num, rfl, HJ, b3⟩
      case measure => simp [intOf]; omega
    · have HT := Lib.hid (show l.take k = l from List.take_of_length_le (by omega))
      go_wp2
      go_ret2
      exact ⟨ret2s (by rw [← HT.out, ← HS]; rfl) rfl, hbel⟩
end Go.Proofs.YtnffjoflkeagfaaGreat.Fr
