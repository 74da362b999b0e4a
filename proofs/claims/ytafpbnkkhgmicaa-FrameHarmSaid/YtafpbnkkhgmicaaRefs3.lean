/- The reference's Scan and Join. -/
import Derived.Test.YtafpbnkkhgmicaaRefs2
namespace Go.Proofs.Ytafpbnkkhgmicaa
open Go.RowKit

set_option maxHeartbeats 4000000 in
set_option maxRecDepth 100000 in
theorem refScan_any (s : ByteArray) (w : World) (hs : s.size ≤ 1099511627776) :
    Calls Try.prog 15 #[.string s] w fun e w' => ∃ v, e = .returned (.tuple #[v, .int .i64 (scanN (bs s) : Nat)]) ∧ ListNew w.heap.size w' v (scanT (bs s)).length (cellsOf strC (scanT (bs s))) ∧ Below w.heap.size w w' := by
  obtain ⟨i0, hi, hz0, hz1, hz2⟩ := info_parts info_str
  have hlen := bs_size s
  have HLEN := Lib.hid hlen
  clear hlen
  go_enter Try.func15, Try.ntmps15
  go_wp2
  go_loopw [4, 5] (fun v i wr => ∃ (a n : Nat) (xs : List ByteArray), a ≤ s.size ∧ i = .int .i64 a ∧ 8 * n ≤ a ∧ wr.ownsRow w.heap.size 9 1 v n (cellsOf strC xs) ∧ Below w.heap.size w wr ∧ Hid (xs.length = n) ∧ SRel (bs s) a xs)
    (fun _ i _ => s.size - (intOf i).toNat)
  case atStart => exact ⟨0, 0, [], by omega, rfl, by omega, World.ownsRow_nil _ _ _ _, Below.refl _ _, rfl, SRel.start _⟩
  case round =>
    obtain ⟨a, n, xs, ha, rfl, hn8, hown, hbel, HX, hrel⟩ := hrel
    have HR := Lib.hid hrel
    clear hrel
    have haI : (a : Int) ≤ (s.size : Int) := by omega
    have hsw := hbel.size
    have hu := refUnframe_at s a wr hs ha
    by_cases hE : fE ((bs s).drop a) = 0
    · have hSt := Lib.hid (HR.out.step hE)
      have hK := Lib.hid (show fK ((bs s).drop a) = 8 + num4 ((bs s).drop a) by unfold fK; rw [if_pos hE])
      have hp := (fE_parts hE).2.2.1
      rw [List.length_drop, HLEN.out] at hp
      rw [hE] at hu
      have hK8 : 8 ≤ fK ((bs s).drop a) ∧ a + fK ((bs s).drop a) ≤ s.size := by rw [hK.out]; omega
      clear hE
      generalize fS ((bs s).drop a) = S at *
      generalize fK ((bs s).drop a) = K at *
      go_wp2_with fail
      refine hu.mono ?_
      rintro e w2 ⟨rfl, b2⟩
      have hown2 := own_below hown b2
      have hbel2 := hbel.trans (b2.mono hsw)
      have hsw2 := b2.size
      clear hown hbel
      go_wp2_with (at_builtin; refine wpList_append_own _ rfl _ _ 29 rfl w.heap.size 9 i0 (.string ⟨#[]⟩) 1 16 Try.underlying29 hi hz0 hz1 hz2 rfl (by decide) _ _ _ rfl (hown2.alloc _) ⟨w2.heap.size, 0, none⟩ 1 1 [.string S] rfl rfl ?c1 ?c2 ?c3 ?c4 ?c5 ?_)
      case c1 =>
        intro i u hu
        match i, hu with
        | 0, hu => simp at hu; subst hu; simp [Addr.add]
      case c2 => intro u hu; simp at hu; subst hu; rfl
      case c3 => unfold maxLen; omega
      case c4 => omega
      case c5 => simp; omega
      intro v' w3 hown' hgrow _
      have hb3 : Below w.heap.size w w3 := (hbel2.alloc (by omega) _).grown hgrow (by simp; omega) (fun k hk => (hown2.lt k hk).1)
      have HOW := Lib.hid hown'
      clear hown2 hgrow hbel2 hown'
      go_wp2
      go_roundw
      case rel => exact ⟨a + K, n + 1, xs ++ [S], by omega, by go_num, by omega, by simpa [cellsOf] using HOW.out, hb3, by show _ = _; rw [List.length_append, HX]; rfl, hSt.out⟩
      case measure => simp [intOf]; omega
    · have hSp := Lib.hid (HR.out.stop hE)
      have hEb : (fE ((bs s).drop a) != 0) = true := by simpa using hE
      clear hE
      generalize fS ((bs s).drop a) = S at *
      generalize fE ((bs s).drop a) = E at *
      go_wp2_with fail
      refine hu.mono ?_
      rintro e w2 ⟨rfl, b2⟩
      have HOW := Lib.hid (ListNew.of_own (own_below hown b2))
      have hbel2 := hbel.trans (b2.mono hsw)
      clear hown hbel
      go_wp2
      go_ret2
      refine ⟨_, ret2s rfl (by rw [hSp.out.2]), ?_, hbel2⟩
      rw [hSp.out.1, HX]
      exact HOW.out

set_option maxHeartbeats 4000000 in
set_option maxRecDepth 100000 in
theorem refJoin_any (v : Value) (l : List ByteArray) (w : World) (hl : ListAt w v l.length (cellsOf strC l)) (hn : l.length ≤ 1048576) (hall : ∀ c ∈ l, c.size ≤ 65536) :
    Calls Try.prog 18 #[v] w fun e w' => e = .returned (.tuple #[.string (mk (joinB l)), .int .i64 0]) ∧ Below w.heap.size w w' := by
  obtain ⟨_, aa, cap, rfl, _, hc⟩ := hl
  have HC := Lib.hid hc
  have hjl := joinB_le l hall
  have HA := Lib.hid hall
  clear hall hc
  go_enter Try.func18, Try.ntmps18
  go_wp2
  go_loopw [4, 5] (fun vs i wr => ∃ (k : Nat) (S : ByteArray), k ≤ l.length ∧ i = .int .i64 k ∧ vs = .string S ∧ Hid (S = mk (joinB (l.take k))) ∧ Below w.heap.size w wr) (fun _ i _ => l.length - (intOf i).toNat)
  case atStart => exact ⟨0, ⟨#[]⟩, by omega, rfl, rfl, rfl, Below.refl _ _⟩
  case round =>
    obtain ⟨k, S, hk, rfl, rfl, HS, hbel⟩ := hrel
    by_cases hlt : k < l.length
    · obtain ⟨x, hx⟩ : ∃ x, l[k]? = some x := ⟨l[k], List.getElem?_eq_getElem hlt⟩
      obtain ⟨ba, offa, rfl, hba, hca⟩ := HC.out.resolve_left (by omega)
      have c1 := (hbel.cell (p := ⟨ba, offa + k, none⟩) hba).trans (ListAt.get hca hx)
      have hxs := HA.out x (List.mem_of_getElem? hx)
      have hst := joinB_step l k x hx
      have hle2 := joinB_take l (k + 1)
      have hSz : S.size + (mk (frameL (bs x))).size ≤ 9223372036854775807 := by
        have e1 : S.size = (joinB (l.take k)).length := by rw [HS, mk_size]
        rw [mk_size, frameL_length, bs_size]; omega
      have HJ : Hid (S ++ mk (frameL (bs x)) = mk (joinB (l.take (k + 1)))) := by
        show _ = _
        apply ba_ext
        rw [bs_append, HS, bs_mk, bs_mk, bs_mk, joinB_snoc l k x hx]
      have hf := fun w' => refFrame_any x w' hxs
      clear hca hx hst hle2 HS
      generalize mk (frameL (bs x)) = F at *
      have hbs := hbel.size
      go_wp2_with fail
      refine (hf _).mono ?_
      rintro e w2 ⟨rfl, b2⟩
      have b3 := hbel.trans (b2.mono hbs)
      clear hbel b2
      go_wp2
      go_roundw
      case rel => exact ⟨k + 1, S ++ F, by omega, by go_num, rfl, HJ, b3⟩
      case measure => simp [intOf]; omega
    · have HT := Lib.hid (show l.take k = l from List.take_of_length_le (by omega))
      go_wp2
      go_ret2
      exact ⟨ret2s (by rw [← HT.out, ← HS]; rfl) rfl, hbel⟩
end Go.Proofs.Ytafpbnkkhgmicaa
