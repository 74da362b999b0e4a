/- Unframe, Scan. -/
import Derived.Test.YtnffjoflkeagfaaFUnframe
namespace Go.Proofs.Ytnffjoflkeagfaa.Fr
open Go.RowKit

theorem own_below {B : Nat} {e : TypeId} {v : Value} {n : Nat} {xs : List Value} {w w' : World} (h : w.ownsRow B e 1 v n xs) (hb : Below w.heap.size w w') : w'.ownsRow B e 1 v n xs :=
  h.kept (row := none) ⟨hb.os, hb.tape, hb.output, hb.size, fun k hk _ => hb.block k hk⟩ (by by_cases h : v.ownBlock = none; exact .inl h; exact .inr h)
theorem ownsRow_mono {B C : Nat} {e : TypeId} {sz : Nat} {v : Value} {n : Nat} {xs : List Value} {w : World} (h : w.ownsRow B e sz v n xs) (hC : C ≤ B) : w.ownsRow C e sz v n xs := by
  obtain ⟨h1, h2⟩ := h
  refine ⟨h1, ?_⟩
  rcases h2 with h2 | ⟨g, cap, cur, rfl, hB, r⟩
  · exact .inl h2
  · exact .inr ⟨g, cap, cur, rfl, Nat.le_trans hC hB, r⟩
/-- how much a frame takes; 0, if it is none -/
def fK (l : List UInt8) : Nat := if fE l = 0 then 8 + num4 l else 0
theorem ret3v {b c b' c' : Int} {y z : IntKind} {v v' : Value} (h1 : v = v') (h2 : b = b') (h3 : c = c') : Ending.returned (.tuple #[v, .int y b, .int z c]) = .returned (.tuple #[v', .int y b', .int z c']) := by rw [h1, h2, h3]

/-- what is scanned, as texts; how far -/
def scanT (l : List UInt8) : List ByteArray := (scan l).1.map mk
def scanN (l : List UInt8) : Nat := (scan l).2
theorem scanF_len : ∀ (n : Nat) (l : List UInt8), 8 * (scanF n l).1.length ≤ l.length ∧ (scanF n l).2 ≤ l.length
  | 0, l => by simp [scanF]
  | n + 1, l => by
    simp only [scanF]
    by_cases h : fE l = 0
    · have hp := (fE_parts h).2.2.1
      have ih := scanF_len n (l.drop (8 + num4 l))
      rw [List.length_drop] at ih
      rw [if_pos h]
      simp only [List.length_cons]
      omega
    · rw [if_neg h]; simp
theorem scan_len (l : List UInt8) : 8 * (scanT l).length ≤ l.length := by
  unfold scanT; rw [List.length_map]; exact (scanF_len _ _).1
theorem scanN_le (l : List UInt8) : scanN l ≤ l.length := (scanF_len _ _).2
/-- a bytes are scanned: these texts -/
def SRel (l : List UInt8) (a : Nat) (xs : List ByteArray) : Prop := scanT l = xs ++ scanT (l.drop a) ∧ scanN l = a + scanN (l.drop a) ∧ 8 * xs.length ≤ a
theorem SRel.start (l : List UInt8) : SRel l 0 [] := ⟨by simp, by simp, by simp⟩
theorem SRel.step {l : List UInt8} {a : Nat} {xs : List ByteArray} (h : SRel l a xs) (hE : fE (l.drop a) = 0) : SRel l (a + fK (l.drop a)) (xs ++ [fS (l.drop a)]) := by
  obtain ⟨h1, h2, h3⟩ := h
  have hk : fK (l.drop a) = 8 + num4 (l.drop a) := by unfold fK; rw [if_pos hE]
  have hS : fS (l.drop a) = mk (fB (l.drop a)) := by unfold fS; rw [if_pos hE]
  have hs := scan_ok hE
  rw [List.drop_drop] at hs
  have e1 : scanT (l.drop a) = fS (l.drop a) :: scanT (l.drop (a + fK (l.drop a))) := by
    unfold scanT; rw [hs, hS, hk]; rfl
  have e2 : scanN (l.drop a) = fK (l.drop a) + scanN (l.drop (a + fK (l.drop a))) := by
    unfold scanN; rw [hs, hk]
  refine ⟨?_, ?_, ?_⟩
  · rw [h1, e1, List.append_assoc]; rfl
  · rw [h2, e2]; omega
  · rw [List.length_append, hk]; simp; omega
theorem SRel.stop {l : List UInt8} {a : Nat} {xs : List ByteArray} (h : SRel l a xs) (hE : fE (l.drop a) ≠ 0) : scanT l = xs ∧ scanN l = a := by
  obtain ⟨h1, h2, _⟩ := h
  have hs := scan_end hE
  constructor
  · rw [h1]; unfold scanT; rw [hs]; simp
  · rw [h2]; unfold scanN; rw [hs]; rfl
theorem info_str : (Try.prog.info? 9).map (fun i => (i.zero, i.size, i.bytes)) = some (some (.string ⟨#[]⟩), 1, 16) := by kernel_rfl

set_option maxHeartbeats 4000000 in
set_option maxRecDepth 100000 in
theorem Scan_any (s : ByteArray) (w : World) (hs : s.size ≤ 1099511627776) :
    Calls Try.prog 49 #[.string s] w fun e w' => ∃ v, e = .returned (.tuple #[v, .int .i64 (scanN (bs s) : Nat)]) ∧ w'.ownsRow w.heap.size 9 1 v (scanT (bs s)).length (cellsOf strC (scanT (bs s))) ∧ Below w.heap.size w w' := by
  obtain ⟨i0, hi, hz0, hz1, hz2⟩ := info_parts info_str
  have hz := tabZero
  have hlen := bs_size s
  have HLEN := Lib.hid hlen
  clear hlen
  go_enter Try.func49, Try.ntmps49
  go_wp2_with fail
  refine (makeTable_any _).mono ?_
  rintro e w1 ⟨rfl, b1⟩
  have hT := Lib.hid (Tab.new w1)
  have hb1 := b1.size
  go_wp2_with (refine wpList_store_new rfl 102 (.tmp 4) (.tmp 9) rfl (tabC 0) (tabC 256) 102 rfl rfl tabInfo tabOld (tabC_one _) ?_)
  go_loopw [5, 6] (fun v i wr => ∃ (a n : Nat) (xs : List ByteArray), a ≤ s.size ∧ i = .int .i64 a ∧ 8 * n ≤ a ∧ wr.ownsRow (w1.heap.size + 1) 9 1 v n (cellsOf strC xs) ∧ Below (w1.heap.size + 1) (w1.alloc (.cells (tabC 256) 102)) wr ∧ Hid (xs.length = n) ∧ SRel (bs s) a xs)
    (fun _ i _ => s.size - (intOf i).toNat)
  case atStart => exact ⟨0, 0, [], by omega, rfl, by omega, World.ownsRow_nil _ _ _ _, Below.refl _ _, rfl, SRel.start _⟩
  case round =>
    obtain ⟨a, n, xs, ha, rfl, hn8, hown, hbel, HX, hrel⟩ := hrel
    have HR := Lib.hid hrel
    clear hrel
    have haI : (a : Int) ≤ (s.size : Int) := by omega
    have hsw := hbel.size
    rw [size_alloc1] at hsw
    have hu := unframe_any w1.heap.size (s.extract a s.size) wr (hT.out.below hbel (by omega)) (by rw [size_from]; omega)
    rw [bs_from] at hu
    by_cases hE : fE ((bs s).drop a) = 0
    · have hSt := Lib.hid (HR.out.step hE)
      have hK := Lib.hid (show fK ((bs s).drop a) = 8 + num4 ((bs s).drop a) by unfold fK; rw [if_pos hE])
      have hSz := Lib.hid (show (fS ((bs s).drop a)).size = num4 ((bs s).drop a) by unfold fS; rw [if_pos hE, mk_size, fB_length hE])
      have hp := (fE_parts hE).2.2.1
      rw [List.length_drop, HLEN.out] at hp
      rw [hE] at hu
      clear hE
      generalize fS ((bs s).drop a) = S at *
      generalize fK ((bs s).drop a) = K at *
      generalize num4 ((bs s).drop a) = m at *
      have hSz2 : S.size ≤ 1099511627776 := by rw [hSz.out]; omega
      have hSz3 : (8 : Int) + (S.size : Int) ≤ s.size := by rw [hSz.out]; omega
      have hSz4 : a + (8 + S.size) ≤ s.size := by rw [hSz.out]; omega
      go_wp2_with fail
      refine hu.mono ?_
      rintro e w2 ⟨rfl, b2⟩
      have hown2 := own_below hown b2
      have hbel2 := hbel.trans (b2.mono hsw)
      have hsw2 := b2.size
      clear hown hbel
      go_wp2_with (at_builtin; refine wpList_append_own _ rfl _ _ 41 rfl (w1.heap.size + 1) 9 i0 (.string ⟨#[]⟩) 1 16 Try.underlying41 hi hz0 hz1 hz2 rfl (by decide) _ _ _ rfl (hown2.alloc _) ⟨w2.heap.size, 0, none⟩ 1 1 [.string S] rfl rfl ?c1 ?c2 ?c3 ?c4 ?c5 ?_)
      case c1 =>
        intro i u hu
        match i, hu with
        | 0, hu => simp at hu; subst hu; simp [Addr.add]
      case c2 => intro u hu; simp at hu; subst hu; rfl
      case c3 => unfold maxLen; omega
      case c4 => omega
      case c5 => simp; omega
      intro v' w3 hown' hgrow _
      have hb3 : Below (w1.heap.size + 1) (w1.alloc (.cells (tabC 256) 102)) w3 := (hbel2.alloc (by omega) _).grown hgrow (by simp; omega) (fun k hk => (hown2.lt k hk).1)
      have HOW := Lib.hid hown'
      clear hown2 hgrow hbel2 hown'
      go_wp2
      go_roundw
      case rel => exact ⟨a + (8 + S.size), n + 1, xs ++ [S], by omega, by go_num, by omega, by simpa [cellsOf] using HOW.out, hb3, by show _ = _; rw [List.length_append, HX]; rfl, by rw [hSz.out, ← hK.out]; exact hSt.out⟩
      case measure => simp [intOf]; omega
    · have hSp := Lib.hid (HR.out.stop hE)
      have hEb : (fE ((bs s).drop a) != 0) = true := by simpa using hE
      clear hE
      generalize fS ((bs s).drop a) = S at *
      generalize fE ((bs s).drop a) = E at *
      go_wp2_with fail
      refine hu.mono ?_
      rintro e w2 ⟨rfl, b2⟩
      have HOW := Lib.hid (own_below hown b2)
      have hbel2 := hbel.trans (b2.mono hsw)
      clear hown hbel
      go_wp2
      go_ret2
      refine ⟨_, ret2s rfl (by rw [hSp.out.2]), ?_, (b1.alloc b1.size _).trans (hbel2.mono (by omega))⟩
      rw [hSp.out.1, HX]
      exact ownsRow_mono HOW.out (by omega)
end Go.Proofs.Ytnffjoflkeagfaa.Fr
