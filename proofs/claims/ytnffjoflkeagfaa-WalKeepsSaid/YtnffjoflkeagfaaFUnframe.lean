/- The frame at the beginning. -/
import Derived.Test.YtnffjoflkeagfaaFBuild
import Derived.Deep.RegionWith
import Derived.Deep.RegionHeld3
namespace Go.Proofs.Ytnffjoflkeagfaa.Fr
open Go.RowKit

theorem bs_extract (s : ByteArray) (a e : Nat) : bs (s.extract a e) = ((bs s).drop a).take (e - a) := Lib.extract_data s a e
theorem bs_from (s : ByteArray) (a : Nat) : bs (s.extract a s.size) = (bs s).drop a := by
  rw [bs_extract, List.take_of_length_le]
  rw [List.length_drop, ← Lib.size_eq]
  exact Nat.le_refl _
theorem size_from (s : ByteArray) (a : Nat) : (s.extract a s.size).size = s.size - a := by
  rw [Lib.size_eq]
  show (bs (s.extract a s.size)).length = _
  rw [bs_from, List.length_drop, ← Lib.size_eq]
theorem bs_size (s : ByteArray) : (bs s).length = s.size := (Lib.size_eq s).symm
/-- bytes as a text -/
def mk (l : List UInt8) : ByteArray := ⟨l.toArray⟩
theorem bs_mk (l : List UInt8) : bs (mk l) = l := rfl
theorem mk_bs (s : ByteArray) : mk (bs s) = s := by apply ByteArray.ext; simp [mk]
theorem mk_size (l : List UInt8) : (mk l).size = l.length := by rw [Lib.size_eq]; rfl
theorem ba_ext {a b : ByteArray} (h : bs a = bs b) : a = b := by rw [← mk_bs a, ← mk_bs b, h]
/-- what was framed, as a text; nothing, if it is no frame -/
def fS (l : List UInt8) : ByteArray := if fE l = 0 then mk (fB l) else ⟨#[]⟩
theorem ret2s {c c' : Int} {z : IntKind} {v v' : Value} (h1 : v = v') (h3 : c = c') : Ending.returned (.tuple #[v, .int z c]) = .returned (.tuple #[v', .int z c']) := by rw [h1, h3]

set_option maxHeartbeats 4000000 in
set_option maxRecDepth 100000 in
theorem unframe_any (p : Nat) (s : ByteArray) (w : World) (ht : Tab p w) (hs : s.size ≤ 1099511627776) :
    Calls Try.prog 77 #[.pointer (some ⟨p, 0, none⟩), .string s] w fun e w' => e = .returned (.tuple #[.string (fS (bs s)), .int .i64 (fE (bs s))]) ∧ Below w.heap.size w w' := by
  have hl := bs_size s
  by_cases h8 : s.size < 8
  · have h8i : (s.size : Int) < 8 := by omega
    have hE := Lib.hid (fE_short (l := bs s) (by omega))
    clear hl
    go_enter Try.func77, Try.ntmps77
    go_wp2
    go_ret2
    exact ⟨ret2s (by unfold fS; rw [if_neg (by rw [hE.out]; decide)]; rfl) (by rw [hE.out]), Below.refl _ _⟩
  have h8i : ¬ (s.size : Int) < 8 := by omega
  have hnum := fun w' => number_any s w' (by omega) (by omega)
  have hn32 := num4_lt (bs s)
  by_cases hbig : 65536 < num4 (bs s)
  · have hE := Lib.hid (fE_long (l := bs s) (by omega) hbig)
    have hbi : (65536 : Int) < (num4 (bs s) : Nat) := by omega
    clear hl
    generalize num4 (bs s) = n at *
    go_enter Try.func77, Try.ntmps77
    go_wp2_with fail
    refine (hnum _).mono ?_
    rintro e w1 ⟨rfl, rfl⟩
    go_wp2
    go_ret2
    exact ⟨ret2s (by unfold fS; rw [if_neg (by rw [hE.out]; decide)]; rfl) (by rw [hE.out]), Below.refl _ _⟩
  have hbi : ¬ (65536 : Int) < (num4 (bs s) : Nat) := by omega
  by_cases hless : s.size - 8 < num4 (bs s)
  · have hE := Lib.hid (fE_less (l := bs s) (by omega) hbig (by omega))
    have hli : (s.size : Int) - 8 < (num4 (bs s) : Nat) := by omega
    clear hl hbig hless
    generalize num4 (bs s) = n at *
    go_enter Try.func77, Try.ntmps77
    go_wp2_with fail
    refine (hnum _).mono ?_
    rintro e w1 ⟨rfl, rfl⟩
    go_wp2
    go_ret2
    exact ⟨ret2s (by unfold fS; rw [if_neg (by rw [hE.out]; decide)]; rfl) (by rw [hE.out]), Below.refl _ _⟩
  have hli : ¬ (s.size : Int) - 8 < (num4 (bs s) : Nat) := by omega
  have hfB : bs (s.extract 8 (8 + num4 (bs s))) = fB (bs s) := by
    rw [bs_extract]; unfold fB; congr 1; omega
  have hh4 : bs (s.extract 0 4) = (bs s).take 4 := by rw [bs_extract]; rfl
  have hd4 : bs (s.extract 4 s.size) = (bs s).drop 4 := bs_from s 4
  have hz4 : (s.extract 4 s.size).size = s.size - 4 := size_from s 4
  have hsumv : catL [s.extract 0 4, s.extract 8 (8 + num4 (bs s))] = (bs s).take 4 ++ fB (bs s) := by rw [catL_two, hh4, hfB]
  have hnum2 := fun w' => number_any (s.extract 4 s.size) w' (by omega) (by omega)
  rw [hd4] at hnum2
  have hcp : s.extract 8 (8 + num4 (bs s)) = mk (fB (bs s)) := ba_ext (by rw [hfB]; rfl)
  have HSV := Lib.hid hsumv
  have HCP := Lib.hid hcp
  have hn32b := num4_lt ((bs s).drop 4)
  have hs32 := sumL_lt ((bs s).take 4 ++ fB (bs s))
  have hlB : (fB (bs s)).length ≤ 1099511627776 := by
    have : (fB (bs s)).length ≤ (bs s).length := by unfold fB; rw [List.length_take, List.length_drop]; omega
    omega
  by_cases hsum : sumL ((bs s).take 4 ++ fB (bs s)) = num4 ((bs s).drop 4)
  · have hE := Lib.hid (fE_ok (l := bs s) (by omega) hbig (by omega) hsum)
    have hni : (((sumL ((bs s).take 4 ++ fB (bs s)) : Nat) : Int) != ((num4 ((bs s).drop 4) : Nat) : Int)) = false := by rw [hsum]; simp
    clear hl hbig hless hsum hsumv hcp hfB hh4 hd4 hz4
    generalize num4 (bs s) = n at *
    generalize num4 ((bs s).drop 4) = n4 at *
    have hL := list_two w (s.extract 0 4) (s.extract 8 (8 + n)) 9
    have hT := ht.below ((Below.refl _ w).alloc (Nat.le_refl _) (.cells #[.string (s.extract 0 4), .string (s.extract 8 (8 + n))] 9)) ht.1
    have hsz : ∀ c ∈ [s.extract 0 4, s.extract 8 (8 + n)], c.size ≤ 9223372036854775807 := fun c hc => by
      have : c.size ≤ s.size := by
        simp only [List.mem_cons, List.not_mem_nil, or_false] at hc
        rcases hc with rfl | rfl <;> (rw [ByteArray.size_extract]; omega)
      omega
    have HSZ := Lib.hid hsz
    have HL := Lib.hid hL
    have HT := Lib.hid hT
    clear hsz hL hT
    go_enter Try.func77, Try.ntmps77
    go_wp2_with fail
    refine (hnum _).mono ?_
    rintro e w1 ⟨rfl, rfl⟩
    go_wp2
    go_region_with (first
      | (go_at_call 90; refine (hnum2 _).mono ?_; rintro e w' ⟨rfl, rfl⟩)
      | (go_at_call 82; refine (sum_any p _ [s.extract 0 4, s.extract 8 (8 + n)] _ ?_ ?_ (by simp) HSZ.out).mono ?_; exact HT.out; exact HL.out; rw [HSV.out]; rintro e w' ⟨rfl, q, rfl⟩))
    all_goals
      go_wp2_with fail
      refine (clone_any _ _ (by rw [HCP.out, mk_size]; omega)).mono ?_
      rintro e w2 ⟨rfl, b2⟩
      go_wp2
      go_ret2
      refine ⟨ret2s (by unfold fS; rw [if_pos hE.out, ← HCP.out]; rfl) (by rw [hE.out]), ?_⟩
      exact bw (below_drewN ((Below.refl _ _).alloc (Nat.le_refl _) _) _) b2
  · have hE := Lib.hid (fE_sum (l := bs s) (by omega) hbig (by omega) hsum)
    have hni : (((sumL ((bs s).take 4 ++ fB (bs s)) : Nat) : Int) != ((num4 ((bs s).drop 4) : Nat) : Int)) = true := by rw [bne_iff_ne]; omega
    clear hl hbig hless hsum hsumv hcp hfB hh4 hd4 hz4
    generalize num4 (bs s) = n at *
    generalize num4 ((bs s).drop 4) = n4 at *
    have hL := list_two w (s.extract 0 4) (s.extract 8 (8 + n)) 9
    have hT := ht.below ((Below.refl _ w).alloc (Nat.le_refl _) (.cells #[.string (s.extract 0 4), .string (s.extract 8 (8 + n))] 9)) ht.1
    have hsz : ∀ c ∈ [s.extract 0 4, s.extract 8 (8 + n)], c.size ≤ 9223372036854775807 := fun c hc => by
      have : c.size ≤ s.size := by
        simp only [List.mem_cons, List.not_mem_nil, or_false] at hc
        rcases hc with rfl | rfl <;> (rw [ByteArray.size_extract]; omega)
      omega
    have HSZ := Lib.hid hsz
    have HL := Lib.hid hL
    have HT := Lib.hid hT
    clear hsz hL hT
    go_enter Try.func77, Try.ntmps77
    go_wp2_with fail
    refine (hnum _).mono ?_
    rintro e w1 ⟨rfl, rfl⟩
    go_wp2
    go_region_with (first
      | (go_at_call 90; refine (hnum2 _).mono ?_; rintro e w' ⟨rfl, rfl⟩)
      | (go_at_call 82; refine (sum_any p _ [s.extract 0 4, s.extract 8 (8 + n)] _ ?_ ?_ (by simp) HSZ.out).mono ?_; exact HT.out; exact HL.out; rw [HSV.out]; rintro e w' ⟨rfl, q, rfl⟩))
    all_goals
      go_wp2
      go_ret2
      refine ⟨ret2s (by unfold fS; rw [if_neg (by rw [hE.out]; decide)]; rfl) (by rw [hE.out]), ?_⟩
      exact below_drewN ((Below.refl _ _).alloc (Nat.le_refl _) _) _
end Go.Proofs.Ytnffjoflkeagfaa.Fr
