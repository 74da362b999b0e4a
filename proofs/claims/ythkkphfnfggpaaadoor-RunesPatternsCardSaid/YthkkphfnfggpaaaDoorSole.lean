/- The reference's pattern reader: a code point of a class. -/
import Derived.Test.YthkkphfnfggpaaaDoorWorks
import Derived.Test.YthkkphfnfggpaaaDoorBack
namespace Go.Proofs.YthkkphfnfggpaaaDoor
open Go.RowKit

/-- a code point of a class, by places: it, the place behind, is there one -/
def soleF (s : ByteArray) (q : Nat) : Int × Nat × Bool :=
  if q < s.size then (if ((Utf8.decode s q).1 : Int) = 92 then (if q + 1 < s.size then (((Utf8.decode s (q + 1)).1 : Int), q + 1 + (Utf8.decode s (q + 1)).2, true) else (0, q, false))
    else (((Utf8.decode s q).1 : Int), q + (Utf8.decode s q).2, decide (((Utf8.decode s q).1 : Int) ≠ 93))) else (0, q, false)
def soleV (x : Int × Nat × Bool) : Value := .tuple #[.int .i32 x.1, .int .i64 x.2.1, .bool x.2.2]
set_option maxRecDepth 100000 in
set_option maxHeartbeats 4000000 in
theorem sole_any (s : ByteArray) (q : Nat) (w : World) (hs : s.size ≤ 1099511627776) (hq : q ≤ s.size) :
    Calls Tryd.prog 58 #[.string s, .int .i64 q] w fun e w' => e = .returned (soleV (soleF s q)) ∧ w = w' := by
  by_cases h1 : q < s.size
  · have hz := size_le_dec s q h1
    have P1 := Lib.hid (fun W => piece_any s q W hs h1)
    by_cases h2 : ((Utf8.decode s q).1 : Int) = 92
    · by_cases h3 : q + 1 < s.size
      · have hz2 := size_le_dec s (q + 1) h3
        have P2 := Lib.hid (fun W => piece_any s (q + 1) W hs h3)
        have HE : Hid (soleV (soleF s q) = soleV (((Utf8.decode s (q + 1)).1 : Int), q + 1 + (Utf8.decode s (q + 1)).2, true)) := by
          show _ = _
          unfold soleF; rw [if_pos h1, if_pos h2, if_pos h3]
        rw [h2] at P1
        simp only [Int.natCast_add, Int.natCast_one] at P2
        generalize (Utf8.decode s (q + 1)).1 = x at *
        generalize (Utf8.decode s (q + 1)).2 = n at *
        generalize okAt s q = o1 at *
        generalize okAt s (q + 1) = o2 at *
        generalize Utf8.decode s q = d at *
        have h3i : (q : Int) + 1 < (s.size : Int) := by omega
        clear h2
        go_enter Tryd.func58, Tryd.ntmps58
        go_wp2_with fail
        refine (P1.out _).mono ?_
        rintro e w' ⟨rfl, rfl⟩
        go_wp2_with fail
        refine (P2.out _).mono ?_
        rintro e w' ⟨rfl, rfl⟩
        go_wp2
        go_ret3
        exact ⟨by rw [HE.out]; unfold soleV; simp, rfl⟩
      · have HE : Hid (soleV (soleF s q) = soleV (0, q, false)) := by
          show _ = _
          unfold soleF; rw [if_pos h1, if_pos h2, if_neg h3]
        rw [h2] at P1
        generalize okAt s q = o1 at *
        generalize Utf8.decode s q = d at *
        have h3i : ¬ (q : Int) + 1 < (s.size : Int) := by omega
        clear h2
        go_enter Tryd.func58, Tryd.ntmps58
        go_wp2_with fail
        refine (P1.out _).mono ?_
        rintro e w' ⟨rfl, rfl⟩
        go_wp2
        go_ret3
        exact ⟨by rw [HE.out]; rfl, rfl⟩
    · have HE : Hid (soleV (soleF s q) = soleV (((Utf8.decode s q).1 : Int), q + (Utf8.decode s q).2, decide (((Utf8.decode s q).1 : Int) ≠ 93))) := by
        show _ = _
        unfold soleF; rw [if_pos h1, if_neg h2]
      have g : (((Utf8.decode s q).1 : Int) != 92) = true := by rw [bne_iff_ne]; exact h2
      generalize okAt s q = o1 at *
      generalize (Utf8.decode s q).1 = x at *
      generalize (Utf8.decode s q).2 = n at *
      go_enter Tryd.func58, Tryd.ntmps58
      go_wp2_with fail
      refine (P1.out _).mono ?_
      rintro e w' ⟨rfl, rfl⟩
      go_wp2
      go_ret3
      exact ⟨by rw [HE.out]; unfold soleV; simp [bne, Bool.beq_eq_decide_eq], rfl⟩
  · have HE : Hid (soleV (soleF s q) = soleV (0, q, false)) := by
      show _ = _
      unfold soleF; rw [if_neg h1]
    have h1i : ¬ (q : Int) < (s.size : Int) := by omega
    go_enter Tryd.func58, Tryd.ntmps58
    go_wp2
    go_ret3
    exact ⟨by rw [HE.out]; rfl, rfl⟩
end Go.Proofs.YthkkphfnfggpaaaDoor
