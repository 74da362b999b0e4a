/- ref Piece is the model's own decoding. -/
import Derived.Test.YthkkphfnfggpaaaDoorPiece2
import Derived.Test.YthkkphfnfggpaaaDoorPiece3
import Derived.Test.YthkkphfnfggpaaaDoorPiece4
namespace Go.Proofs.YthkkphfnfggpaaaDoor
open Go.RowKit
theorem valid_iff (c : Nat) : Utf8.valid (c : Int) = true ↔ ¬ (55296 ≤ c ∧ c ≤ 57343) ∧ c ≤ 1114111 := by
  unfold Utf8.valid; simp; omega
theorem dec_low (s : ByteArray) (p : Nat) (h : byt s p < 128) : Utf8.decode s p = ((byt s p).toNat, 1) := by
  unfold byt at *
  simp only [Utf8.decode, Nat.add_zero]
  rw [if_pos (by omega)]; simp
theorem dec_none (s : ByteArray) (p : Nat) (h : 128 ≤ byt s p) (h2 : byt s p < 192 ∨ 248 ≤ byt s p) : Utf8.decode s p = (65533, 1) := by
  have hb := byt_bd s p
  unfold byt at *
  simp only [Utf8.decode, Nat.add_zero]
  rw [if_neg (by omega), if_neg (by simp only [Bool.and_eq_true, decide_eq_true_eq, beq_iff_eq, ge_iff_le]; omega), if_neg (by simp only [Bool.and_eq_true, decide_eq_true_eq, beq_iff_eq, ge_iff_le]; omega), if_neg (by simp only [Bool.and_eq_true, decide_eq_true_eq, beq_iff_eq, ge_iff_le]; omega)]; simp [Utf8.runeError]
theorem accF1 (s : ByteArray) (p : Nat) (v : Int) : accF s p v 1 = v * 64 + byt s (p + 1) - 128 := rfl
theorem accF2 (s : ByteArray) (p : Nat) (v : Int) : accF s p v 2 = (v * 64 + byt s (p + 1) - 128) * 64 + byt s (p + 2) - 128 := rfl
theorem accF3 (s : ByteArray) (p : Nat) (v : Int) : accF s p v 3 = ((v * 64 + byt s (p + 1) - 128) * 64 + byt s (p + 2) - 128) * 64 + byt s (p + 3) - 128 := rfl
theorem dec_2 (s : ByteArray) (p : Nat) (h1 : 192 ≤ byt s p) (h2 : byt s p < 224) :
    (wholeP s p 2 (byt s p - 192) 128 → Utf8.decode s p = ((accF s p (byt s p - 192) 1).toNat, 2)) ∧ (¬ wholeP s p 2 (byt s p - 192) 128 → Utf8.decode s p = (65533, 1)) := by
  have g1 := byt_bd s (p + 1)
  have hw : wholeP s p 2 (byt s p - 192) 128 ↔ p + 2 ≤ s.size ∧ contB s (p + 1) ∧ fitsB 128 (accF s p (byt s p - 192) 1) :=
    ⟨fun h => ⟨h.1, h.2.1 1 (by omega) (by omega), h.2.2⟩, fun h => ⟨h.1, fun j a b => by
      obtain rfl : j = 1 := by omega
      exact h.2.1, h.2.2⟩⟩
  rw [hw]
  clear hw
  rw [accF1]
  unfold contB fitsB byt at *
  simp only [Utf8.decode, Nat.add_zero]
  constructor
  · rintro ⟨q1, q2, q3⟩
    rw [if_neg (by omega), if_pos (by simp only [Bool.and_eq_true, decide_eq_true_eq, beq_iff_eq, ge_iff_le]; omega), if_pos (by simp only [Bool.and_eq_true, decide_eq_true_eq, beq_iff_eq, ge_iff_le]; omega)]
    simp only [Prod.mk.injEq, and_true]; omega
  · intro q
    rw [if_neg (by omega)]
    by_cases c : p + 1 < s.size ∧ (s.get! (p + 1)).toNat / 64 = 2
    · rw [if_pos (by simp only [Bool.and_eq_true, decide_eq_true_eq, beq_iff_eq, ge_iff_le]; omega), if_neg (by simp only [Bool.and_eq_true, decide_eq_true_eq, beq_iff_eq, ge_iff_le]; omega)]; simp [Utf8.runeError]
    · rw [if_neg (by simp only [Bool.and_eq_true, decide_eq_true_eq, beq_iff_eq, ge_iff_le]; omega), if_neg (by simp only [Bool.and_eq_true, decide_eq_true_eq, beq_iff_eq, ge_iff_le]; omega), if_neg (by simp only [Bool.and_eq_true, decide_eq_true_eq, beq_iff_eq, ge_iff_le]; omega)]; simp [Utf8.runeError]
theorem dec_3 (s : ByteArray) (p : Nat) (h1 : 224 ≤ byt s p) (h2 : byt s p < 240) :
    (wholeP s p 3 (byt s p - 224) 2048 → Utf8.decode s p = ((accF s p (byt s p - 224) 2).toNat, 3)) ∧ (¬ wholeP s p 3 (byt s p - 224) 2048 → Utf8.decode s p = (65533, 1)) := by
  have g1 := byt_bd s (p + 1)
  have g2 := byt_bd s (p + 2)
  have hw : wholeP s p 3 (byt s p - 224) 2048 ↔ p + 3 ≤ s.size ∧ contB s (p + 1) ∧ contB s (p + 2) ∧ fitsB 2048 (accF s p (byt s p - 224) 2) :=
    ⟨fun h => ⟨h.1, h.2.1 1 (by omega) (by omega), h.2.1 2 (by omega) (by omega), h.2.2⟩, fun h => ⟨h.1, fun j a b => by
      have : j = 1 ∨ j = 2 := by omega
      rcases this with rfl | rfl
      · exact h.2.1
      · exact h.2.2.1, h.2.2.2⟩⟩
  rw [hw]
  clear hw
  rw [accF2]
  unfold contB fitsB byt at *
  simp only [Utf8.decode, Nat.add_zero]
  constructor
  · rintro ⟨q1, q2, q3, q4⟩
    have hv : Utf8.valid ((((s.get! p).toNat % 16) * 4096 + ((s.get! (p + 1)).toNat % 64) * 64 + (s.get! (p + 2)).toNat % 64 : Nat) : Int) = true := (valid_iff _).2 (by omega)
    rw [if_neg (by omega), if_neg (by simp only [Bool.and_eq_true, decide_eq_true_eq, beq_iff_eq, ge_iff_le]; omega), if_pos (by simp only [Bool.and_eq_true, decide_eq_true_eq, beq_iff_eq, ge_iff_le]; omega), if_pos (by rw [hv]; simp only [Bool.and_eq_true, decide_eq_true_eq, ge_iff_le, and_true]; omega)]
    simp only [Prod.mk.injEq, and_true]; omega
  · intro q
    rw [if_neg (by omega), if_neg (by simp only [Bool.and_eq_true, decide_eq_true_eq, beq_iff_eq, ge_iff_le]; omega)]
    by_cases c : p + 2 < s.size ∧ (s.get! (p + 1)).toNat / 64 = 2 ∧ (s.get! (p + 2)).toNat / 64 = 2
    · rw [if_pos (by simp only [Bool.and_eq_true, decide_eq_true_eq, beq_iff_eq, ge_iff_le]; omega)]
      by_cases d : 2048 ≤ ((s.get! p).toNat % 16) * 4096 + ((s.get! (p + 1)).toNat % 64) * 64 + (s.get! (p + 2)).toNat % 64
      · have hv : Utf8.valid ((((s.get! p).toNat % 16) * 4096 + ((s.get! (p + 1)).toNat % 64) * 64 + (s.get! (p + 2)).toNat % 64 : Nat) : Int) = false := by
          rw [Bool.eq_false_iff]; intro hv; rw [valid_iff] at hv; omega
        rw [if_neg (by rw [hv]; simp)]; simp [Utf8.runeError]
      · rw [if_neg (by simp only [Bool.and_eq_true, decide_eq_true_eq, beq_iff_eq, ge_iff_le]; omega)]; simp [Utf8.runeError]
    · rw [if_neg (by simp only [Bool.and_eq_true, decide_eq_true_eq, beq_iff_eq, ge_iff_le]; omega), if_neg (by simp only [Bool.and_eq_true, decide_eq_true_eq, beq_iff_eq, ge_iff_le]; omega)]; simp [Utf8.runeError]
theorem dec_4 (s : ByteArray) (p : Nat) (h1 : 240 ≤ byt s p) (h2 : byt s p < 248) :
    (wholeP s p 4 (byt s p - 240) 65536 → Utf8.decode s p = ((accF s p (byt s p - 240) 3).toNat, 4)) ∧ (¬ wholeP s p 4 (byt s p - 240) 65536 → Utf8.decode s p = (65533, 1)) := by
  have g1 := byt_bd s (p + 1)
  have g2 := byt_bd s (p + 2)
  have g3 := byt_bd s (p + 3)
  have hw : wholeP s p 4 (byt s p - 240) 65536 ↔ p + 4 ≤ s.size ∧ contB s (p + 1) ∧ contB s (p + 2) ∧ contB s (p + 3) ∧ fitsB 65536 (accF s p (byt s p - 240) 3) :=
    ⟨fun h => ⟨h.1, h.2.1 1 (by omega) (by omega), h.2.1 2 (by omega) (by omega), h.2.1 3 (by omega) (by omega), h.2.2⟩, fun h => ⟨h.1, fun j a b => by
      have : j = 1 ∨ j = 2 ∨ j = 3 := by omega
      rcases this with rfl | rfl | rfl
      · exact h.2.1
      · exact h.2.2.1
      · exact h.2.2.2.1, h.2.2.2.2⟩⟩
  rw [hw]
  clear hw
  rw [accF3]
  unfold contB fitsB byt at *
  simp only [Utf8.decode, Nat.add_zero]
  constructor
  · rintro ⟨q1, q2, q3, q4, q5⟩
    have hv : Utf8.valid ((((s.get! p).toNat % 8) * 262144 + ((s.get! (p + 1)).toNat % 64) * 4096 + ((s.get! (p + 2)).toNat % 64) * 64 + (s.get! (p + 3)).toNat % 64 : Nat) : Int) = true := (valid_iff _).2 (by omega)
    rw [if_neg (by omega), if_neg (by simp only [Bool.and_eq_true, decide_eq_true_eq, beq_iff_eq, ge_iff_le]; omega), if_neg (by simp only [Bool.and_eq_true, decide_eq_true_eq, beq_iff_eq, ge_iff_le]; omega), if_pos (by simp only [Bool.and_eq_true, decide_eq_true_eq, beq_iff_eq, ge_iff_le]; omega), if_pos (by rw [hv]; simp only [Bool.and_eq_true, decide_eq_true_eq, ge_iff_le, and_true]; omega)]
    simp only [Prod.mk.injEq, and_true]; omega
  · intro q
    rw [if_neg (by omega), if_neg (by simp only [Bool.and_eq_true, decide_eq_true_eq, beq_iff_eq, ge_iff_le]; omega), if_neg (by simp only [Bool.and_eq_true, decide_eq_true_eq, beq_iff_eq, ge_iff_le]; omega)]
    by_cases c : p + 3 < s.size ∧ (s.get! (p + 1)).toNat / 64 = 2 ∧ (s.get! (p + 2)).toNat / 64 = 2 ∧ (s.get! (p + 3)).toNat / 64 = 2
    · rw [if_pos (by simp only [Bool.and_eq_true, decide_eq_true_eq, beq_iff_eq, ge_iff_le]; omega)]
      by_cases d : 65536 ≤ ((s.get! p).toNat % 8) * 262144 + ((s.get! (p + 1)).toNat % 64) * 4096 + ((s.get! (p + 2)).toNat % 64) * 64 + (s.get! (p + 3)).toNat % 64
      · have hv : Utf8.valid ((((s.get! p).toNat % 8) * 262144 + ((s.get! (p + 1)).toNat % 64) * 4096 + ((s.get! (p + 2)).toNat % 64) * 64 + (s.get! (p + 3)).toNat % 64 : Nat) : Int) = false := by
          rw [Bool.eq_false_iff]; intro hv; rw [valid_iff] at hv; omega
        rw [if_neg (by rw [hv]; simp)]; simp [Utf8.runeError]
      · rw [if_neg (by simp only [Bool.and_eq_true, decide_eq_true_eq, beq_iff_eq, ge_iff_le]; omega)]; simp [Utf8.runeError]
    · rw [if_neg (by simp only [Bool.and_eq_true, decide_eq_true_eq, beq_iff_eq, ge_iff_le]; omega)]; simp [Utf8.runeError]

theorem size_le_dec (s : ByteArray) (p : Nat) (h : p < s.size) : p + (Utf8.decode s p).2 ≤ s.size := by
  by_cases c1 : byt s p < 128
  · rw [dec_low s p c1]; simp; omega
  by_cases c2 : byt s p < 192 ∨ 248 ≤ byt s p
  · rw [dec_none s p (by omega) c2]; simp; omega
  by_cases c3 : byt s p < 224
  · by_cases w : wholeP s p 2 (byt s p - 192) 128
    · rw [(dec_2 s p (by omega) c3).1 w]; exact w.1
    · rw [(dec_2 s p (by omega) c3).2 w]; simp; omega
  by_cases c4 : byt s p < 240
  · by_cases w : wholeP s p 3 (byt s p - 224) 2048
    · rw [(dec_3 s p (by omega) c4).1 w]; exact w.1
    · rw [(dec_3 s p (by omega) c4).2 w]; simp; omega
  · by_cases w : wholeP s p 4 (byt s p - 240) 65536
    · rw [(dec_4 s p (by omega) (by omega)).1 w]; exact w.1
    · rw [(dec_4 s p (by omega) (by omega)).2 w]; simp; omega

theorem accF_nonneg {s : ByteArray} {p n : Nat} {v least : Int} (h0 : 0 ≤ least) (h : wholeP s p n v least) : ((accF s p v (n - 1)).toNat : Int) = accF s p v (n - 1) := by
  have := h.2.2; unfold fitsB at this; omega
theorem piece_any (s : ByteArray) (p : Nat) (w : World) (hs : s.size ≤ 1099511627776) (hp : p < s.size) :
    Calls Tryd.prog 30 #[.string s, .int .i64 p] w fun e w' =>
      e = .returned (.tuple #[.int .i32 (Utf8.decode s p).1, .int .i64 (Utf8.decode s p).2, .bool (okAt s p)]) ∧ w = w' := by
  have hb := byt_bd s p
  by_cases c1 : byt s p < 128
  · have e : (((byt s p).toNat : Nat) : Int) = byt s p := by omega
    have o : okAt s p = true := by unfold okAt; simp [c1]
    rw [dec_low s p c1, o]
    simp only [e]
    exact piece_low s p w hs hp c1
  by_cases c2 : byt s p < 192 ∨ 248 ≤ byt s p
  · have o : okAt s p = false := by unfold okAt; rw [dec_none s p (by omega) c2]; simp; omega
    rw [dec_none s p (by omega) c2, o]
    exact piece_none s p w hs hp (by omega) c2
  by_cases c3 : byt s p < 224
  · refine (piece_2 s p w hs hp (by omega) c3).mono ?_
    rintro e w' ⟨rfl, rfl⟩
    by_cases hw : wholeP s p 2 (byt s p - 192) 128
    · have o : okAt s p = true := by unfold okAt; rw [(dec_2 s p (by omega) c3).1 hw]; simp
      rw [multi_good hw, (dec_2 s p (by omega) c3).1 hw, o, accF_nonneg (n := 2) (by omega) hw]
      exact ⟨rfl, rfl⟩
    · have o : okAt s p = false := by unfold okAt; rw [(dec_2 s p (by omega) c3).2 hw]; simp; omega
      rw [multi_bad hw, (dec_2 s p (by omega) c3).2 hw, o]
      exact ⟨rfl, rfl⟩
  by_cases c4 : byt s p < 240
  · refine (piece_3 s p w hs hp (by omega) c4).mono ?_
    rintro e w' ⟨rfl, rfl⟩
    by_cases hw : wholeP s p 3 (byt s p - 224) 2048
    · have o : okAt s p = true := by unfold okAt; rw [(dec_3 s p (by omega) c4).1 hw]; simp
      rw [multi_good hw, (dec_3 s p (by omega) c4).1 hw, o, accF_nonneg (n := 3) (by omega) hw]
      exact ⟨rfl, rfl⟩
    · have o : okAt s p = false := by unfold okAt; rw [(dec_3 s p (by omega) c4).2 hw]; simp; omega
      rw [multi_bad hw, (dec_3 s p (by omega) c4).2 hw, o]
      exact ⟨rfl, rfl⟩
  · refine (piece_4 s p w hs hp (by omega) (by omega)).mono ?_
    rintro e w' ⟨rfl, rfl⟩
    by_cases hw : wholeP s p 4 (byt s p - 240) 65536
    · have o : okAt s p = true := by unfold okAt; rw [(dec_4 s p (by omega) (by omega)).1 hw]; simp
      rw [multi_good hw, (dec_4 s p (by omega) (by omega)).1 hw, o, accF_nonneg (n := 4) (by omega) hw]
      exact ⟨rfl, rfl⟩
    · have o : okAt s p = false := by unfold okAt; rw [(dec_4 s p (by omega) (by omega)).2 hw]; simp; omega
      rw [multi_bad hw, (dec_4 s p (by omega) (by omega)).2 hw, o]
      exact ⟨rfl, rfl⟩
end Go.Proofs.YthkkphfnfggpaaaDoor
