/- Numbers, integers, texts, lists as bytes: the plain part. -/
import Derived.Lib.VarintMem
import Derived.Lib.VarintDec
import Derived.Lib.VarintBits
import Derived.Lib.BitFns
import Derived.Lib.Hide
namespace Go.Proofs.Ytkcmcgmonkeajaa

/-- a number's bytes -/
abbrev num (x : Nat) : List UInt8 := Lib.uvarint x
/-- an integer's -/
def numI (x : Int) : List UInt8 := Lib.uvarint (Lib.zigzag x)
/-- a text's -/
def numT (s : ByteArray) : List UInt8 := Lib.uvarint s.size ++ s.data.toList
/-- a list's integers -/
def numsI (l : List Int) : List UInt8 := l.flatMap numI
/-- a list's -/
def numL (l : List Int) : List UInt8 := Lib.uvarint l.length ++ numsI l

theorem zigzag_lt (x : Int) (h0 : -9223372036854775808 ≤ x) (h1 : x ≤ 9223372036854775807) : Lib.zigzag x < 18446744073709551616 := by
  unfold Lib.zigzag; split <;> omega
theorem zigzag_inj (x : Int) : Lib.unzigzag (Lib.zigzag x) = x := by
  unfold Lib.unzigzag Lib.zigzag
  by_cases h : 0 ≤ x
  · rw [if_pos h, if_pos (by omega)]; omega
  · rw [if_neg h, if_neg (by omega)]; omega
theorem unzigzag_inj (n : Nat) : Lib.zigzag (Lib.unzigzag n) = n := by
  unfold Lib.unzigzag Lib.zigzag
  by_cases h : n % 2 = 0
  · rw [if_pos h, if_pos (by omega)]; omega
  · rw [if_neg h, if_neg (by omega)]; omega
theorem numI_len (x : Int) (h0 : -9223372036854775808 ≤ x) (h1 : x ≤ 9223372036854775807) : (numI x).length ≤ 10 :=
  Lib.uvarint_length64 (zigzag_lt x h0 h1)

/-- how many bytes of 128 or more stand at the beginning, k at most -/
def lead : List UInt8 → Nat → Nat
  | _, 0 => 0
  | [], _ => 0
  | b :: r, k + 1 => if 128 ≤ b.toNat then lead r k + 1 else 0
/-- what groups of seven bits are together -/
def val : List UInt8 → Nat
  | [] => 0
  | b :: r => b.toNat % 128 + 128 * val r
/-- what is wrong with the number at the beginning of l -/
def dE (l : List UInt8) : Int :=
  if lead l 10 = 10 then 21 else if l.length ≤ lead l 10 then 20
  else if (0 < lead l 10 ∧ (l.getD (lead l 10) 0).toNat = 0) ∨ (lead l 10 = 9 ∧ (l.getD (lead l 10) 0).toNat ≠ 1) then 21 else 0
/-- the number, and its bytes; 0, if there is none -/
def dV (l : List UInt8) : Nat := if dE l = 0 then val (l.take (lead l 10 + 1)) else 0
def dK (l : List UInt8) : Nat := if dE l = 0 then lead l 10 + 1 else 0

theorem lead_le : ∀ (l : List UInt8) k, lead l k ≤ k
  | _, 0 => by simp [lead]
  | [], k + 1 => by simp [lead]
  | b :: r, k + 1 => by simp only [lead]; split; · have := lead_le r k; omega
                        · omega
theorem lead_len : ∀ (l : List UInt8) k, lead l k ≤ l.length
  | _, 0 => by simp [lead]
  | [], k + 1 => by simp [lead]
  | b :: r, k + 1 => by simp only [lead]; split; · have := lead_len r k; simp; omega
                        · omega
theorem lead_big : ∀ (l : List UInt8) k j, j < lead l k → 128 ≤ (l.getD j 0).toNat
  | _, 0, j, h => by simp [lead] at h
  | [], k + 1, j, h => by simp [lead] at h
  | b :: r, k + 1, j, h => by
    simp only [lead] at h
    split at h
    · cases j with
      | zero => simpa
      | succ j => have := lead_big r k j (by omega); simpa using this
    · omega
/-- it stops at a small one, at the end, or at k -/
theorem lead_stop : ∀ (l : List UInt8) k, lead l k < k → lead l k < l.length → (l.getD (lead l k) 0).toNat < 128
  | _, 0, h, _ => by simp [lead] at h
  | [], k + 1, _, h => by simp at h
  | b :: r, k + 1, h, h2 => by
    by_cases hb : 128 ≤ b.toNat
    · have e : lead (b :: r) (k + 1) = lead r k + 1 := by simp [lead, hb]
      rw [e] at h h2 ⊢
      have := lead_stop r k (by omega) (by simpa using h2)
      simpa using this
    · have e : lead (b :: r) (k + 1) = 0 := by simp [lead, hb]
      rw [e]; simp; omega
theorem lead_eq (l : List UInt8) (k j : Nat) (hj : j ≤ k) (hl : j ≤ l.length) (hb : ∀ i, i < j → 128 ≤ (l.getD i 0).toNat) (hs : j = k ∨ j = l.length ∨ (l.getD j 0).toNat < 128) : lead l k = j := by
  rcases Nat.lt_trichotomy (lead l k) j with h | h | h
  · have := lead_stop l k (by omega) (by omega)
    have := hb _ h
    omega
  · exact h
  · have := lead_big l k j h
    have := lead_le l k
    have := lead_len l k
    omega
theorem val_lt : ∀ l : List UInt8, val l < 128 ^ l.length
  | [] => by simp [val]
  | b :: r => by
    have := val_lt r
    simp only [val, List.length_cons, Nat.pow_succ]
    omega
theorem val_snoc : ∀ (l : List UInt8) (b : UInt8), val (l ++ [b]) = val l + b.toNat % 128 * 128 ^ l.length
  | [], b => by simp [val]
  | a :: l, b => by
    have := val_snoc l b
    simp only [List.cons_append, val, this, List.length_cons, Nat.pow_succ]
    rw [Nat.mul_add, ← Nat.add_assoc]
    congr 1
    rw [Nat.mul_comm (128 ^ l.length) 128, ← Nat.mul_assoc, ← Nat.mul_assoc, Nat.mul_comm 128 (b.toNat % 128)]
theorem take_snoc8 (l : List UInt8) (k : Nat) (h : k < l.length) : l.take (k + 1) = l.take k ++ [l.getD k 0] := by
  rw [List.take_succ_eq_append_getElem h]; simp [List.getD, h]
theorem val_step (l : List UInt8) (k : Nat) (h : k < l.length) : val (l.take (k + 1)) = val (l.take k) + (l.getD k 0).toNat % 128 * 128 ^ k := by
  rw [take_snoc8 l k h, val_snoc]
  rw [List.length_take, Nat.min_eq_left (by omega)]
theorem val_take_lt (l : List UInt8) (k : Nat) : val (l.take k) < 128 ^ k := by
  refine Nat.lt_of_lt_of_le (val_lt _) (Nat.pow_le_pow_right (by decide) (by rw [List.length_take]; omega))

/-- a number's own bytes are read as it, whatever stands behind -/
theorem uv_lead : ∀ (n x : Nat) (r : List UInt8) (k : Nat), x ≤ n → (Lib.uvarint x).length ≤ k → lead (Lib.uvarint x ++ r) k + 1 = (Lib.uvarint x).length := by
  intro n
  induction n with
  | zero =>
    intro x r k hx hk
    obtain rfl : x = 0 := by omega
    rw [Lib.uvarint_small (by decide)] at hk ⊢
    obtain ⟨k, rfl⟩ : ∃ j, k = j + 1 := ⟨k - 1, by simp at hk; omega⟩
    simp [lead]
  | succ n ih =>
    intro x r k hx hk
    by_cases h : x < 128
    · rw [Lib.uvarint_small h] at hk ⊢
      obtain ⟨k, rfl⟩ : ∃ j, k = j + 1 := ⟨k - 1, by simp at hk; omega⟩
      have : (x.toUInt8).toNat = x := Lib.toUInt8_toNat (by omega)
      simp [lead, this]; omega
    · rw [Lib.uvarint_big (by omega)] at hk ⊢
      obtain ⟨k, rfl⟩ : ∃ j, k = j + 1 := ⟨k - 1, by simp at hk; omega⟩
      have e : ((x % 128 + 128).toUInt8).toNat = x % 128 + 128 := Lib.toUInt8_toNat (by omega)
      simp only [List.cons_append, lead, e, List.length_cons]
      rw [if_pos (by omega), ih (x / 128) r k (by omega) (by simp at hk; omega)]
theorem uv_val : ∀ (n x : Nat), x ≤ n → val (Lib.uvarint x) = x := by
  intro n
  induction n with
  | zero =>
    intro x hx
    obtain rfl : x = 0 := by omega
    rw [Lib.uvarint_small (by decide)]; simp [val]
  | succ n ih =>
    intro x hx
    by_cases h : x < 128
    · rw [Lib.uvarint_small h]
      have : (x.toUInt8).toNat = x := Lib.toUInt8_toNat (by omega)
      simp [val, this]; omega
    · rw [Lib.uvarint_big (by omega)]
      have e : ((x % 128 + 128).toUInt8).toNat = x % 128 + 128 := Lib.toUInt8_toNat (by omega)
      simp only [val, e]
      rw [ih (x / 128) (by omega)]; omega
theorem uv_last : ∀ (n x : Nat), x ≤ n → ((Lib.uvarint x).getD ((Lib.uvarint x).length - 1) 0).toNat = 0 → (Lib.uvarint x).length = 1 := by
  intro n
  induction n with
  | zero => intro x hx _; obtain rfl : x = 0 := by omega
            rw [Lib.uvarint_small (by decide)]; rfl
  | succ n ih =>
    intro x hx
    by_cases h : x < 128
    · rw [Lib.uvarint_small h]; simp
    · rw [Lib.uvarint_big (by omega)]
      intro h0
      have hp := Lib.uvarint_pos (x / 128)
      obtain ⟨m, hm⟩ : ∃ m, (Lib.uvarint (x / 128)).length = m + 1 := ⟨(Lib.uvarint (x / 128)).length - 1, by omega⟩
      have hd : ((Lib.uvarint (x / 128)).getD ((Lib.uvarint (x / 128)).length - 1) 0).toNat = 0 := by
        simp only [List.length_cons, Nat.add_sub_cancel, hm] at h0 ⊢
        simpa using h0
      have h1 := ih (x / 128) (by omega) hd
      by_cases hs : x / 128 < 128
      · rw [Lib.uvarint_small hs] at hd
        have : ((x / 128).toUInt8).toNat = x / 128 := Lib.toUInt8_toNat (by omega)
        simp [this] at hd
        omega
      · rw [Lib.uvarint_big (by omega)] at h1
        have := Lib.uvarint_pos (x / 128 / 128)
        simp at h1
        rw [h1] at this; simp at this
theorem uv_tenth (x : Nat) (hx : x < 18446744073709551616) (h : (Lib.uvarint x).length = 10) : ((Lib.uvarint x).getD 9 0).toNat = 1 := by
  have e := uv_val x x (Nat.le_refl _)
  have hs := val_step (Lib.uvarint x) 9 (by omega)
  rw [List.take_of_length_le (by omega), e] at hs
  have hl := val_take_lt (Lib.uvarint x) 9
  have hn : ((Lib.uvarint x).getD 9 0).toNat ≠ 0 := fun h0 => by
    have := uv_last x x (Nat.le_refl _) (by rw [h]; exact h0)
    omega
  have hk := uv_lead x x [] 10 (Nat.le_refl _) (by omega)
  rw [List.append_nil] at hk
  have hst := lead_stop (Lib.uvarint x) 10 (by omega) (by omega)
  rw [show lead (Lib.uvarint x) 10 = 9 by omega] at hst
  have h9 : (128 : Nat) ^ 9 = 9223372036854775808 := by decide
  rw [h9] at hs hl
  omega
theorem getD_app_left {l r : List UInt8} {k : Nat} (h : k < l.length) : (l ++ r).getD k 0 = l.getD k 0 := by
  simp [List.getD, List.getElem?_append_left h]
theorem uv_read (x : Nat) (hx : x < 18446744073709551616) (r : List UInt8) : dE (Lib.uvarint x ++ r) = 0 ∧ dV (Lib.uvarint x ++ r) = x ∧ dK (Lib.uvarint x ++ r) = (Lib.uvarint x).length := by
  have hl := Lib.uvarint_length64 hx
  have hp := Lib.uvarint_pos x
  have hk := uv_lead x x r 10 (Nat.le_refl _) hl
  have hE : dE (Lib.uvarint x ++ r) = 0 := by
    unfold dE
    rw [if_neg (by omega), if_neg (by rw [List.length_append]; omega), if_neg]
    rw [getD_app_left (by omega)]
    rintro (⟨h1, h2⟩ | ⟨h1, h2⟩)
    · have := uv_last x x (Nat.le_refl _) (by rw [show (Lib.uvarint x).length - 1 = lead (Lib.uvarint x ++ r) 10 by omega]; exact h2)
      omega
    · rw [h1] at h2
      exact h2 (uv_tenth x hx (by omega))
  refine ⟨hE, ?_, ?_⟩
  · unfold dV
    rw [if_pos hE, hk, List.take_left]
    exact uv_val x x (Nat.le_refl _)
  · unfold dK
    rw [if_pos hE, hk]
/-- the number that is read is one of 64 bits -/
theorem dV_lt (l : List UInt8) : dV l < 18446744073709551616 := by
  unfold dV
  by_cases h : dE l = 0
  · rw [if_pos h]
    unfold dE at h
    by_cases h1 : lead l 10 = 10
    · rw [if_pos h1] at h; omega
    · rw [if_neg h1] at h
      by_cases h2 : l.length ≤ lead l 10
      · rw [if_pos h2] at h; omega
      · rw [if_neg h2] at h
        by_cases h3 : (0 < lead l 10 ∧ (l.getD (lead l 10) 0).toNat = 0) ∨ (lead l 10 = 9 ∧ (l.getD (lead l 10) 0).toNat ≠ 1)
        · rw [if_pos h3] at h; omega
        · have hle := lead_le l 10
          by_cases h9 : lead l 10 = 9
          · have h8 : (l.getD 9 0).toNat = 1 := by
              rw [h9] at h3
              have : ¬ (9 = 9 ∧ (l.getD 9 0).toNat ≠ 1) := fun hh => h3 (.inr hh)
              omega
            rw [h9, val_step l 9 (by omega), h8]
            have := val_take_lt l 9
            have e9 : (128 : Nat) ^ 9 = 9223372036854775808 := by decide
            rw [e9] at this ⊢
            omega
          · have := val_take_lt l (lead l 10 + 1)
            have hm : (128 : Nat) ^ (lead l 10 + 1) ≤ 128 ^ 9 := Nat.pow_le_pow_right (by decide) (by omega)
            have e9 : (128 : Nat) ^ 9 = 9223372036854775808 := by decide
            omega
  · rw [if_neg h]; decide
/-- what was read, put again, is the bytes that were taken -/
theorem uv_of_val : ∀ (l : List UInt8), l ≠ [] → (∀ j, j + 1 < l.length → 128 ≤ (l.getD j 0).toNat) → (l.getD (l.length - 1) 0).toNat < 128 → (1 < l.length → (l.getD (l.length - 1) 0).toNat ≠ 0) → Lib.uvarint (val l) = l
  | [], h, _, _, _ => absurd rfl h
  | [b], _, _, h, _ => by
    have hb : b.toNat < 128 := by simpa using h
    have e : val [b] = b.toNat := by simp [val]; omega
    rw [e, Lib.uvarint_small hb]; simp [Nat.toUInt8]
  | b :: c :: r, _, h1, h2, h3 => by
    have hb : 128 ≤ b.toNat := by have := h1 0 (by simp); simpa using this
    have hlt : b.toNat < 256 := b.toNat_lt
    have ih := uv_of_val (c :: r) (by simp) (fun j hj => by have := h1 (j + 1) (by simpa using hj); simpa using this) (by simpa using h2) (fun _ => by have := h3 (by simp); simpa using this)
    have e : val (b :: c :: r) = b.toNat % 128 + 128 * val (c :: r) := rfl
    have hpos : 0 < val (c :: r) := by
      rcases Nat.eq_zero_or_pos (val (c :: r)) with h0 | h0
      · rw [h0, Lib.uvarint_small (by decide)] at ih
        have h4 := h3 (by simp)
        cases r with
        | nil =>
          simp at ih
          rw [← ih] at h4
          simp at h4
        | cons d r => simp at ih
      · exact h0
    rw [e, Lib.uvarint_big (by omega)]
    have e1 : (b.toNat % 128 + 128 * val (c :: r)) % 128 + 128 = b.toNat := by omega
    have e2 : (b.toNat % 128 + 128 * val (c :: r)) / 128 = val (c :: r) := by omega
    rw [e1, e2, ih]
    simp [Nat.toUInt8]
theorem dE_parts (l : List UInt8) (h : dE l = 0) : lead l 10 < 10 ∧ lead l 10 < l.length ∧ ¬ (0 < lead l 10 ∧ (l.getD (lead l 10) 0).toNat = 0) ∧ ¬ (lead l 10 = 9 ∧ (l.getD (lead l 10) 0).toNat ≠ 1) := by
  have hle := lead_le l 10
  unfold dE at h
  by_cases h1 : lead l 10 = 10
  · rw [if_pos h1] at h; omega
  · rw [if_neg h1] at h
    by_cases h2 : l.length ≤ lead l 10
    · rw [if_pos h2] at h; omega
    · rw [if_neg h2] at h
      by_cases h3 : (0 < lead l 10 ∧ (l.getD (lead l 10) 0).toNat = 0) ∨ (lead l 10 = 9 ∧ (l.getD (lead l 10) 0).toNat ≠ 1)
      · rw [if_pos h3] at h; omega
      · exact ⟨by omega, by omega, fun hh => h3 (.inl hh), fun hh => h3 (.inr hh)⟩
theorem dE_zero (l : List UInt8) (h1 : lead l 10 < 10) (h2 : lead l 10 < l.length) (h3 : ¬ (0 < lead l 10 ∧ (l.getD (lead l 10) 0).toNat = 0)) (h4 : ¬ (lead l 10 = 9 ∧ (l.getD (lead l 10) 0).toNat ≠ 1)) : dE l = 0 := by
  unfold dE
  rw [if_neg (by omega), if_neg (by omega), if_neg (fun hh => hh.elim h3 h4)]
theorem uv_again (l : List UInt8) (h : dE l = 0) : Lib.uvarint (dV l) = l.take (dK l) ∧ dK l ≤ l.length ∧ 0 < dK l := by
  obtain ⟨h1, h2, h3, h4⟩ := dE_parts l h
  have eV : dV l = val (l.take (lead l 10 + 1)) := by unfold dV; rw [if_pos h]
  have eK : dK l = lead l 10 + 1 := by unfold dK; rw [if_pos h]
  rw [eV, eK]
  refine ⟨?_, by omega, by omega⟩
  have hlen : (l.take (lead l 10 + 1)).length = lead l 10 + 1 := by rw [List.length_take]; omega
  have hg : ∀ j, j < lead l 10 + 1 → (l.take (lead l 10 + 1)).getD j 0 = l.getD j 0 := fun j hj => by simp [List.getD, hj]
  refine uv_of_val _ (by intro h0; rw [h0] at hlen; simp at hlen) (fun j hj => ?_) ?_ (fun hh => ?_)
  · rw [hg j (by omega)]; exact lead_big l 10 j (by omega)
  · rw [hlen, hg _ (by omega)]; exact lead_stop l 10 h1 h2
  · rw [hlen, hg _ (by omega), Nat.add_sub_cancel]; exact fun h0 => h3 ⟨by omega, h0⟩
theorem dE_cases (l : List UInt8) : dE l = 0 ∨ dE l = 20 ∨ dE l = 21 := by
  unfold dE
  by_cases h1 : lead l 10 = 10
  · rw [if_pos h1]; omega
  · rw [if_neg h1]
    by_cases h2 : l.length ≤ lead l 10
    · rw [if_pos h2]; omega
    · rw [if_neg h2]; split <;> omega
end Go.Proofs.Ytkcmcgmonkeajaa
