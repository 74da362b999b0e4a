/- The check of bytes, bit by bit and by a table: the plain part. -/
import Derived.Lib.Hide
namespace Go.Proofs.Ytnffjoflkeagfaa.Fr

/-- half, and what is odd -/
def halve (c : Nat) : Nat := if c % 2 = 1 then (c / 2) ^^^ 2197175160 else c / 2
/-- n halvings -/
def halves : Nat → Nat → Nat
  | 0, c => c
  | n + 1, c => halves n (halve c)
def h8 (c : Nat) : Nat := halves 8 c
def step (c : Nat) (b : UInt8) : Nat := h8 (c ^^^ b.toNat)
def crc (c : Nat) (l : List UInt8) : Nat := l.foldl step c
/-- the check -/
def sumL (l : List UInt8) : Nat := crc 4294967295 l ^^^ 4294967295

theorem xor_lt32 {a b : Nat} (ha : a < 4294967296) (hb : b < 4294967296) : a ^^^ b < 4294967296 := Nat.xor_lt_two_pow (n := 32) ha hb
theorem xor_lt8 {a b : Nat} (ha : a < 256) (hb : b < 256) : a ^^^ b < 256 := Nat.xor_lt_two_pow (n := 8) ha hb
theorem xor_cancel {a b c : Nat} (h : a ^^^ c = b ^^^ c) : a = b := by
  have e := congrArg (· ^^^ c) h
  simpa [Nat.xor_assoc] using e
theorem xor_eq0 {a b : Nat} (h : a ^^^ b = 0) : a = b := xor_cancel (c := b) (by rw [h, Nat.xor_self])
theorem xor_mod2 (a b : Nat) : (a ^^^ b) % 2 = (a % 2) ^^^ (b % 2) := Nat.xor_mod_two_pow (n := 1)
theorem halve_lt {c : Nat} (h : c < 4294967296) : halve c < 4294967296 := by
  unfold halve; split
  · exact xor_lt32 (by omega) (by decide)
  · omega
theorem halves_lt : ∀ (n : Nat) {c : Nat}, c < 4294967296 → halves n c < 4294967296
  | 0, _, h => h
  | n + 1, _, h => halves_lt n (halve_lt h)
theorem h8_lt {c : Nat} (h : c < 4294967296) : h8 c < 4294967296 := halves_lt 8 h
theorem halve_xor (a b : Nat) : halve (a ^^^ b) = halve a ^^^ halve b := by
  unfold halve
  rw [xor_mod2, Nat.xor_div_two]
  rcases Nat.mod_two_eq_zero_or_one a with ha | ha <;> rcases Nat.mod_two_eq_zero_or_one b with hb | hb <;> simp [ha, hb]
  · exact Nat.xor_assoc _ _ _
  · rw [Nat.xor_assoc, Nat.xor_assoc, Nat.xor_comm (b / 2)]
  · rw [Nat.xor_assoc, Nat.xor_comm (b / 2), ← Nat.xor_assoc 2197175160, Nat.xor_self, Nat.zero_xor]
theorem halves_xor : ∀ (n a b : Nat), halves n (a ^^^ b) = halves n a ^^^ halves n b
  | 0, _, _ => rfl
  | n + 1, a, b => by simp only [halves]; rw [halve_xor, halves_xor n]
theorem halve_zero {c : Nat} (h : c < 4294967296) (h0 : halve c = 0) : c = 0 := by
  unfold halve at h0
  by_cases hc : c % 2 = 1
  · rw [if_pos hc] at h0
    have := xor_eq0 h0
    omega
  · rw [if_neg hc] at h0; omega
theorem halves_zero : ∀ (n : Nat) {c : Nat}, c < 4294967296 → halves n c = 0 → c = 0
  | 0, _, _, h => h
  | n + 1, _, h, h0 => halve_zero h (halves_zero n (halve_lt h) h0)
theorem halves_snoc : ∀ (n c : Nat), halves (n + 1) c = halve (halves n c)
  | 0, _ => rfl
  | n + 1, c => halves_snoc n (halve c)
theorem h8_inj {a b : Nat} (ha : a < 4294967296) (hb : b < 4294967296) (h : h8 a = h8 b) : a = b := by
  refine xor_eq0 (halves_zero 8 (xor_lt32 ha hb) ?_)
  rw [halves_xor]
  show h8 a ^^^ h8 b = 0
  rw [h, Nat.xor_self]
/-- no odd one, eight times: the bits move down -/
theorem halves_even : ∀ (n c : Nat), halves n (c * 2 ^ n) = c
  | 0, c => by simp [halves]
  | n + 1, c => by
    simp only [halves]
    have e : halve (c * 2 ^ (n + 1)) = c * 2 ^ n := by
      unfold halve
      rw [Nat.pow_succ, ← Nat.mul_assoc, if_neg (by omega), Nat.mul_div_cancel _ (by decide)]
    rw [e, halves_even n c]
theorem xor_parts (x : Nat) : (x / 256 * 256) ^^^ (x % 256) = x := by
  apply Nat.eq_of_testBit_eq
  intro i
  rw [Nat.testBit_xor]
  have e1 : (x / 256 * 256).testBit i = (decide (8 ≤ i) && x.testBit i) := by
    rw [show x / 256 * 256 = x / 2 ^ 8 * 2 ^ 8 from rfl, Nat.testBit_mul_two_pow, Nat.testBit_div_two_pow]
    by_cases h : 8 ≤ i
    · simp [h]
    · simp [h]
  have e2 : (x % 256).testBit i = (decide (i < 8) && x.testBit i) := by
    rw [show x % 256 = x % 2 ^ 8 from rfl, Nat.testBit_mod_two_pow]
  rw [e1, e2]
  by_cases h : 8 ≤ i
  · simp [h, show ¬ i < 8 by omega]
  · simp [h, show i < 8 by omega]
/-- a table of the lowest eight bits is enough -/
theorem h8_table (x : Nat) : h8 x = x / 256 ^^^ h8 (x % 256) := by
  have e : h8 (x / 256 * 256 ^^^ x % 256) = h8 (x / 256 * 256) ^^^ h8 (x % 256) := halves_xor 8 _ _
  rw [xor_parts] at e
  rw [e]
  congr 1
  exact halves_even 8 _
theorem xor_div256 (c b : Nat) (hb : b < 256) : (c ^^^ b) / 256 = c / 256 := by
  rw [show (c ^^^ b) / 256 = (c ^^^ b) / 2 ^ 8 from rfl, Nat.xor_div_two_pow, show b / 2 ^ 8 = 0 by omega, Nat.xor_zero]
theorem xor_mod256 (c b : Nat) (hb : b < 256) : (c ^^^ b) % 256 = (c % 256) ^^^ b := by
  rw [show (c ^^^ b) % 256 = (c ^^^ b) % 2 ^ 8 from rfl, Nat.xor_mod_two_pow, show b % 2 ^ 8 = b by omega]
theorem step_table (c : Nat) (b : UInt8) : step c b = c / 256 ^^^ h8 ((c % 256) ^^^ b.toNat) := by
  unfold step
  rw [h8_table, xor_div256 _ _ b.toNat_lt, xor_mod256 _ _ b.toNat_lt]
theorem step_lt {c : Nat} (b : UInt8) (h : c < 4294967296) : step c b < 4294967296 := h8_lt (xor_lt32 h (by have := b.toNat_lt; omega))
theorem crc_lt : ∀ (l : List UInt8) {c : Nat}, c < 4294967296 → crc c l < 4294967296
  | [], _, h => h
  | b :: l, _, h => crc_lt l (step_lt b h)
theorem crc_append (c : Nat) (a b : List UInt8) : crc c (a ++ b) = crc (crc c a) b := List.foldl_append
theorem crc_snoc (c : Nat) (a : List UInt8) (b : UInt8) : crc c (a ++ [b]) = step (crc c a) b := by rw [crc_append]; rfl
theorem sumL_lt (l : List UInt8) : sumL l < 4294967296 := xor_lt32 (crc_lt l (by decide)) (by decide)
theorem step_inj {c d : Nat} (b : UInt8) (hc : c < 4294967296) (hd : d < 4294967296) (h : step c b = step d b) : c = d :=
  xor_cancel (h8_inj (xor_lt32 hc (by have := b.toNat_lt; omega)) (xor_lt32 hd (by have := b.toNat_lt; omega)) h)
theorem crc_inj : ∀ (l : List UInt8) {c d : Nat}, c < 4294967296 → d < 4294967296 → crc c l = crc d l → c = d
  | [], _, _, _, _, h => h
  | b :: l, _, _, hc, hd, h => step_inj b hc hd (crc_inj l (step_lt b hc) (step_lt b hd) h)
theorem step_byte {c : Nat} {a b : UInt8} (hc : c < 4294967296) (h : step c a = step c b) : a = b := by
  have e := h8_inj (xor_lt32 hc (by have := a.toNat_lt; omega)) (xor_lt32 hc (by have := b.toNat_lt; omega)) h
  rw [Nat.xor_comm c, Nat.xor_comm c] at e
  exact UInt8.toNat_inj.1 (xor_cancel e)
/-- one byte is another one: so is the check -/
theorem sumL_byte (p r : List UInt8) (a b : UInt8) (h : sumL (p ++ a :: r) = sumL (p ++ b :: r)) : a = b := by
  have h1 : crc 4294967295 (p ++ a :: r) = crc 4294967295 (p ++ b :: r) := xor_cancel h
  rw [crc_append, crc_append] at h1
  have hp := crc_lt p (c := 4294967295) (by decide)
  exact step_byte hp (crc_inj r (step_lt a hp) (step_lt b hp) h1)

/-- a number as four bytes, the lowest first -/
def four (n : Nat) : List UInt8 := [(n % 256).toUInt8, (n / 256 % 256).toUInt8, (n / 65536 % 256).toUInt8, (n / 16777216 % 256).toUInt8]
/-- four bytes as a number -/
def num4 (l : List UInt8) : Nat := (l.getD 0 0).toNat + 256 * (l.getD 1 0).toNat + 65536 * (l.getD 2 0).toNat + 16777216 * (l.getD 3 0).toNat
theorem toUInt8_nat {n : Nat} (h : n < 256) : (n.toUInt8).toNat = n := by
  simp [Nat.toUInt8, UInt8.toNat_ofNat']; omega
theorem four_length (n : Nat) : (four n).length = 4 := rfl
theorem num4_lt (l : List UInt8) : num4 l < 4294967296 := by
  have h0 := (l.getD 0 0).toNat_lt
  have h1 := (l.getD 1 0).toNat_lt
  have h2 := (l.getD 2 0).toNat_lt
  have h3 := (l.getD 3 0).toNat_lt
  unfold num4; omega
theorem num4_four (n : Nat) (h : n < 4294967296) (r : List UInt8) : num4 (four n ++ r) = n := by
  have e : num4 (four n ++ r) = ((n % 256).toUInt8).toNat + 256 * ((n / 256 % 256).toUInt8).toNat + 65536 * ((n / 65536 % 256).toUInt8).toNat + 16777216 * ((n / 16777216 % 256).toUInt8).toNat := rfl
  rw [e, toUInt8_nat (by omega), toUInt8_nat (by omega), toUInt8_nat (by omega), toUInt8_nat (by omega)]
  omega
theorem four_num4 (a b c d : UInt8) (r : List UInt8) : four (num4 (a :: b :: c :: d :: r)) = [a, b, c, d] := by
  have e : num4 (a :: b :: c :: d :: r) = a.toNat + 256 * b.toNat + 65536 * c.toNat + 16777216 * d.toNat := rfl
  have h0 := a.toNat_lt
  have h1 := b.toNat_lt
  have h2 := c.toNat_lt
  have h3 := d.toNat_lt
  rw [e]
  unfold four
  rw [show (a.toNat + 256 * b.toNat + 65536 * c.toNat + 16777216 * d.toNat) % 256 = a.toNat by omega,
    show (a.toNat + 256 * b.toNat + 65536 * c.toNat + 16777216 * d.toNat) / 256 % 256 = b.toNat by omega,
    show (a.toNat + 256 * b.toNat + 65536 * c.toNat + 16777216 * d.toNat) / 65536 % 256 = c.toNat by omega,
    show (a.toNat + 256 * b.toNat + 65536 * c.toNat + 16777216 * d.toNat) / 16777216 % 256 = d.toNat by omega]
  simp [Nat.toUInt8]
theorem four_take (l : List UInt8) (h : 4 ≤ l.length) : four (num4 l) = l.take 4 := by
  match l, h with
  | a :: b :: c :: d :: r, _ => rw [four_num4]; rfl
theorem num4_take (l : List UInt8) (n : Nat) (h : 4 ≤ n) : num4 (l.take n) = num4 l := by
  unfold num4
  have e : ∀ j, j < 4 → (l.take n).getD j 0 = l.getD j 0 := fun j hj => by simp [List.getD, List.getElem?_take, show j < n by omega]
  rw [e 0 (by omega), e 1 (by omega), e 2 (by omega), e 3 (by omega)]
end Go.Proofs.Ytnffjoflkeagfaa.Fr
