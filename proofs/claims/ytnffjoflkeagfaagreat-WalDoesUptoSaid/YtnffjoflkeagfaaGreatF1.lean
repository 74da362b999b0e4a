/- The check of bytes, bit by bit and by a table: the plain part. Frames, lists of frames, what is scanned: the plain part. Small laws on worlds: lists that a call was handed, or handed back, read later. The table: halve, makeTable. The table's sum; Sum. Sum: a table of its own. Four bytes as a number, and a number as four bytes. -/
import Derived.Lib.Hide
import Derived.Test.YtnffjoflkeagfaaGreatChecked
import Derived.WalkKit
import Derived.WalkSpells
import Derived.WalkLawsBesides
import Derived.IntWalk
import Derived.Laws.BitsAllLaws
import Derived.Laws.IdiomStrings
import Derived.OwnWalk
import Derived.Below
import Derived.Outline
import Derived.Lib.OthersKept
import Derived.Lib.ConvBytes
import Derived.Deep.QuietTactic
import Derived.BigQuiet
import Derived.Deep.WholeRow
import Derived.Lib.Strings
namespace Go.Proofs.YtnffjoflkeagfaaGreat.Fr

/-- half, and what is odd -/
def halve (c : Nat) : Nat := if c % 2 = 1 then (c / 2) ^^^ 2197175160 else c / 2
/-- n halvings -/
def halves : Nat → Nat → Nat
  | 0, c => c
  | n + 1, c => halves n (halve c)
def h8 (c : Nat) : Nat := halves 8 c
def step (c : Nat) (b : UInt8) : Nat := h8 (c ^^^ b.toNat)
def crc (c : Nat) (l : List UInt8) : Nat := l.foldl step c
/-- the check -/
def sumL (l : List UInt8) : Nat := crc 4294967295 l ^^^ 4294967295

theorem xor_lt32 {a b : Nat} (ha : a < 4294967296) (hb : b < 4294967296) : a ^^^ b < 4294967296 := Nat.xor_lt_two_pow (n := 32) ha hb
theorem xor_lt8 {a b : Nat} (ha : a < 256) (hb : b < 256) : a ^^^ b < 256 := Nat.xor_lt_two_pow (n := 8) ha hb
theorem xor_cancel {a b c : Nat} (h : a ^^^ c = b ^^^ c) : a = b := by
  have e := congrArg (· ^^^ c) h
  simpa [Nat.xor_assoc] using e
theorem xor_eq0 {a b : Nat} (h : a ^^^ b = 0) : a = b := xor_cancel (c := b) (by rw [h, Nat.xor_self])
theorem xor_mod2 (a b : Nat) : (a ^^^ b) % 2 = (a % 2) ^^^ (b % 2) := Nat.xor_mod_two_pow (n := 1)
theorem halve_lt {c : Nat} (h : c < 4294967296) : halve c < 4294967296 := by
  unfold halve; split
  · exact xor_lt32 (by omega) (by decide)
  · omega
theorem halves_lt : ∀ (n : Nat) {c : Nat}, c < 4294967296 → halves n c < 4294967296
  | 0, _, h => h
  | n + 1, _, h => halves_lt n (halve_lt h)
theorem h8_lt {c : Nat} (h : c < 4294967296) : h8 c < 4294967296 := halves_lt 8 h
theorem halve_xor (a b : Nat) : halve (a ^^^ b) = halve a ^^^ halve b := by
  unfold halve
  rw [xor_mod2, Nat.xor_div_two]
  rcases Nat.mod_two_eq_zero_or_one a with ha | ha <;> rcases Nat.mod_two_eq_zero_or_one b with hb | hb <;> simp [ha, hb]
  · exact Nat.xor_assoc _ _ _
  · rw [Nat.xor_assoc, Nat.xor_assoc, Nat.xor_comm (b / 2)]
  · rw [Nat.xor_assoc, Nat.xor_comm (b / 2), ← Nat.xor_assoc 2197175160, Nat.xor_self, Nat.zero_xor]
theorem halves_xor : ∀ (n a b : Nat), halves n (a ^^^ b) = halves n a ^^^ halves n b
  | 0, _, _ => rfl
  | n + 1, a, b => by simp only [halves]; rw [halve_xor, halves_xor n]
theorem halve_zero {c : Nat} (h : c < 4294967296) (h0 : halve c = 0) : c = 0 := by
  unfold halve at h0
  by_cases hc : c % 2 = 1
  · rw [if_pos hc] at h0
    have := xor_eq0 h0
    omega
  · rw [if_neg hc] at h0; omega
theorem halves_zero : ∀ (n : Nat) {c : Nat}, c < 4294967296 → halves n c = 0 → c = 0
  | 0, _, _, h => h
  | n + 1, _, h, h0 => halve_zero h (halves_zero n (halve_lt h) h0)
theorem halves_snoc : ∀ (n c : Nat), halves (n + 1) c = halve (halves n c)
  | 0, _ => rfl
  | n + 1, c => halves_snoc n (halve c)
theorem h8_inj {a b : Nat} (ha : a < 4294967296) (hb : b < 4294967296) (h : h8 a = h8 b) : a = b := by
  refine xor_eq0 (halves_zero 8 (xor_lt32 ha hb) ?_)
  rw [halves_xor]
  show h8 a ^^^ h8 b = 0
  rw [h, Nat.xor_self]
/-- no odd one, eight times: the bits move down -/
theorem halves_even : ∀ (n c : Nat), halves n (c * 2 ^ n) = c
  | 0, c => by simp [halves]
  | n + 1, c => by
    simp only [halves]
    have e : halve (c * 2 ^ (n + 1)) = c * 2 ^ n := by
      unfold halve
      rw [Nat.pow_succ, ← Nat.mul_assoc, if_neg (by omega), Nat.mul_div_cancel _ (by decide)]
    rw [e, halves_even n c]
theorem xor_parts (x : Nat) : (x / 256 * 256) ^^^ (x % 256) = x := by
  apply Nat.eq_of_testBit_eq
  intro i
  rw [Nat.testBit_xor]
  have e1 : (x / 256 * 256).testBit i = (decide (8 ≤ i) && x.testBit i) := by
    rw [show x / 256 * 256 = x / 2 ^ 8 * 2 ^ 8 from rfl, Nat.testBit_mul_two_pow, Nat.testBit_div_two_pow]
    by_cases h : 8 ≤ i
    · simp [h]
    · simp [h]
  have e2 : (x % 256).testBit i = (decide (i < 8) && x.testBit i) := by
    rw [show x % 256 = x % 2 ^ 8 from rfl, Nat.testBit_mod_two_pow]
  rw [e1, e2]
  by_cases h : 8 ≤ i
  · simp [h, show ¬ i < 8 by omega]
  · simp [h, show i < 8 by omega]
/-- a table of the lowest eight bits is enough -/
theorem h8_table (x : Nat) : h8 x = x / 256 ^^^ h8 (x % 256) := by
  have e : h8 (x / 256 * 256 ^^^ x % 256) = h8 (x / 256 * 256) ^^^ h8 (x % 256) := halves_xor 8 _ _
  rw [xor_parts] at e
  rw [e]
  congr 1
  exact halves_even 8 _
theorem xor_div256 (c b : Nat) (hb : b < 256) : (c ^^^ b) / 256 = c / 256 := by
  rw [show (c ^^^ b) / 256 = (c ^^^ b) / 2 ^ 8 from rfl, Nat.xor_div_two_pow, show b / 2 ^ 8 = 0 by omega, Nat.xor_zero]
theorem xor_mod256 (c b : Nat) (hb : b < 256) : (c ^^^ b) % 256 = (c % 256) ^^^ b := by
  rw [show (c ^^^ b) % 256 = (c ^^^ b) % 2 ^ 8 from rfl, Nat.xor_mod_two_pow, show b % 2 ^ 8 = b by omega]
theorem step_table (c : Nat) (b : UInt8) : step c b = c / 256 ^^^ h8 ((c % 256) ^^^ b.toNat) := by
  unfold step
  rw [h8_table, xor_div256 _ _ b.toNat_lt, xor_mod256 _ _ b.toNat_lt]
theorem step_lt {c : Nat} (b : UInt8) (h : c < 4294967296) : step c b < 4294967296 := h8_lt (xor_lt32 h (by have := b.toNat_lt; omega))
theorem crc_lt : ∀ (l : List UInt8) {c : Nat}, c < 4294967296 → crc c l < 4294967296
  | [], _, h => h
  | b :: l, _, h => crc_lt l (step_lt b h)
theorem crc_append (c : Nat) (a b : List UInt8) : crc c (a ++ b) = crc (crc c a) b := List.foldl_append
theorem crc_snoc (c : Nat) (a : List UInt8) (b : UInt8) : crc c (a ++ [b]) = step (crc c a) b := by rw [crc_append]; rfl
theorem sumL_lt (l : List UInt8) : sumL l < 4294967296 := xor_lt32 (crc_lt l (by decide)) (by decide)
theorem step_inj {c d : Nat} (b : UInt8) (hc : c < 4294967296) (hd : d < 4294967296) (h : step c b = step d b) : c = d :=
  xor_cancel (h8_inj (xor_lt32 hc (by have := b.toNat_lt; omega)) (xor_lt32 hd (by have := b.toNat_lt; omega)) h)
theorem crc_inj : ∀ (l : List UInt8) {c d : Nat}, c < 4294967296 → d < 4294967296 → crc c l = crc d l → c = d
  | [], _, _, _, _, h => h
  | b :: l, _, _, hc, hd, h => step_inj b hc hd (crc_inj l (step_lt b hc) (step_lt b hd) h)
theorem step_byte {c : Nat} {a b : UInt8} (hc : c < 4294967296) (h : step c a = step c b) : a = b := by
  have e := h8_inj (xor_lt32 hc (by have := a.toNat_lt; omega)) (xor_lt32 hc (by have := b.toNat_lt; omega)) h
  rw [Nat.xor_comm c, Nat.xor_comm c] at e
  exact UInt8.toNat_inj.1 (xor_cancel e)
/-- one byte is another one: so is the check -/
theorem sumL_byte (p r : List UInt8) (a b : UInt8) (h : sumL (p ++ a :: r) = sumL (p ++ b :: r)) : a = b := by
  have h1 : crc 4294967295 (p ++ a :: r) = crc 4294967295 (p ++ b :: r) := xor_cancel h
  rw [crc_append, crc_append] at h1
  have hp := crc_lt p (c := 4294967295) (by decide)
  exact step_byte hp (crc_inj r (step_lt a hp) (step_lt b hp) h1)

/-- a number as four bytes, the lowest first -/
def four (n : Nat) : List UInt8 := [(n % 256).toUInt8, (n / 256 % 256).toUInt8, (n / 65536 % 256).toUInt8, (n / 16777216 % 256).toUInt8]
/-- four bytes as a number -/
def num4 (l : List UInt8) : Nat := (l.getD 0 0).toNat + 256 * (l.getD 1 0).toNat + 65536 * (l.getD 2 0).toNat + 16777216 * (l.getD 3 0).toNat
theorem toUInt8_nat {n : Nat} (h : n < 256) : (n.toUInt8).toNat = n := by
  simp [Nat.toUInt8, UInt8.toNat_ofNat']; omega
theorem four_length (n : Nat) : (four n).length = 4 := rfl
theorem num4_lt (l : List UInt8) : num4 l < 4294967296 := by
  have h0 := (l.getD 0 0).toNat_lt
  have h1 := (l.getD 1 0).toNat_lt
  have h2 := (l.getD 2 0).toNat_lt
  have h3 := (l.getD 3 0).toNat_lt
  unfold num4; omega
theorem num4_four (n : Nat) (h : n < 4294967296) (r : List UInt8) : num4 (four n ++ r) = n := by
  have e : num4 (four n ++ r) = ((n % 256).toUInt8).toNat + 256 * ((n / 256 % 256).toUInt8).toNat + 65536 * ((n / 65536 % 256).toUInt8).toNat + 16777216 * ((n / 16777216 % 256).toUInt8).toNat := rfl
  rw [e, toUInt8_nat (by omega), toUInt8_nat (by omega), toUInt8_nat (by omega), toUInt8_nat (by omega)]
  omega
theorem four_num4 (a b c d : UInt8) (r : List UInt8) : four (num4 (a :: b :: c :: d :: r)) = [a, b, c, d] := by
  have e : num4 (a :: b :: c :: d :: r) = a.toNat + 256 * b.toNat + 65536 * c.toNat + 16777216 * d.toNat := rfl
  have h0 := a.toNat_lt
  have h1 := b.toNat_lt
  have h2 := c.toNat_lt
  have h3 := d.toNat_lt
  rw [e]
  unfold four
  rw [show (a.toNat + 256 * b.toNat + 65536 * c.toNat + 16777216 * d.toNat) % 256 = a.toNat by omega,
    show (a.toNat + 256 * b.toNat + 65536 * c.toNat + 16777216 * d.toNat) / 256 % 256 = b.toNat by omega,
    show (a.toNat + 256 * b.toNat + 65536 * c.toNat + 16777216 * d.toNat) / 65536 % 256 = c.toNat by omega,
    show (a.toNat + 256 * b.toNat + 65536 * c.toNat + 16777216 * d.toNat) / 16777216 % 256 = d.toNat by omega]
  simp [Nat.toUInt8]
theorem four_take (l : List UInt8) (h : 4 ≤ l.length) : four (num4 l) = l.take 4 := by
  match l, h with
  | a :: b :: c :: d :: r, _ => rw [four_num4]; rfl
theorem num4_take (l : List UInt8) (n : Nat) (h : 4 ≤ n) : num4 (l.take n) = num4 l := by
  unfold num4
  have e : ∀ j, j < 4 → (l.take n).getD j 0 = l.getD j 0 := fun j hj => by simp [List.getD, List.getElem?_take, show j < n by omega]
  rw [e 0 (by omega), e 1 (by omega), e 2 (by omega), e 3 (by omega)]
end Go.Proofs.YtnffjoflkeagfaaGreat.Fr
namespace Go.Proofs.YtnffjoflkeagfaaGreat.Fr

/-- the frame of bytes -/
def frameL (b : List UInt8) : List UInt8 := four b.length ++ (four (sumL (four b.length ++ b)) ++ b)
/-- what was framed at the beginning, if it is a frame -/
def fB (l : List UInt8) : List UInt8 := (l.drop 8).take (num4 l)
/-- what is wrong with the frame at the beginning -/
def fE (l : List UInt8) : Int :=
  if l.length < 8 then 30 else if 65536 < num4 l then 31 else if l.length - 8 < num4 l then 30
  else if sumL (l.take 4 ++ fB l) ≠ num4 (l.drop 4) then 32 else 0
def scanF : Nat → List UInt8 → List (List UInt8) × Nat
  | 0, _ => ([], 0)
  | n + 1, l => if fE l = 0 then (fB l :: (scanF n (l.drop (8 + num4 l))).1, 8 + num4 l + (scanF n (l.drop (8 + num4 l))).2) else ([], 0)
/-- frame behind frame -/
def scan (l : List UInt8) : List (List UInt8) × Nat := scanF l.length l
def joinL (ls : List (List UInt8)) : List UInt8 := ls.flatMap frameL

theorem frameL_length (b : List UInt8) : (frameL b).length = 8 + b.length := by
  unfold frameL; rw [List.length_append, List.length_append, four_length, four_length]; omega
theorem fE_cases (l : List UInt8) : fE l = 0 ∨ fE l = 30 ∨ fE l = 31 ∨ fE l = 32 := by
  unfold fE; split
  · omega
  · split
    · omega
    · split
      · omega
      · split <;> omega
theorem fE_short {l : List UInt8} (h : l.length < 8) : fE l = 30 := by unfold fE; rw [if_pos h]
theorem fE_long {l : List UInt8} (h : ¬ l.length < 8) (h1 : 65536 < num4 l) : fE l = 31 := by unfold fE; rw [if_neg h, if_pos h1]
theorem fE_less {l : List UInt8} (h : ¬ l.length < 8) (h1 : ¬ 65536 < num4 l) (h2 : l.length - 8 < num4 l) : fE l = 30 := by unfold fE; rw [if_neg h, if_neg h1, if_pos h2]
theorem fE_sum {l : List UInt8} (h : ¬ l.length < 8) (h1 : ¬ 65536 < num4 l) (h2 : ¬ l.length - 8 < num4 l) (h3 : sumL (l.take 4 ++ fB l) ≠ num4 (l.drop 4)) : fE l = 32 := by
  unfold fE; rw [if_neg h, if_neg h1, if_neg h2, if_pos h3]
theorem fE_ok {l : List UInt8} (h : ¬ l.length < 8) (h1 : ¬ 65536 < num4 l) (h2 : ¬ l.length - 8 < num4 l) (h3 : sumL (l.take 4 ++ fB l) = num4 (l.drop 4)) : fE l = 0 := by
  unfold fE; rw [if_neg h, if_neg h1, if_neg h2, if_neg (fun hh => hh h3)]
theorem fE_parts {l : List UInt8} (h : fE l = 0) : 8 ≤ l.length ∧ num4 l ≤ 65536 ∧ 8 + num4 l ≤ l.length ∧ sumL (l.take 4 ++ fB l) = num4 (l.drop 4) := by
  by_cases h0 : l.length < 8
  · rw [fE_short h0] at h; omega
  · by_cases h1 : 65536 < num4 l
    · rw [fE_long h0 h1] at h; omega
    · by_cases h2 : l.length - 8 < num4 l
      · rw [fE_less h0 h1 h2] at h; omega
      · by_cases h3 : sumL (l.take 4 ++ fB l) = num4 (l.drop 4)
        · exact ⟨by omega, by omega, by omega, h3⟩
        · rw [fE_sum h0 h1 h2 h3] at h; omega
theorem fB_length {l : List UInt8} (h : fE l = 0) : (fB l).length = num4 l := by
  have := fE_parts h
  unfold fB; rw [List.length_take, List.length_drop]; omega
/-- how much a frame takes, whatever stands behind -/
theorem scanF_eq : ∀ (n m : Nat) (l : List UInt8), l.length ≤ n → l.length ≤ m → scanF n l = scanF m l
  | 0, 0, _, _, _ => rfl
  | 0, m + 1, l, hn, _ => by
    have hs : fE l = 30 := fE_short (by omega)
    simp only [scanF]; rw [if_neg (by rw [hs]; decide)]
  | n + 1, 0, l, _, hm => by
    have hs : fE l = 30 := fE_short (by omega)
    simp only [scanF]; rw [if_neg (by rw [hs]; decide)]
  | n + 1, m + 1, l, hn, hm => by
    simp only [scanF]
    by_cases h : fE l = 0
    · have hp := fE_parts h
      rw [if_pos h, if_pos h, scanF_eq n m (l.drop (8 + num4 l)) (by rw [List.length_drop]; omega) (by rw [List.length_drop]; omega)]
    · rw [if_neg h, if_neg h]
theorem scan_ok {l : List UInt8} (h : fE l = 0) : scan l = (fB l :: (scan (l.drop (8 + num4 l))).1, 8 + num4 l + (scan (l.drop (8 + num4 l))).2) := by
  have hp := fE_parts h
  obtain ⟨n, hn⟩ : ∃ n, l.length = n + 1 := ⟨l.length - 1, by omega⟩
  have e : scanF n (l.drop (8 + num4 l)) = scan (l.drop (8 + num4 l)) := scanF_eq _ _ _ (by rw [List.length_drop]; omega) (Nat.le_refl _)
  have e2 : scan l = scanF (n + 1) l := by unfold scan; rw [hn]
  rw [e2]
  simp only [scanF]
  rw [if_pos h, e]
theorem scan_end {l : List UInt8} (h : fE l ≠ 0) : scan l = ([], 0) := by
  unfold scan
  cases hl : l.length with
  | zero => rfl
  | succ n => simp only [scanF]; rw [if_neg h]
theorem frame_read (b r : List UInt8) (hb : b.length ≤ 65536) : fE (frameL b ++ r) = 0 ∧ fB (frameL b ++ r) = b ∧ num4 (frameL b ++ r) = b.length := by
  have hn : num4 (frameL b ++ r) = b.length := by
    unfold frameL; rw [List.append_assoc]; exact num4_four _ (by omega) _
  have hd : (frameL b ++ r).drop 8 = b ++ r := by
    unfold frameL
    have e : four b.length ++ (four (sumL (four b.length ++ b)) ++ b) ++ r = (four b.length ++ four (sumL (four b.length ++ b))) ++ (b ++ r) := by simp
    rw [e, List.drop_append_of_le_length (by rw [List.length_append, four_length, four_length]; omega)]
    rw [List.drop_of_length_le (by rw [List.length_append, four_length, four_length]; omega)]; rfl
  have hB : fB (frameL b ++ r) = b := by
    unfold fB; rw [hn, hd, List.take_left]
  have hl : (frameL b ++ r).length = 8 + b.length + r.length := by rw [List.length_append, frameL_length]
  refine ⟨fE_ok (by omega) (by omega) (by omega) ?_, hB, hn⟩
  rw [hB]
  have h4 : (frameL b ++ r).take 4 = four b.length := by unfold frameL; rfl
  have h5 : (frameL b ++ r).drop 4 = four (sumL (four b.length ++ b)) ++ (b ++ r) := by
    unfold frameL; rw [List.append_assoc, List.append_assoc]; rfl
  rw [h4, h5, num4_four _ (sumL_lt _)]
theorem drop_frame (b r : List UInt8) : (frameL b ++ r).drop (8 + b.length) = r := by
  rw [← frameL_length, List.drop_left]
theorem scan_frame (b r : List UInt8) (hb : b.length ≤ 65536) : scan (frameL b ++ r) = (b :: (scan r).1, 8 + b.length + (scan r).2) := by
  obtain ⟨h1, h2, h3⟩ := frame_read b r hb
  rw [scan_ok h1, h2, h3, drop_frame]
theorem joinL_cons (b : List UInt8) (ls : List (List UInt8)) : joinL (b :: ls) = frameL b ++ joinL ls := by simp [joinL]
/-- whole frames, and whatever stands behind -/
theorem scan_join : ∀ (ls : List (List UInt8)) (r : List UInt8), (∀ b ∈ ls, b.length ≤ 65536) → scan (joinL ls ++ r) = (ls ++ (scan r).1, (joinL ls).length + (scan r).2)
  | [], r, _ => by simp [joinL]
  | b :: ls, r, h => by
    rw [joinL_cons, List.append_assoc, scan_frame b _ (h b (by simp)), scan_join ls r (fun x hx => h x (by simp [hx])), List.length_append, frameL_length]
    simp only [List.cons_append, Prod.mk.injEq, true_and]
    omega
theorem scan_nil : scan [] = ([], 0) := rfl
theorem scan_join0 (ls : List (List UInt8)) (h : ∀ b ∈ ls, b.length ≤ 65536) : scan (joinL ls) = (ls, (joinL ls).length) := by
  have := scan_join ls [] h
  rw [List.append_nil, scan_nil, List.append_nil] at this
  simpa using this
/-- cut anywhere: the first ones that are whole -/
theorem scan_cut : ∀ (ls : List (List UInt8)) (k : Nat), (∀ b ∈ ls, b.length ≤ 65536) →
    ∃ m, m ≤ ls.length ∧ scan ((joinL ls).take k) = (ls.take m, (joinL (ls.take m)).length) ∧ (joinL (ls.take m)).length ≤ k ∧ (m = ls.length ∨ k < (joinL (ls.take m)).length + 8 + (ls.getD m []).length)
  | [], k, _ => ⟨0, by simp, by simp [joinL, scan_nil], by simp [joinL], .inl rfl⟩
  | b :: ls, k, h => by
    have hb := h b (by simp)
    rw [joinL_cons]
    by_cases hk : 8 + b.length ≤ k
    · obtain ⟨m, h1, h2, h3, h4⟩ := scan_cut ls (k - (8 + b.length)) (fun x hx => h x (by simp [hx]))
      have e : (frameL b ++ joinL ls).take k = frameL b ++ (joinL ls).take (k - (8 + b.length)) := by
        rw [List.take_append, frameL_length, List.take_of_length_le (by rw [frameL_length]; exact hk)]
      refine ⟨m + 1, by simp; omega, ?_, ?_, ?_⟩
      · rw [e, scan_frame b _ hb, h2, List.take_succ_cons, joinL_cons, List.length_append, frameL_length]
      · rw [List.take_succ_cons, joinL_cons, List.length_append, frameL_length]; omega
      · rw [List.take_succ_cons, joinL_cons, List.length_append, frameL_length]
        rcases h4 with h4 | h4
        · left; simp; omega
        · right
          have e2 : (b :: ls).getD (m + 1) [] = ls.getD m [] := by simp [List.getD]
          rw [e2]; omega
    · refine ⟨0, by simp, ?_, by simp [joinL], .inr (by simp [joinL]; omega)⟩
      have hl : ((frameL b ++ joinL ls).take k).length = min k (8 + b.length + (joinL ls).length) := by rw [List.length_take, List.length_append, frameL_length]
      have hn : fE ((frameL b ++ joinL ls).take k) ≠ 0 := by
        by_cases h8 : k < 8
        · rw [fE_short (by omega)]; decide
        · have hnn : num4 ((frameL b ++ joinL ls).take k) = b.length := by
            rw [num4_take _ _ (by omega)]
            exact (frame_read b _ hb).2.2
          rw [fE_less (by omega) (by omega) (by omega)]; decide
      rw [scan_end hn]; simp [joinL]
/-- one byte behind the first four is another one -/
theorem frame_harm (b r : List UInt8) (hb : b.length ≤ 65536) (k : Nat) (x : UInt8) (hk4 : 4 ≤ k) (hk : k < 8 + b.length) (hx : x ≠ (frameL b).getD k 0) : fE ((frameL b).set k x ++ r) = 32 := by
  obtain ⟨p0, p1, p2, p3, hp⟩ : ∃ p0 p1 p2 p3, four b.length = [p0, p1, p2, p3] := ⟨_, _, _, _, rfl⟩
  have hS := sumL_lt (four b.length ++ b)
  have HS : four (sumL (four b.length ++ b)) = four (sumL (four b.length ++ b)) := rfl
  obtain ⟨q0, q1, q2, q3, hq⟩ : ∃ q0 q1 q2 q3, four (sumL (four b.length ++ b)) = [q0, q1, q2, q3] := ⟨_, _, _, _, rfl⟩
  have hqn : num4 [q0, q1, q2, q3] = sumL (four b.length ++ b) := by
    rw [← hq]; have := num4_four _ hS []; simpa using this
  have hpn : num4 [p0, p1, p2, p3] = b.length := by
    rw [← hp]; have := num4_four b.length (by omega) []; simpa using this
  have hf : frameL b = p0 :: p1 :: p2 :: p3 :: q0 :: q1 :: q2 :: q3 :: b := by unfold frameL; rw [hq, hp]; rfl
  rw [hf] at hx ⊢
  rw [hp] at hqn
  by_cases h8 : k < 8
  · have hcase : ∃ a0 a1 a2 a3, (p0 :: p1 :: p2 :: p3 :: q0 :: q1 :: q2 :: q3 :: b).set k x = p0 :: p1 :: p2 :: p3 :: a0 :: a1 :: a2 :: a3 :: b ∧ [a0, a1, a2, a3] ≠ [q0, q1, q2, q3] := by
      obtain rfl | rfl | rfl | rfl : k = 4 ∨ k = 5 ∨ k = 6 ∨ k = 7 := by omega
      · exact ⟨x, q1, q2, q3, rfl, fun e => hx (by simp at e; simp [e])⟩
      · exact ⟨q0, x, q2, q3, rfl, fun e => hx (by simp at e; simp [e])⟩
      · exact ⟨q0, q1, x, q3, rfl, fun e => hx (by simp at e; simp [e])⟩
      · exact ⟨q0, q1, q2, x, rfl, fun e => hx (by simp at e; simp [e])⟩
    obtain ⟨a0, a1, a2, a3, e, hne⟩ := hcase
    rw [e]
    have hn : num4 (p0 :: p1 :: p2 :: p3 :: a0 :: a1 :: a2 :: a3 :: b ++ r) = b.length := hpn
    have hB : fB (p0 :: p1 :: p2 :: p3 :: a0 :: a1 :: a2 :: a3 :: b ++ r) = b := by
      unfold fB; rw [hn]; show (b ++ r).take b.length = b; exact List.take_left
    have hl : (p0 :: p1 :: p2 :: p3 :: a0 :: a1 :: a2 :: a3 :: b ++ r).length = 8 + b.length + r.length := by simp; omega
    refine fE_sum (by omega) (by omega) (by omega) ?_
    rw [hB]
    show sumL ([p0, p1, p2, p3] ++ b) ≠ num4 (a0 :: a1 :: a2 :: a3 :: (b ++ r))
    intro h
    rw [← hqn] at h
    have e1 := four_num4 a0 a1 a2 a3 (b ++ r)
    rw [← h, four_num4 q0 q1 q2 q3 []] at e1
    exact hne e1.symm
  · obtain ⟨j, rfl⟩ : ∃ j, k = j + 8 := ⟨k - 8, by omega⟩
    have hj : j < b.length := by omega
    have e : (p0 :: p1 :: p2 :: p3 :: q0 :: q1 :: q2 :: q3 :: b).set (j + 8) x = p0 :: p1 :: p2 :: p3 :: q0 :: q1 :: q2 :: q3 :: b.set j x := rfl
    have hx2 : x ≠ b.getD j 0 := by simpa [List.getD] using hx
    rw [e]
    have hsl : (b.set j x).length = b.length := by simp
    have hn : num4 (p0 :: p1 :: p2 :: p3 :: q0 :: q1 :: q2 :: q3 :: b.set j x ++ r) = b.length := hpn
    have hB : fB (p0 :: p1 :: p2 :: p3 :: q0 :: q1 :: q2 :: q3 :: b.set j x ++ r) = b.set j x := by
      unfold fB; rw [hn, ← hsl]; show (b.set j x ++ r).take (b.set j x).length = b.set j x; exact List.take_left
    have hl : (p0 :: p1 :: p2 :: p3 :: q0 :: q1 :: q2 :: q3 :: b.set j x ++ r).length = 8 + b.length + r.length := by simp; omega
    refine fE_sum (by omega) (by omega) (by omega) ?_
    rw [hB]
    show sumL ([p0, p1, p2, p3] ++ b.set j x) ≠ num4 (q0 :: q1 :: q2 :: q3 :: (b.set j x ++ r))
    intro h
    have e4 : num4 (q0 :: q1 :: q2 :: q3 :: (b.set j x ++ r)) = num4 [q0, q1, q2, q3] := rfl
    rw [e4, hqn] at h
    have hb2 : b = b.take j ++ b.getD j 0 :: b.drop (j + 1) := by
      have := List.drop_eq_getElem_cons hj
      have e5 : b.getD j 0 = b[j] := by simp [List.getD, hj]
      rw [e5, ← this, List.take_append_drop]
    have hset : b.set j x = b.take j ++ x :: b.drop (j + 1) := List.set_eq_take_append_cons_drop .. |>.trans (if_pos hj)
    have h1 : [p0, p1, p2, p3] ++ b.set j x = ([p0, p1, p2, p3] ++ b.take j) ++ x :: b.drop (j + 1) := by rw [hset, List.append_assoc]
    have h2 : [p0, p1, p2, p3] ++ b = ([p0, p1, p2, p3] ++ b.take j) ++ b.getD j 0 :: b.drop (j + 1) := by
      rw [List.append_assoc, ← hb2]
    rw [h1, h2] at h
    exact hx2 (sumL_byte _ _ _ _ h)
end Go.Proofs.YtnffjoflkeagfaaGreat.Fr
namespace Go.Proofs.YtnffjoflkeagfaaGreat.Fr
open Go.RowKit

theorem ret_int {k : IntKind} {a b : Int} (h : a = b) : Ending.returned (.int k a) = .returned (.int k b) := by rw [h]
theorem ret_bool {a b : Bool} (h : a = b) : Ending.returned (.bool a) = .returned (.bool b) := by rw [h]
theorem add_zero_off (g j : Nat) : (⟨g, 0, none⟩ : Addr).add j = ⟨g, j, none⟩ := by unfold Addr.add; split <;> simp_all

/-- a slice value reads as these cells -/
def ListAt (w : World) (v : Value) (n : Nat) (xs : List Value) : Prop :=
  xs.length = n ∧ ∃ a cap, v = .slice a n cap ∧ n ≤ cap ∧ (n = 0 ∨ ∃ b off, a = some ⟨b, off, none⟩ ∧ b < w.heap.size ∧ ∀ j u, xs[j]? = some u → w.cell? ⟨b, off + j, none⟩ = some u)
theorem ListAt.below {w w' : World} {v : Value} {n : Nat} {xs : List Value} (h : ListAt w v n xs) (hb : Below w.heap.size w w') : ListAt w' v n xs := by
  obtain ⟨h1, a, cap, rfl, hcap, h2⟩ := h
  refine ⟨h1, a, cap, rfl, hcap, ?_⟩
  rcases h2 with h2 | ⟨b, off, rfl, hlt, hc⟩
  · exact .inl h2
  · exact .inr ⟨b, off, rfl, Nat.lt_of_lt_of_le hlt hb.size, fun j u hu => (hb.cell (p := ⟨b, off + j, none⟩) hlt).trans (hc j u hu)⟩
theorem ListAt.of_own {w : World} {B : Nat} {e : TypeId} {v : Value} {n : Nat} {xs : List Value} (h : w.ownsRow B e 1 v n xs) : ListAt w v n xs := by
  refine ⟨by have := h.1; omega, ?_⟩
  have hc := fun g hg => h.cells (g := g) hg
  have hlt := h.lt
  rcases h.2 with ⟨rfl, rfl⟩ | ⟨g, cap, cur, rfl, _, hg, hcap, _⟩
  · exact ⟨_, _, rfl, Nat.le_refl _, .inl rfl⟩
  · refine ⟨_, _, rfl, hcap, .inr ⟨g, 0, rfl, (hlt g rfl).2, fun j u hu => ?_⟩⟩
    have := hc g rfl j u hu
    rw [add_zero_off] at this; rw [Nat.zero_add]; exact this
/-- .. in a block from B on -/
def ListNew (B : Nat) (w : World) (v : Value) (n : Nat) (xs : List Value) : Prop :=
  xs.length = n ∧ ∃ a cap, v = .slice a n cap ∧ n ≤ cap ∧ (n = 0 ∨ ∃ b off, a = some ⟨b, off, none⟩ ∧ B ≤ b ∧ b < w.heap.size ∧ ∀ j u, xs[j]? = some u → w.cell? ⟨b, off + j, none⟩ = some u)
theorem ListNew.at_ {B : Nat} {w : World} {v : Value} {n : Nat} {xs : List Value} (h : ListNew B w v n xs) : ListAt w v n xs := by
  obtain ⟨h1, a, cap, rfl, hcap, h2⟩ := h
  refine ⟨h1, a, cap, rfl, hcap, ?_⟩
  rcases h2 with h2 | ⟨b, off, rfl, _, hlt, hc⟩
  · exact .inl h2
  · exact .inr ⟨b, off, rfl, hlt, hc⟩
theorem ListNew.of_own {w : World} {B : Nat} {e : TypeId} {v : Value} {n : Nat} {xs : List Value} (h : w.ownsRow B e 1 v n xs) : ListNew B w v n xs := by
  refine ⟨by have := h.1; omega, ?_⟩
  have hc := fun g hg => h.cells (g := g) hg
  have hlt := h.lt
  rcases h.2 with ⟨rfl, rfl⟩ | ⟨g, cap, cur, rfl, _, hg, hcap, _⟩
  · exact ⟨_, _, rfl, Nat.le_refl _, .inl rfl⟩
  · refine ⟨_, _, rfl, hcap, .inr ⟨g, 0, rfl, (hlt g rfl).1, (hlt g rfl).2, fun j u hu => ?_⟩⟩
    have := hc g rfl j u hu
    rw [add_zero_off] at this; rw [Nat.zero_add]; exact this
theorem ListNew.but {B p : Nat} {w w' : World} {v : Value} {n : Nat} {xs : List Value} (h : ListNew B w v n xs) (hb : w.grownBy w' (some p)) (hp : p < B) : ListNew B w' v n xs := by
  obtain ⟨h1, a, cap, rfl, hcap, h2⟩ := h
  refine ⟨h1, a, cap, rfl, hcap, ?_⟩
  rcases h2 with h2 | ⟨b, off, rfl, hB, hlt, hc⟩
  · exact .inl h2
  · have e1 := hb.block b hlt (by simp; omega)
    exact .inr ⟨b, off, rfl, hB, Nat.lt_of_lt_of_le hlt hb.size, fun j u hu => (World.cell?_of_block (a := ⟨b, off + j, none⟩) e1).trans (hc j u hu)⟩
theorem ListNew.mono {B C : Nat} {w : World} {v : Value} {n : Nat} {xs : List Value} (h : ListNew B w v n xs) (hC : C ≤ B) : ListNew C w v n xs := by
  obtain ⟨h1, a, cap, rfl, hcap, h2⟩ := h
  refine ⟨h1, a, cap, rfl, hcap, ?_⟩
  rcases h2 with h2 | ⟨b, off, rfl, hB, r⟩
  · exact .inl h2
  · exact .inr ⟨b, off, rfl, Nat.le_trans hC hB, r⟩
theorem bt {B : Nat} {a b c : World} (h : Below B a b) (k : Below b.heap.size b c) (hB : B ≤ b.heap.size) : Below B a c := h.trans (k.mono hB)
theorem bw {a b c : World} (h : Below a.heap.size a b) (k : Below b.heap.size b c) : Below a.heap.size a c := h.trans (k.mono h.size)
theorem below_drewN {B : Nat} {a w : World} (h : Below B a w) : ∀ q, Below B a (w.drewN q)
  | 0 => h
  | q + 1 => by
    have := below_drewN h q
    exact ⟨this.os, this.tape, this.output, this.size, this.block⟩
/-- a list of numbers as cells, of integers, of texts -/
abbrev cellsOf {α : Type} (c : α → Value) (l : List α) : List Value := l.map c
theorem ListAt.get {α : Type} {c : α → Value} {w : World} {l : List α} {b off k : Nat} {x : α} (h : ∀ j u, (cellsOf c l)[j]? = some u → w.cell? ⟨b, off + j, none⟩ = some u) (hk : l[k]? = some x) : w.cell? ⟨b, off + k, none⟩ = some (c x) :=
  h k (c x) (by simp [cellsOf, List.getElem?_map, hk])
theorem take_snocA {α : Type} (l : List α) (k : Nat) (x : α) (h : l[k]? = some x) : l.take (k + 1) = l.take k ++ [x] := by
  obtain ⟨hk, rfl⟩ := List.getElem?_eq_some_iff.1 h
  rw [List.take_succ_eq_append_getElem hk]
theorem flat_le {α : Type} (f : α → List UInt8) (c : Nat) (l : List α) (h : ∀ x ∈ l, (f x).length ≤ c) : (l.flatMap f).length ≤ c * l.length := by
  induction l with
  | nil => simp
  | cons a l ih =>
    have h1 := h a (by simp)
    have h2 := ih (fun x hx => h x (by simp [hx]))
    simp only [List.flatMap_cons, List.length_append, List.length_cons]
    rw [Nat.mul_add]; omega
theorem flat_take {α : Type} (f : α → List UInt8) (l : List α) (k : Nat) : ((l.take k).flatMap f).length ≤ (l.flatMap f).length := by
  have h : l.flatMap f = (l.take k).flatMap f ++ (l.drop k).flatMap f := by rw [← List.flatMap_append, List.take_append_drop]
  rw [h, List.length_append]; omega
/-- the bytes b, and these behind them -/
def withB (b : ByteArray) (l : List UInt8) : ByteArray := ⟨(b.data.toList ++ l).toArray⟩
theorem withB_list (b : ByteArray) (l : List UInt8) : (withB b l).data.toList = b.data.toList ++ l := by simp [withB]
theorem withB_nil (b : ByteArray) : withB b [] = b := by
  apply ByteArray.ext; simp [withB]
theorem withB_with (b : ByteArray) (l r : List UInt8) : withB (withB b l) r = withB b (l ++ r) := by
  apply ByteArray.ext; simp [withB]
theorem withB_size (b : ByteArray) (l : List UInt8) : (withB b l).size = b.size + l.length := by
  rw [Lib.size_eq, withB_list, List.length_append, ← Lib.size_eq]
end Go.Proofs.YtnffjoflkeagfaaGreat.Fr
namespace Go.Proofs.YtnffjoflkeagfaaGreat.Fr
open Go.RowKit

set_option maxHeartbeats 1000000 in
theorem halve_any (c : Nat) (w : World) (hc : c < 4294967296) :
    Calls Tryz.prog 81 #[.int .u32 c] w fun e w' => e = .returned (.int .u32 (halve c : Nat)) ∧ w = w' := by
  have ha := u32_and_nat c 1 hc (by decide)
  rw [show ((1 : Nat) : Int) = 1 from rfl, nat_mask1] at ha
  by_cases h : c % 2 = 1
  · have hb : (bits .and .u32 (c : Int) 1 == 1) = true := by rw [ha]; simp; omega
    clear ha
    go_enter Tryz.func81, Tryz.ntmps81
    go_wp2
    go_ret
    refine ⟨ret_int ?_, rfl⟩
    unfold halve
    have := u32_xor_nat (c / 2) 2197175160 (by omega) (by decide)
    rw [if_pos h, ← this]
    first | rfl | (congr 1; done) | (congr 1; omega)
  · have hb : (bits .and .u32 (c : Int) 1 == 1) = false := by rw [ha]; simp; omega
    clear ha
    go_enter Tryz.func81, Tryz.ntmps81
    go_wp2
    go_ret
    refine ⟨ret_int ?_, rfl⟩
    unfold halve
    rw [if_neg h]; omega

/-- the table's cells, k of them filled -/
def tabC (k : Nat) : Array Value := ((List.range 256).map fun i => Value.int .u32 ((if i < k then h8 i else 0 : Nat) : Int)).toArray
theorem tabC_size (k : Nat) : (tabC k).size = 256 := by unfold tabC; simp
theorem tabC_at (k i : Nat) (hi : i < 256) : (tabC k)[i]? = some (.int .u32 ((if i < k then h8 i else 0 : Nat) : Int)) := by
  unfold tabC
  rw [List.getElem?_toArray, List.getElem?_map, List.getElem?_range hi]; rfl
theorem tabC_zero : tabC 0 = Array.replicate 256 (.int .u32 0) := by
  apply Array.ext_getElem?
  intro i
  by_cases hi : i < 256
  · rw [tabC_at 0 i hi, Array.getElem?_replicate, if_pos hi]; rfl
  · rw [Array.getElem?_eq_none (by rw [tabC_size]; omega), Array.getElem?_eq_none (by simp; omega)]
theorem tabC_set (k : Nat) (hk : k < 256) : (tabC k).setIfInBounds k (.int .u32 (h8 k : Nat)) = tabC (k + 1) := by
  apply Array.ext_getElem?
  intro i
  by_cases hi : i < 256
  · rw [Array.getElem?_setIfInBounds, tabC_at _ i hi, tabC_at _ i hi]
    by_cases h : k = i
    · subst h
      rw [if_pos rfl, if_pos (by rw [tabC_size]; exact hk), if_pos (by omega)]
    · rw [if_neg h]
      by_cases h2 : i < k
      · rw [if_pos h2, if_pos (by omega)]
      · rw [if_neg h2, if_neg (by omega)]
  · rw [Array.getElem?_eq_none (by simp [tabC_size]; omega), Array.getElem?_eq_none (by rw [tabC_size]; omega)]
theorem tabC_one (k : Nat) : (tabC k).all (·.oneCell') = true := by
  rw [Array.all_eq_true_iff_forall_mem]
  intro v hv
  unfold tabC at hv
  simp only [List.mem_toArray, List.mem_map] at hv
  obtain ⟨i, _, rfl⟩ := hv
  rfl
theorem infoTab : (Tryz.prog.info? 97).map (fun i => (i.zero, i.size)) = some (some (.agg (Array.replicate 256 (.int .u32 0))), 256) := by kernel_rfl
/-- the table lies in this block -/
def Tab (p : Nat) (w : World) : Prop := p < w.heap.size ∧ ∀ i, i < 256 → w.cell? ⟨p, i, none⟩ = some (.int .u32 (h8 i : Nat))
theorem Tab.below {p : Nat} {w w' : World} {B : Nat} (h : Tab p w) (hb : Below B w w') (hp : p < B) : Tab p w' :=
  ⟨Nat.lt_of_lt_of_le h.1 hb.size, fun i hi => (hb.cell (p := ⟨p, i, none⟩) hp).trans (h.2 i hi)⟩
theorem Tab.new (w : World) : Tab w.heap.size (w.alloc (.cells (tabC 256) 97)) := by
  refine ⟨by simp, fun i hi => ?_⟩
  rw [World.cell?_alloc_new, tabC_at 256 i hi, if_pos hi]

theorem below_setRow {B : Nat} (w : World) (g : Nat) (cs : Array Value) (h : B ≤ g) : Below B w (w.setRow g cs) :=
  ⟨rfl, rfl, rfl, by simp, fun k hk => setRow_other w g k cs (by omega)⟩
set_option maxHeartbeats 4000000 in
set_option maxRecDepth 1000000 in
theorem makeTable_any (w : World) :
    Calls Tryz.prog 57 #[] w fun e w' => e = .returned (.agg (tabC 256)) ∧ Below w.heap.size w w' := by
  obtain ⟨hz, hi⟩ := zero_of_info infoTab
  rw [← tabC_zero] at hz
  go_enter Tryz.func57, Tryz.ntmps57
  go_wp2
  go_loopw [4] (fun i wr => ∃ k : Nat, k ≤ 256 ∧ i = .int .u32 k ∧ wr = (w.alloc (.cells (tabC 0) 97)).alloc (.cells (tabC k) 97)) (fun i _ => 256 - (intOf i).toNat)
  case atStart => exact ⟨0, by omega, rfl, rfl⟩
  case round =>
    obtain ⟨k, hk, rfl, rfl⟩ := hrel
    by_cases hlt : k < 256
    · have hki : (k : Int) < 256 := by omega
      have HS := Lib.hid (tabC_set k hlt)
      go_wp2
      go_loop [3, 8] (fun c j => ∃ (m : Nat), m ≤ 8 ∧ j = .int .i64 m ∧ c = .int .u32 (halves m k : Nat)) (fun _ j => 8 - (intOf j).toNat)
      case atStart => exact ⟨0, by omega, rfl, rfl⟩
      case round =>
        obtain ⟨m, hm, rfl, rfl⟩ := hrel
        by_cases hm8 : m < 8
        · have hmi : (m : Int) < 8 := by omega
          have hh := fun w' => halve_any (halves m k) w' (halves_lt m (by omega))
          have HN := Lib.hid (halves_snoc m k)
          generalize halves m k = c at *
          go_wp2_with fail
          refine (hh _).mono ?_
          rintro e w1 ⟨rfl, rfl⟩
          go_wp2
          go_round
          case rel => exact ⟨m + 1, by omega, by go_num, by rw [HN.out]⟩
          case measure => simp [intOf]; omega
        · obtain rfl : m = 8 := by omega
          have hk2 : k < (tabC k).size := by rw [tabC_size]; omega
          go_wp2
          go_roundw
          case rel => exact ⟨k + 1, by omega, by go_num, by rw [← HS.out]; rfl⟩
          case measure => simp [intOf]; omega
    · obtain rfl : k = 256 := by omega
      have hg := heap_alloc2_new w (.cells (tabC 0) 97) (.cells (tabC 256) 97)
      have hg0 := heap_alloc2_old w (.cells (tabC 0) 97) (.cells (tabC 256) 97)
      have hi2 : (Tryz.prog.info? 97).map (·.size) = some (tabC 256).size := by rw [tabC_size]; exact hi
      have hsz : (tabC 0).size = (tabC 256).size := by rw [tabC_size, tabC_size]
      have HB : Hid (Below w.heap.size w (((w.alloc (.cells (tabC 0) 97)).alloc (.cells (tabC 256) 97)).setRow w.heap.size (tabC 256))) :=
        (((Below.refl _ _).alloc (Nat.le_refl _) _).alloc (by simp) _).trans (below_setRow _ _ _ (Nat.le_refl _))
      have HG := Lib.hid hg
      have HG0 := Lib.hid hg0
      have HI := Lib.hid hi2
      have HSZ := Lib.hid hsz
      clear hg hg0 hi2 hsz hi
      go_wp2_with (first
        | (refine wpList_load_row rfl 97 (.tmp 1) rfl (w.heap.size + 1) rfl 97 (tabC 256) (0, 0) _ HG.out Tryz.underlying97 rfl HI.out ?_)
        | (refine wpList_store_row rfl 97 (.tmp 0) (.tmp 17) rfl w.heap.size (tabC 256) rfl rfl 97 (tabC 0) HG0.out HI.out HSZ.out (tabC_one _) ?_))
      refine bodyPost_ret (v := .agg (tabC 256)) (results_cell_row rfl _ _ w.heap.size 97 (tabC 256) (0, 0) _ rfl (setRow_heap _ _ (tabC 0) _ _ _ HG0.out) Tryz.underlying97 rfl HI.out) rfl ⟨rfl, HB.out⟩
end Go.Proofs.YtnffjoflkeagfaaGreat.Fr
namespace Go.Proofs.YtnffjoflkeagfaaGreat.Fr
open Go.RowKit

abbrev strC : ByteArray → Value := fun c => .string c
/-- a text's bytes -/
abbrev bs (s : ByteArray) : List UInt8 := s.data.toList
/-- .. of all, one behind the other -/
def catL (l : List ByteArray) : List UInt8 := l.flatMap bs
theorem catL_snoc (l : List ByteArray) (k : Nat) (x : ByteArray) (h : l[k]? = some x) : catL (l.take (k + 1)) = catL (l.take k) ++ bs x := by
  rw [take_snocA l k x h]; simp [catL]
theorem take_snocB (s : ByteArray) (k : Nat) (h : k < s.size) : (bs s).take (k + 1) = (bs s).take k ++ [s[k]] := by
  rw [List.take_succ_eq_append_getElem (by simpa using h)]; rfl
theorem u8_wrap_nat (c : Nat) : IntKind.u8.wrap (c : Int) = ((c % 256 : Nat) : Int) := by rw [IntKind.wrap_u8']; omega

set_option maxHeartbeats 4000000 in
set_option maxRecDepth 100000 in
theorem sum_any (p : Nat) (v : Value) (l : List ByteArray) (w : World) (ht : Tab p w) (hl : ListAt w v l.length (cellsOf strC l)) (hn : l.length ≤ 1099511627776) (hs : ∀ c ∈ l, c.size ≤ 9223372036854775807) :
    Calls Tryz.prog 66 #[.pointer (some ⟨p, 0, none⟩), v] w fun e w' => e = .returned (.int .u32 (sumL (catL l) : Nat)) ∧ ∃ q, w' = w.drewN q := by
  obtain ⟨_, aa, cap, rfl, _, hc⟩ := hl
  have HC := Lib.hid hc
  have HT := Lib.hid ht
  clear hc ht
  go_enter Tryz.func66, Tryz.ntmps66
  go_wp2
  go_loopw [5, 11] (fun vc i wr => ∃ (k c q : Nat), k ≤ l.length ∧ i = .int .i64 k ∧ vc = .int .u32 c ∧ c < 4294967296 ∧ Hid (c = crc 4294967295 (catL (l.take k))) ∧ wr = w.drewN q) (fun _ i _ => l.length - (intOf i).toNat)
  case atStart => exact ⟨0, 4294967295, 0, by omega, rfl, rfl, by decide, by simp [catL, crc, Hid], rfl⟩
  case round =>
    obtain ⟨k, c, q, hk, rfl, rfl, hc32, hc, rfl⟩ := hrel
    by_cases hlt : k < l.length
    · obtain ⟨x, hx⟩ : ∃ x, l[k]? = some x := ⟨l[k], List.getElem?_eq_getElem hlt⟩
      obtain ⟨ba, offa, rfl, hba, hca⟩ := HC.out.resolve_left (by omega)
      have c1 := ListAt.get hca hx
      have hxs := hs x (List.mem_of_getElem? hx)
      have HX := Lib.hid (catL_snoc l k x hx)
      clear hca hx
      go_wp2
      go_loopw [5, 17] (fun vd j wr => ∃ (m d q : Nat), m ≤ x.size ∧ j = .int .i64 m ∧ vd = .int .u32 d ∧ d < 4294967296 ∧ Hid (d = crc c ((bs x).take m)) ∧ wr = w.drewN q) (fun _ j _ => x.size - (intOf j).toNat)
      case atStart => exact ⟨0, c, q, by omega, rfl, rfl, hc32, by simp [crc, Hid], rfl⟩
      case round =>
        obtain ⟨m, d, q2, hm, rfl, rfl, hd32, hd, rfl⟩ := hrel
        by_cases hmx : m < x.size
        · have hbl := x[m].toNat_lt
          have hxr := u8_xor_nat (d % 256) x[m].toNat (by omega) hbl
          rw [show ((d % 256 : Nat) : Int) = (d : Int) % 256 by omega] at hxr
          have hX := xor_lt8 (a := d % 256) (b := x[m].toNat) (by omega) hbl
          have hcell := HT.out.2 (d % 256 ^^^ x[m].toNat) hX
          have hS := step_lt x[m] hd32
          have hxr2 := u32_xor_nat (d / 256) (h8 (d % 256 ^^^ x[m].toNat)) (by omega) (h8_lt (by omega))
          rw [← step_table d x[m], show ((d / 256 : Nat) : Int) = (d : Int) / 256 by omega] at hxr2
          have HD : Hid (step d x[m] = crc c ((bs x).take (m + 1))) := by
            show _ = _
            rw [take_snocB x m hmx, crc_snoc, ← hd]
          have hmi : (m : Int) < (x.size : Int) := by omega
          have hXi : ((d % 256 ^^^ x[m].toNat : Nat) : Int) < 256 := by omega
          generalize h8 (d % 256 ^^^ x[m].toNat) = H at *
          generalize d % 256 ^^^ x[m].toNat = X at *
          generalize step d x[m] = S at *
          go_wp2
          go_quiet (fail)
          go_wp2
          go_roundw
          case rel => exact ⟨m + 1, S, _, by omega, by go_num, rfl, hS, HD, rfl⟩
          case measure => simp [intOf]; omega
        · have HD : Hid ((bs x).take m = bs x) := by show _ = _; exact List.take_of_length_le (by show x.data.toList.length ≤ m; rw [← Lib.size_eq]; omega)
          have HC2 : Hid (d = crc 4294967295 (catL (l.take (k + 1)))) := by
            show _ = _
            rw [HX.out, crc_append, ← hc, hd, HD.out]
          clear hd hc
          go_wp2
          go_roundw
          case rel => exact ⟨k + 1, d, q2, by omega, by go_num, rfl, hd32, HC2, rfl⟩
          case measure => simp [intOf]; omega
    · have HT : Hid (l.take k = l) := by show _ = _; exact List.take_of_length_le (by omega)
      have hx := u32_xor_nat c 4294967295 hc32 (by decide)
      rw [show ((4294967295 : Nat) : Int) = 4294967295 from rfl] at hx
      have HX := Lib.hid hx
      clear hx
      go_wp2
      go_ret
      exact ⟨ret_int (by rw [HX.out, hc, HT.out]; rfl), q, rfl⟩
end Go.Proofs.YtnffjoflkeagfaaGreat.Fr
namespace Go.Proofs.YtnffjoflkeagfaaGreat.Fr
open Go.RowKit

/-- a whole array into the block that was made last -/
theorem wpList_store_new {P : Program} {ops : Array Oper} {rest : List Oper} {o : Oper} {a : Act} {w : World} {Q : Exit → Act → World → Prop} (hgd : o.guard = none) (ty : TypeId) (x y : Operand) (ho : o.op = .store ty x y)
    (c c' : Array Value) (t : TypeId) (hx : a.eval x = .pointer (some ⟨w.heap.size, 0, none⟩)) (hy : a.eval y = .agg c')
    (hi : (P.info? ty).map (·.size) = some c'.size) (hold : c.size = c'.size) (h1 : c'.all (·.oneCell') = true)
    (h : wpList P ops Q rest (a.put o.dst undef) (w.alloc (.cells c' t))) : wpList P ops Q (o :: rest) a (w.alloc (.cells c t)) := by
  refine wpList_store_row hgd ty x y ho w.heap.size c' hx hy t c (heap_alloc_last w _) hi hold h1 ?_
  rw [World.setRow_alloc_new]
  exact h
theorem tabInfo : (Tryz.prog.info? 97).map (·.size) = some (tabC 256).size := by
  rw [tabC_size]; exact (zero_of_info infoTab).2
theorem tabOld : (tabC 0).size = (tabC 256).size := by rw [tabC_size, tabC_size]
theorem tabZero : ∀ w, (zeroValue 97).run Tryz.prog w = .ok (.agg (tabC 0)) w := by
  rw [tabC_zero]; exact (zero_of_info infoTab).1
theorem size_alloc1 (w : World) (o : Obj) : (w.alloc o).heap.size = w.heap.size + 1 := by simp
theorem list_one (w : World) (s : ByteArray) (T : TypeId) : ListAt (w.alloc (.cells #[.string s] T)) (.slice (some ⟨w.heap.size, 0, none⟩) 1 1) 1 (cellsOf strC [s]) := by
  refine ⟨rfl, _, _, rfl, Nat.le_refl _, .inr ⟨_, _, rfl, by simp, fun j u hu => ?_⟩⟩
  match j, hu with
  | 0, hu => simp at hu; subst hu; rw [World.cell?_alloc_new]; rfl
theorem list_two (w : World) (s r : ByteArray) (T : TypeId) : ListAt (w.alloc (.cells #[.string s, .string r] T)) (.slice (some ⟨w.heap.size, 0, none⟩) 2 2) 2 (cellsOf strC [s, r]) := by
  refine ⟨rfl, _, _, rfl, Nat.le_refl _, .inr ⟨_, _, rfl, by simp, fun j u hu => ?_⟩⟩
  match j, hu with
  | 0, hu => simp at hu; subst hu; rw [World.cell?_alloc_new]; rfl
  | 1, hu => simp at hu; subst hu; rw [World.cell?_alloc_new]; rfl
theorem catL_one (s : ByteArray) : catL [s] = bs s := by simp [catL]
theorem catL_two (s r : ByteArray) : catL [s, r] = bs s ++ bs r := by simp [catL]

end Go.Proofs.YtnffjoflkeagfaaGreat.Fr
namespace Go.Proofs.YtnffjoflkeagfaaGreat.Fr
open Go.RowKit

theorem getD_byte (s : ByteArray) (k : Nat) (h : k < s.size) : (bs s).getD k 0 = s[k] := by
  have h2 : k < s.data.toList.length := by rw [← Lib.size_eq]; exact h
  simp only [List.getD, List.getElem?_eq_getElem h2, Option.getD_some]
  rfl
/-- the first k of them -/
def numP (l : List UInt8) : Nat → Nat
  | 0 => 0
  | k + 1 => numP l k + 256 ^ k * (l.getD k 0).toNat
theorem numP_four (l : List UInt8) : numP l 4 = num4 l := by
  unfold num4; simp only [numP]; omega
theorem numP_lt (l : List UInt8) : ∀ k, numP l k < 256 ^ k
  | 0 => by simp [numP]
  | k + 1 => by
    have := numP_lt l k
    have h := (l.getD k 0).toNat_lt
    simp only [numP, Nat.pow_succ]
    have : 256 ^ k * (l.getD k 0).toNat ≤ 256 ^ k * 255 := Nat.mul_le_mul_left _ (by omega)
    omega
theorem or_step (c k b : Nat) (hk : k < 4) (hc : c < 256 ^ k) (hb : b < 256) :
    bits .or .u32 (c : Int) ((b : Int) % 4294967296 * 2 ^ (8 * k) % 4294967296) = ((c + 256 ^ k * b : Nat) : Int) := by
  have e : (b : Int) % 4294967296 * 2 ^ (8 * k) % 4294967296 = ((256 ^ k * b : Nat) : Int) := by
    obtain rfl | rfl | rfl | rfl : k = 0 ∨ k = 1 ∨ k = 2 ∨ k = 3 := by omega
    all_goals (simp; omega)
  have hm : 256 ^ k * b < 4294967296 ∧ c < 4294967296 := by
    obtain rfl | rfl | rfl | rfl : k = 0 ∨ k = 1 ∨ k = 2 ∨ k = 3 := by omega
    all_goals (simp at hc ⊢; omega)
  rw [e, u32_or_nat _ _ hm.2 hm.1, Nat.or_comm, nat_join (8 * k) (256 ^ k * b) c, Nat.add_comm]
  · rw [Nat.pow_mul]; exact Nat.mul_mod_right _ _
  · rw [Nat.pow_mul]; exact hc
set_option maxHeartbeats 4000000 in
theorem number_any (s : ByteArray) (w : World) (h4 : 4 ≤ s.size) (hs : s.size ≤ 9223372036854775807) :
    Calls Tryz.prog 82 #[.string s] w fun e w' => e = .returned (.int .u32 (num4 (bs s) : Nat)) ∧ w = w' := by
  go_enter Tryz.func82, Tryz.ntmps82
  go_wp2
  go_loop [3, 5] (fun n i => ∃ k c : Nat, k ≤ 4 ∧ i = .int .i64 k ∧ n = .int .u32 c ∧ Hid (c = numP (bs s) k)) (fun _ i => 4 - (intOf i).toNat)
  case atStart => exact ⟨0, 0, by omega, rfl, rfl, by rfl⟩
  case round =>
    obtain ⟨k, c, hk, rfl, rfl, hc⟩ := hrel
    by_cases hlt : k < 4
    · have hki : (k : Int) < 4 := by omega
      have hks : (k : Int) < (s.size : Int) := by omega
      have hks2 : k < s.size := by omega
      have hor := or_step c k s[k].toNat hlt (by rw [hc]; exact numP_lt _ _) s[k].toNat_lt
      have HC : Hid (c + 256 ^ k * s[k].toNat = numP (bs s) (k + 1)) := by
        show _ = _
        simp only [numP]
        rw [getD_byte s k hks2, ← hc]
      clear hc
      generalize c + 256 ^ k * s[k].toNat = C at *
      go_wp2
      go_round
      case rel => exact ⟨k + 1, C, by omega, by go_num, rfl, HC⟩
      case measure => simp [intOf]; omega
    · obtain rfl : k = 4 := by omega
      go_wp2
      go_ret
      exact ⟨ret_int (by rw [hc, numP_four]), rfl⟩
/-- the first k of a number's four bytes, in an array of four -/
def fourC (n k : Nat) : Array Value := ((List.range 4).map fun i => Value.int .u8 ((if i < k then n / 256 ^ i % 256 else 0 : Nat) : Int)).toArray
theorem fourC_size (n k : Nat) : (fourC n k).size = 4 := by unfold fourC; simp
theorem fourC_zero (n : Nat) : fourC n 0 = Array.replicate 4 (.int .u8 0) := rfl
theorem fourC_set (n k : Nat) (hk : k < 4) : (fourC n k).setIfInBounds k (.int .u8 (n / 256 ^ k % 256 : Nat)) = fourC n (k + 1) := by
  obtain rfl | rfl | rfl | rfl : k = 0 ∨ k = 1 ∨ k = 2 ∨ k = 3 := by omega
  all_goals rfl
theorem fourC_four (n j : Nat) (hj : j < (four n).length) : (fourC n 4)[j]? = some (.int .u8 ((four n)[j].toNat : Nat)) := by
  have h : j < 4 := hj
  obtain rfl | rfl | rfl | rfl : j = 0 ∨ j = 1 ∨ j = 2 ∨ j = 3 := by omega
  · show some (Value.int .u8 ((n / 1 % 256 : Nat) : Int)) = some (Value.int .u8 (((n % 256).toUInt8).toNat : Nat))
    rw [toUInt8_nat (by omega), Nat.div_one]
  · show some (Value.int .u8 ((n / 256 % 256 : Nat) : Int)) = some (Value.int .u8 (((n / 256 % 256).toUInt8).toNat : Nat))
    rw [toUInt8_nat (by omega)]
  · show some (Value.int .u8 ((n / 65536 % 256 : Nat) : Int)) = some (Value.int .u8 (((n / 65536 % 256).toUInt8).toNat : Nat))
    rw [toUInt8_nat (by omega)]
  · show some (Value.int .u8 ((n / 16777216 % 256 : Nat) : Int)) = some (Value.int .u8 (((n / 16777216 % 256).toUInt8).toNat : Nat))
    rw [toUInt8_nat (by omega)]
theorem infoFour : (Tryz.prog.info? 121).map (fun i => (i.zero, i.size)) = some (some (.agg (Array.replicate 4 (.int .u8 0))), 4) := by kernel_rfl
set_option maxHeartbeats 4000000 in
theorem fourBytes_any (n : Nat) (w : World) :
    Calls Tryz.prog 64 #[.int .u32 n] w fun e w' => e = .returned (.string ⟨(four n).toArray⟩) ∧ Below w.heap.size w w' := by
  obtain ⟨hz, hi⟩ := zero_of_info infoFour
  rw [← fourC_zero n] at hz
  go_enter Tryz.func64, Tryz.ntmps64
  go_wp2
  go_loopw [5] (fun i wr => ∃ k : Nat, k ≤ 4 ∧ i = .int .i64 k ∧ wr = w.alloc (.cells (fourC n k) 121)) (fun i _ => 4 - (intOf i).toNat)
  case atStart => exact ⟨0, by omega, rfl, rfl⟩
  case round =>
    obtain ⟨k, hk, rfl, rfl⟩ := hrel
    by_cases hlt : k < 4
    · have hki : (k : Int) < 4 := by omega
      have HS := Lib.hid (fourC_set n k hlt)
      have hsz := fourC_size n k
      rw [show ((n / 256 ^ k % 256 : Nat) : Int) = (n : Int) / 2 ^ (8 * k) % 256 by
        rw [show (256 : Nat) ^ k = 2 ^ (8 * k) by rw [Nat.pow_mul]]; simp] at HS
      go_wp2
      go_roundw
      case rel => exact ⟨k + 1, by omega, by go_num, by rw [← HS.out]⟩
      case measure => simp [intOf]; omega
    · obtain rfl : k = 4 := by omega
      have hcv := run_convert_bytes_back (P := Tryz.prog) (w.alloc (.cells (fourC n 4) 121)) 66 9 5 ⟨w.heap.size, 0, none⟩ 4 (four n) Tryz.underlying66 Tryz.underlying5 Tryz.underlying9 (fun j hj => by
        rw [add_zero_off, World.cell?_alloc_new]
        exact fourC_four n j hj)
      rw [four_length] at hcv
      go_wp2
      go_ret
      exact ⟨rfl, (Below.refl _ _).alloc (Nat.le_refl _) _⟩
end Go.Proofs.YtnffjoflkeagfaaGreat.Fr
