/- ref Piece. -/
import Derived.Test.YthkkphfnfggpaaaDoorCount
namespace Go.Proofs.YthkkphfnfggpaaaDoor
open Go.RowKit
/-- the byte at a place -/
def byt (s : ByteArray) (i : Nat) : Int := ((s.get! i).toNat : Nat)
theorem byt_bd (s : ByteArray) (i : Nat) : 0 ≤ byt s i ∧ byt s i < 256 := by
  unfold byt; have := (s.get! i).toNat_lt; omega
theorem byt_eq (s : ByteArray) (i : Nat) (h : i < s.size) : ((s[i]'h).toNat : Int) = byt s i := by
  have := get_at s i h
  rw [Nat.add_zero] at this
  unfold byt; rw [this]
/-- is the piece at a place a code point's? -/
def okAt (s : ByteArray) (p : Nat) : Bool := decide ((Utf8.decode s p).2 ≠ 1 ∨ byt s p < 128)

set_option maxRecDepth 100000 in
set_option maxHeartbeats 1000000 in
theorem piece_low (s : ByteArray) (p : Nat) (w : World) (_hs : s.size ≤ 1099511627776) (hp : p < s.size) (hb : byt s p < 128) :
    Calls Tryd.prog 30 #[.string s, .int .i64 p] w fun e w' => e = .returned (.tuple #[.int .i32 (byt s p), .int .i64 1, .bool true]) ∧ w = w' := by
  have hbe := byt_eq s p hp
  have hbd := byt_bd s p
  have h1 : ((s[p]'hp).toNat : Int) < 128 := by omega
  have HE := Lib.hid hbe
  clear hbe
  go_enter Tryd.func30, Tryd.ntmps30
  go_wp2
  go_ret3
  exact ⟨by rw [HE.out]; rfl, rfl⟩
set_option maxRecDepth 100000 in
set_option maxHeartbeats 1000000 in
theorem piece_none (s : ByteArray) (p : Nat) (w : World) (_hs : s.size ≤ 1099511627776) (hp : p < s.size) (hb : 128 ≤ byt s p) (hb2 : byt s p < 192 ∨ 248 ≤ byt s p) :
    Calls Tryd.prog 30 #[.string s, .int .i64 p] w fun e w' => e = .returned (.tuple #[.int .i32 65533, .int .i64 1, .bool false]) ∧ w = w' := by
  have hbe := byt_eq s p hp
  have hbd := byt_bd s p
  have h1 : 128 ≤ ((s[p]'hp).toNat : Int)  := by omega
  rcases hb2 with hb2 | hb2
  · have h2 : ((s[p]'hp).toNat : Int) < 192 := by omega
    have h3 : ((s[p]'hp).toNat : Int) < 256 := by omega
    clear hbe
    go_enter Tryd.func30, Tryd.ntmps30
    go_wp2
    go_ret3
    exact ⟨rfl, rfl⟩
  · have h2 : 248 ≤ ((s[p]'hp).toNat : Int) := by omega
    have h3 : ((s[p]'hp).toNat : Int) < 256 := by omega
    clear hbe
    go_enter Tryd.func30, Tryd.ntmps30
    go_wp2
    go_ret3
    exact ⟨rfl, rfl⟩

/-- a value's bits so far: the first k bytes behind the first one are taken in -/
def accF (s : ByteArray) (p : Nat) (v : Int) : Nat → Int
  | 0 => v
  | k + 1 => accF s p v k * 64 + byt s (p + (k + 1)) - 128
def contB (s : ByteArray) (i : Nat) : Prop := 128 ≤ byt s i ∧ byt s i < 192
def fitsB (least v : Int) : Prop := least ≤ v ∧ v ≤ 1114111 ∧ ¬ (55296 ≤ v ∧ v ≤ 57343)
def wholeP (s : ByteArray) (p n : Nat) (v least : Int) : Prop := p + n ≤ s.size ∧ (∀ j, 1 ≤ j → j < n → contB s (p + j)) ∧ fitsB least (accF s p v (n - 1))
open Classical in
noncomputable def multiV (s : ByteArray) (p n : Nat) (v least : Int) : Value :=
  if wholeP s p n v least then .tuple #[.int .i32 (accF s p v (n - 1)), .int .i64 n, .bool true] else .tuple #[.int .i32 65533, .int .i64 1, .bool false]
theorem multi_bad {s : ByteArray} {p n : Nat} {v least : Int} (h : ¬ wholeP s p n v least) : multiV s p n v least = .tuple #[.int .i32 65533, .int .i64 1, .bool false] := by
  unfold multiV; rw [if_neg h]
theorem multi_good {s : ByteArray} {p n : Nat} {v least : Int} (h : wholeP s p n v least) : multiV s p n v least = .tuple #[.int .i32 (accF s p v (n - 1)), .int .i64 n, .bool true] := by
  unfold multiV; rw [if_pos h]
theorem accF_bd (s : ByteArray) (p : Nat) (v : Int) (h0 : 0 ≤ v) (h1 : v < 64) : ∀ k, (∀ j, 1 ≤ j → j ≤ k → contB s (p + j)) → k ≤ 3 → 0 ≤ accF s p v k ∧ accF s p v k < 64 ^ (k + 1)
  | 0, _, _ => by simp [accF]; omega
  | k + 1, hc, hk => by
    have ih := accF_bd s p v h0 h1 k (fun j a b => hc j a (by omega)) (by omega)
    have := hc (k + 1) (by omega) (by omega)
    unfold contB at this
    simp only [accF]
    have e : (64 : Int) ^ (k + 1 + 1) = 64 ^ (k + 1) * 64 := by rw [Int.pow_succ]
    omega
theorem all_step {s : ByteArray} {p k : Nat} (h : ∀ j, 1 ≤ j → j < k → contB s (p + j)) (hk : contB s (p + k)) : ∀ j, 1 ≤ j → j < k + 1 → contB s (p + j) := by
  intro j a b
  by_cases e : j = k
  · subst e; exact hk
  · exact h j a (by omega)

end Go.Proofs.YthkkphfnfggpaaaDoor
