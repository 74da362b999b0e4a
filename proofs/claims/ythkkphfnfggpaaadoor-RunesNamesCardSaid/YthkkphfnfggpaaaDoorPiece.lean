/- ref Piece. -/
import Derived.Test.YthkkphfnfggpaaaDoorCount
namespace Go.Proofs.YthkkphfnfggpaaaDoor
open Go.RowKit
/-- the byte at a place -/
def byt (s : ByteArray) (i : Nat) : Int := ((s.get! i).toNat : Nat)
theorem byt_bd (s : ByteArray) (i : Nat) : 0 ≤ byt s i ∧ byt s i < 256 := by
  unfold byt; have := (s.get! i).toNat_lt; omega
theorem byt_eq (s : ByteArray) (i : Nat) (h : i < s.size) : ((s[i]'h).toNat : Int) = byt s i := by
  have := get_at s i h
  rw [Nat.add_zero] at this
  unfold byt; rw [this]
/-- is the piece at a place a code point's? -/
def okAt (s : ByteArray) (p : Nat) : Bool := decide ((Utf8.decode s p).2 ≠ 1 ∨ byt s p < 128)

set_option maxRecDepth 100000 in
set_option maxHeartbeats 1000000 in
theorem piece_low (s : ByteArray) (p : Nat) (w : World) (hs : s.size ≤ 1099511627776) (hp : p < s.size) (hb : byt s p < 128) :
    Calls Tryd.prog 30 #[.string s, .int .i64 p] w fun e w' => e = .returned (.tuple #[.int .i32 (byt s p), .int .i64 1, .bool true]) ∧ w = w' := by
  have hbe := byt_eq s p hp
  have hbd := byt_bd s p
  have h1 : ((s[p]'hp).toNat : Int) < 128 := by omega
  have HE := Lib.hid hbe
  clear hbe
  go_enter Tryd.func30, Tryd.ntmps30
  go_wp2
  go_ret3
  exact ⟨by rw [HE.out]; rfl, rfl⟩
set_option maxRecDepth 100000 in
set_option maxHeartbeats 1000000 in
theorem piece_none (s : ByteArray) (p : Nat) (w : World) (hs : s.size ≤ 1099511627776) (hp : p < s.size) (hb : 128 ≤ byt s p) (hb2 : byt s p < 192 ∨ 248 ≤ byt s p) :
    Calls Tryd.prog 30 #[.string s, .int .i64 p] w fun e w' => e = .returned (.tuple #[.int .i32 65533, .int .i64 1, .bool false]) ∧ w = w' := by
  have hbe := byt_eq s p hp
  have hbd := byt_bd s p
  have h1 : 128 ≤ ((s[p]'hp).toNat : Int)  := by omega
  rcases hb2 with hb2 | hb2
  · have h2 : ((s[p]'hp).toNat : Int) < 192 := by omega
    have h3 : ((s[p]'hp).toNat : Int) < 256 := by omega
    clear hbe
    go_enter Tryd.func30, Tryd.ntmps30
    go_wp2
    go_ret3
    exact ⟨rfl, rfl⟩
  · have h2 : 248 ≤ ((s[p]'hp).toNat : Int) := by omega
    have h3 : ((s[p]'hp).toNat : Int) < 256 := by omega
    clear hbe
    go_enter Tryd.func30, Tryd.ntmps30
    go_wp2
    go_ret3
    exact ⟨rfl, rfl⟩

/-- a value's bits so far: the first k bytes behind the first one are taken in -/
def accF (s : ByteArray) (p : Nat) (v : Int) : Nat → Int
  | 0 => v
  | k + 1 => accF s p v k * 64 + byt s (p + (k + 1)) - 128
def contB (s : ByteArray) (i : Nat) : Prop := 128 ≤ byt s i ∧ byt s i < 192
def fitsB (least v : Int) : Prop := least ≤ v ∧ v ≤ 1114111 ∧ ¬ (55296 ≤ v ∧ v ≤ 57343)
def wholeP (s : ByteArray) (p n : Nat) (v least : Int) : Prop := p + n ≤ s.size ∧ (∀ j, 1 ≤ j → j < n → contB s (p + j)) ∧ fitsB least (accF s p v (n - 1))
open Classical in
noncomputable def multiV (s : ByteArray) (p n : Nat) (v least : Int) : Value :=
  if wholeP s p n v least then .tuple #[.int .i32 (accF s p v (n - 1)), .int .i64 n, .bool true] else .tuple #[.int .i32 65533, .int .i64 1, .bool false]
theorem multi_bad {s : ByteArray} {p n : Nat} {v least : Int} (h : ¬ wholeP s p n v least) : multiV s p n v least = .tuple #[.int .i32 65533, .int .i64 1, .bool false] := by
  unfold multiV; rw [if_neg h]
theorem multi_good {s : ByteArray} {p n : Nat} {v least : Int} (h : wholeP s p n v least) : multiV s p n v least = .tuple #[.int .i32 (accF s p v (n - 1)), .int .i64 n, .bool true] := by
  unfold multiV; rw [if_pos h]
theorem accF_bd (s : ByteArray) (p : Nat) (v : Int) (h0 : 0 ≤ v) (h1 : v < 64) : ∀ k, (∀ j, 1 ≤ j → j ≤ k → contB s (p + j)) → k ≤ 3 → 0 ≤ accF s p v k ∧ accF s p v k < 64 ^ (k + 1)
  | 0, _, _ => by simp [accF]; omega
  | k + 1, hc, hk => by
    have ih := accF_bd s p v h0 h1 k (fun j a b => hc j a (by omega)) (by omega)
    have := hc (k + 1) (by omega) (by omega)
    unfold contB at this
    simp only [accF]
    have e : (64 : Int) ^ (k + 1 + 1) = 64 ^ (k + 1) * 64 := by rw [Int.pow_succ]
    omega
theorem all_step {s : ByteArray} {p k : Nat} (h : ∀ j, 1 ≤ j → j < k → contB s (p + j)) (hk : contB s (p + k)) : ∀ j, 1 ≤ j → j < k + 1 → contB s (p + j) := by
  intro j a b
  by_cases e : j = k
  · subst e; exact hk
  · exact h j a (by omega)

set_option maxRecDepth 100000 in
set_option maxHeartbeats 2000000 in
theorem piece_2 (s : ByteArray) (p : Nat) (w : World) (hs : s.size ≤ 1099511627776) (hp : p < s.size) (hb1 : 192 ≤ byt s p) (hb2 : byt s p < 224) :
    Calls Tryd.prog 30 #[.string s, .int .i64 p] w fun e w' => e = .returned (multiV s p 2 (byt s p - 192) 128) ∧ w = w' := by
  have hbe := byt_eq s p hp
  have h1 : 192 ≤ ((s[p]'hp).toNat : Int) := by omega
  have h2 : ((s[p]'hp).toNat : Int) < 224 := by omega
  have HE := Lib.hid hbe
  clear hbe
  by_cases hpn : p + 2 ≤ s.size
  · go_enter Tryd.func30, Tryd.ntmps30
    go_wp2
    go_loop [9, 11] (fun v i => ∃ k : Nat, k < 2 ∧ (∀ j, 1 ≤ j → j < k + 1 → contB s (p + j)) ∧ i = .int .i64 (k + 1) ∧ v = .int .i64 (accF s p (byt s p - 192) k)) (fun _ i => (2 - intOf i).toNat)
    case atStart => exact ⟨0, by omega, by intro j a b; omega, rfl, by simp [accF]; exact HE.out⟩
    case round =>
      obtain ⟨k, hk, hall, rfl, rfl⟩ := hrel
      have hbd := accF_bd s p (byt s p - 192) (by omega) (by omega) k (fun j a b => hall j a (by omega)) (by omega)
      have hbd2 : accF s p (byt s p - 192) k < 16777216 := by
        have : (64 : Int) ^ (k + 1) ≤ 64 ^ 4 := by
          have : k = 0 ∨ k = 1 ∨ k = 2 ∨ k = 3 := by omega
          rcases this with rfl | rfl | rfl | rfl <;> decide
        have e : (64 : Int) ^ 4 = 16777216 := by decide
        omega
      by_cases hkn : k + 1 < 2
      · have hq : p + (k + 1) < s.size := by omega
        have hqe := byt_eq s (p + (k + 1)) hq
        have hqb := byt_bd s (p + (k + 1))
        by_cases hc : contB s (p + (k + 1))
        · have hall2 := Lib.hid (all_step hall hc)
          unfold contB at hc
          have h3 : 128 ≤ ((s[p + (k + 1)]'hq).toNat : Int) := by omega
          have h4 : ((s[p + (k + 1)]'hq).toNat : Int) < 192 := by omega
          have HQ := Lib.hid hqe
          have HA := Lib.hid hall
          clear hqe hall hc
          go_wp2
          go_round
          case rel => exact ⟨k + 1, by omega, hall2.out, by go_num, by rw [accF, HQ.out]⟩
          case measure => simp [intOf]; omega
        · have hbad : multiV s p 2 (byt s p - 192) 128 = .tuple #[.int .i32 65533, .int .i64 1, .bool false] :=
            multi_bad fun h => hc (h.2.1 (k + 1) (by omega) hkn)
          have HB := Lib.hid hbad
          unfold contB at hc
          have HA := Lib.hid hall
          by_cases h3 : ((s[p + (k + 1)]'hq).toNat : Int) < 128
          · have HQ := Lib.hid hqe
            clear hqe hall hc hbad
            go_wp2
            go_ret3
            exact ⟨by rw [HB.out]; rfl, rfl⟩
          · have h4 : 192 ≤ ((s[p + (k + 1)]'hq).toNat : Int) := by omega
            have h5 : ((s[p + (k + 1)]'hq).toNat : Int) < 256 := by omega
            have HQ := Lib.hid hqe
            clear hqe hall hc hbad
            go_wp2
            go_ret3
            exact ⟨by rw [HB.out]; rfl, rfl⟩
      · obtain rfl : k = 1 := by omega
        have HA := Lib.hid hall
        clear hall
        by_cases hf : fitsB 128 (accF s p (byt s p - 192) 1)
        · have HG := Lib.hid (multi_good (n := 2) ⟨hpn, fun j a b => HA.out j a (by omega), hf⟩)
          unfold fitsB at hf
          obtain ⟨f1, f2, f3⟩ := hf
          by_cases h6 : 55296 ≤ accF s p (byt s p - 192) 1
          · have h7 : ¬ accF s p (byt s p - 192) 1 ≤ 57343 := by omega
            clear f3
            go_wp2
            all_goals go_ret3
            all_goals exact ⟨by rw [HG.out]; rfl, rfl⟩
          · clear f3
            go_wp2
            all_goals go_ret3
            all_goals exact ⟨by rw [HG.out]; rfl, rfl⟩
        · have HB := Lib.hid (multi_bad (s := s) (p := p) (n := 2) (v := byt s p - 192) (least := 128) fun h => hf h.2.2)
          unfold fitsB at hf
          by_cases h6 : accF s p (byt s p - 192) 1 < 128
          · clear hf
            go_wp2
            go_ret3
            exact ⟨by rw [HB.out]; rfl, rfl⟩
          · by_cases h7 : 1114111 < accF s p (byt s p - 192) 1
            · clear hf
              go_wp2
              go_ret3
              exact ⟨by rw [HB.out]; rfl, rfl⟩
            · have h8 : 55296 ≤ accF s p (byt s p - 192) 1 := by omega
              have h9 : accF s p (byt s p - 192) 1 ≤ 57343 := by omega
              clear hf
              go_wp2
              go_ret3
              exact ⟨by rw [HB.out]; rfl, rfl⟩
  · have HB := Lib.hid (multi_bad (s := s) (p := p) (n := 2) (v := byt s p - 192) (least := 128) fun h => hpn h.1)
    go_enter Tryd.func30, Tryd.ntmps30
    go_wp2
    go_ret3
    exact ⟨by rw [HB.out]; rfl, rfl⟩

set_option maxRecDepth 100000 in
set_option maxHeartbeats 2000000 in
theorem piece_3 (s : ByteArray) (p : Nat) (w : World) (hs : s.size ≤ 1099511627776) (hp : p < s.size) (hb1 : 224 ≤ byt s p) (hb2 : byt s p < 240) :
    Calls Tryd.prog 30 #[.string s, .int .i64 p] w fun e w' => e = .returned (multiV s p 3 (byt s p - 224) 2048) ∧ w = w' := by
  have hbe := byt_eq s p hp
  have h1 : 224 ≤ ((s[p]'hp).toNat : Int) := by omega
  have h2 : ((s[p]'hp).toNat : Int) < 240 := by omega
  have HE := Lib.hid hbe
  clear hbe
  by_cases hpn : p + 3 ≤ s.size
  · go_enter Tryd.func30, Tryd.ntmps30
    go_wp2
    go_loop [9, 11] (fun v i => ∃ k : Nat, k < 3 ∧ (∀ j, 1 ≤ j → j < k + 1 → contB s (p + j)) ∧ i = .int .i64 (k + 1) ∧ v = .int .i64 (accF s p (byt s p - 224) k)) (fun _ i => (3 - intOf i).toNat)
    case atStart => exact ⟨0, by omega, by intro j a b; omega, rfl, by simp [accF]; exact HE.out⟩
    case round =>
      obtain ⟨k, hk, hall, rfl, rfl⟩ := hrel
      have hbd := accF_bd s p (byt s p - 224) (by omega) (by omega) k (fun j a b => hall j a (by omega)) (by omega)
      have hbd2 : accF s p (byt s p - 224) k < 16777216 := by
        have : (64 : Int) ^ (k + 1) ≤ 64 ^ 4 := by
          have : k = 0 ∨ k = 1 ∨ k = 2 ∨ k = 3 := by omega
          rcases this with rfl | rfl | rfl | rfl <;> decide
        have e : (64 : Int) ^ 4 = 16777216 := by decide
        omega
      by_cases hkn : k + 1 < 3
      · have hq : p + (k + 1) < s.size := by omega
        have hqe := byt_eq s (p + (k + 1)) hq
        have hqb := byt_bd s (p + (k + 1))
        by_cases hc : contB s (p + (k + 1))
        · have hall2 := Lib.hid (all_step hall hc)
          unfold contB at hc
          have h3 : 128 ≤ ((s[p + (k + 1)]'hq).toNat : Int) := by omega
          have h4 : ((s[p + (k + 1)]'hq).toNat : Int) < 192 := by omega
          have HQ := Lib.hid hqe
          have HA := Lib.hid hall
          clear hqe hall hc
          go_wp2
          go_round
          case rel => exact ⟨k + 1, by omega, hall2.out, by go_num, by rw [accF, HQ.out]⟩
          case measure => simp [intOf]; omega
        · have hbad : multiV s p 3 (byt s p - 224) 2048 = .tuple #[.int .i32 65533, .int .i64 1, .bool false] :=
            multi_bad fun h => hc (h.2.1 (k + 1) (by omega) hkn)
          have HB := Lib.hid hbad
          unfold contB at hc
          have HA := Lib.hid hall
          by_cases h3 : ((s[p + (k + 1)]'hq).toNat : Int) < 128
          · have HQ := Lib.hid hqe
            clear hqe hall hc hbad
            go_wp2
            go_ret3
            exact ⟨by rw [HB.out]; rfl, rfl⟩
          · have h4 : 192 ≤ ((s[p + (k + 1)]'hq).toNat : Int) := by omega
            have h5 : ((s[p + (k + 1)]'hq).toNat : Int) < 256 := by omega
            have HQ := Lib.hid hqe
            clear hqe hall hc hbad
            go_wp2
            go_ret3
            exact ⟨by rw [HB.out]; rfl, rfl⟩
      · obtain rfl : k = 2 := by omega
        have HA := Lib.hid hall
        clear hall
        by_cases hf : fitsB 2048 (accF s p (byt s p - 224) 2)
        · have HG := Lib.hid (multi_good (n := 3) ⟨hpn, fun j a b => HA.out j a (by omega), hf⟩)
          unfold fitsB at hf
          obtain ⟨f1, f2, f3⟩ := hf
          by_cases h6 : 55296 ≤ accF s p (byt s p - 224) 2
          · have h7 : ¬ accF s p (byt s p - 224) 2 ≤ 57343 := by omega
            clear f3
            go_wp2
            all_goals go_ret3
            all_goals exact ⟨by rw [HG.out]; rfl, rfl⟩
          · clear f3
            go_wp2
            all_goals go_ret3
            all_goals exact ⟨by rw [HG.out]; rfl, rfl⟩
        · have HB := Lib.hid (multi_bad (s := s) (p := p) (n := 3) (v := byt s p - 224) (least := 2048) fun h => hf h.2.2)
          unfold fitsB at hf
          by_cases h6 : accF s p (byt s p - 224) 2 < 2048
          · clear hf
            go_wp2
            go_ret3
            exact ⟨by rw [HB.out]; rfl, rfl⟩
          · by_cases h7 : 1114111 < accF s p (byt s p - 224) 2
            · clear hf
              go_wp2
              go_ret3
              exact ⟨by rw [HB.out]; rfl, rfl⟩
            · have h8 : 55296 ≤ accF s p (byt s p - 224) 2 := by omega
              have h9 : accF s p (byt s p - 224) 2 ≤ 57343 := by omega
              clear hf
              go_wp2
              go_ret3
              exact ⟨by rw [HB.out]; rfl, rfl⟩
  · have HB := Lib.hid (multi_bad (s := s) (p := p) (n := 3) (v := byt s p - 224) (least := 2048) fun h => hpn h.1)
    go_enter Tryd.func30, Tryd.ntmps30
    go_wp2
    go_ret3
    exact ⟨by rw [HB.out]; rfl, rfl⟩

set_option maxRecDepth 100000 in
set_option maxHeartbeats 2000000 in
theorem piece_4 (s : ByteArray) (p : Nat) (w : World) (hs : s.size ≤ 1099511627776) (hp : p < s.size) (hb1 : 240 ≤ byt s p) (hb2 : byt s p < 248) :
    Calls Tryd.prog 30 #[.string s, .int .i64 p] w fun e w' => e = .returned (multiV s p 4 (byt s p - 240) 65536) ∧ w = w' := by
  have hbe := byt_eq s p hp
  have h1 : 240 ≤ ((s[p]'hp).toNat : Int) := by omega
  have h2 : ((s[p]'hp).toNat : Int) < 248 := by omega
  have HE := Lib.hid hbe
  clear hbe
  by_cases hpn : p + 4 ≤ s.size
  · go_enter Tryd.func30, Tryd.ntmps30
    go_wp2
    go_loop [9, 11] (fun v i => ∃ k : Nat, k < 4 ∧ (∀ j, 1 ≤ j → j < k + 1 → contB s (p + j)) ∧ i = .int .i64 (k + 1) ∧ v = .int .i64 (accF s p (byt s p - 240) k)) (fun _ i => (4 - intOf i).toNat)
    case atStart => exact ⟨0, by omega, by intro j a b; omega, rfl, by simp [accF]; exact HE.out⟩
    case round =>
      obtain ⟨k, hk, hall, rfl, rfl⟩ := hrel
      have hbd := accF_bd s p (byt s p - 240) (by omega) (by omega) k (fun j a b => hall j a (by omega)) (by omega)
      have hbd2 : accF s p (byt s p - 240) k < 16777216 := by
        have : (64 : Int) ^ (k + 1) ≤ 64 ^ 4 := by
          have : k = 0 ∨ k = 1 ∨ k = 2 ∨ k = 3 := by omega
          rcases this with rfl | rfl | rfl | rfl <;> decide
        have e : (64 : Int) ^ 4 = 16777216 := by decide
        omega
      by_cases hkn : k + 1 < 4
      · have hq : p + (k + 1) < s.size := by omega
        have hqe := byt_eq s (p + (k + 1)) hq
        have hqb := byt_bd s (p + (k + 1))
        by_cases hc : contB s (p + (k + 1))
        · have hall2 := Lib.hid (all_step hall hc)
          unfold contB at hc
          have h3 : 128 ≤ ((s[p + (k + 1)]'hq).toNat : Int) := by omega
          have h4 : ((s[p + (k + 1)]'hq).toNat : Int) < 192 := by omega
          have HQ := Lib.hid hqe
          have HA := Lib.hid hall
          clear hqe hall hc
          go_wp2
          go_round
          case rel => exact ⟨k + 1, by omega, hall2.out, by go_num, by rw [accF, HQ.out]⟩
          case measure => simp [intOf]; omega
        · have hbad : multiV s p 4 (byt s p - 240) 65536 = .tuple #[.int .i32 65533, .int .i64 1, .bool false] :=
            multi_bad fun h => hc (h.2.1 (k + 1) (by omega) hkn)
          have HB := Lib.hid hbad
          unfold contB at hc
          have HA := Lib.hid hall
          by_cases h3 : ((s[p + (k + 1)]'hq).toNat : Int) < 128
          · have HQ := Lib.hid hqe
            clear hqe hall hc hbad
            go_wp2
            go_ret3
            exact ⟨by rw [HB.out]; rfl, rfl⟩
          · have h4 : 192 ≤ ((s[p + (k + 1)]'hq).toNat : Int) := by omega
            have h5 : ((s[p + (k + 1)]'hq).toNat : Int) < 256 := by omega
            have HQ := Lib.hid hqe
            clear hqe hall hc hbad
            go_wp2
            go_ret3
            exact ⟨by rw [HB.out]; rfl, rfl⟩
      · obtain rfl : k = 3 := by omega
        have HA := Lib.hid hall
        clear hall
        by_cases hf : fitsB 65536 (accF s p (byt s p - 240) 3)
        · have HG := Lib.hid (multi_good (n := 4) ⟨hpn, fun j a b => HA.out j a (by omega), hf⟩)
          unfold fitsB at hf
          obtain ⟨f1, f2, f3⟩ := hf
          by_cases h6 : 55296 ≤ accF s p (byt s p - 240) 3
          · have h7 : ¬ accF s p (byt s p - 240) 3 ≤ 57343 := by omega
            clear f3
            go_wp2
            all_goals go_ret3
            all_goals exact ⟨by rw [HG.out]; rfl, rfl⟩
          · clear f3
            go_wp2
            all_goals go_ret3
            all_goals exact ⟨by rw [HG.out]; rfl, rfl⟩
        · have HB := Lib.hid (multi_bad (s := s) (p := p) (n := 4) (v := byt s p - 240) (least := 65536) fun h => hf h.2.2)
          unfold fitsB at hf
          by_cases h6 : accF s p (byt s p - 240) 3 < 65536
          · clear hf
            go_wp2
            go_ret3
            exact ⟨by rw [HB.out]; rfl, rfl⟩
          · by_cases h7 : 1114111 < accF s p (byt s p - 240) 3
            · clear hf
              go_wp2
              go_ret3
              exact ⟨by rw [HB.out]; rfl, rfl⟩
            · have h8 : 55296 ≤ accF s p (byt s p - 240) 3 := by omega
              have h9 : accF s p (byt s p - 240) 3 ≤ 57343 := by omega
              clear hf
              go_wp2
              go_ret3
              exact ⟨by rw [HB.out]; rfl, rfl⟩
  · have HB := Lib.hid (multi_bad (s := s) (p := p) (n := 4) (v := byt s p - 240) (least := 65536) fun h => hpn h.1)
    go_enter Tryd.func30, Tryd.ntmps30
    go_wp2
    go_ret3
    exact ⟨by rw [HB.out]; rfl, rfl⟩
end Go.Proofs.YthkkphfnfggpaaaDoor
