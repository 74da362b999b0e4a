/- ref Piece: 2 bytes. -/
import Derived.Test.YthkkphfnfggpaaaDoorPiece
namespace Go.Proofs.YthkkphfnfggpaaaDoor
open Go.RowKit
set_option maxRecDepth 100000 in
set_option maxHeartbeats 2000000 in
theorem piece_2 (s : ByteArray) (p : Nat) (w : World) (hs : s.size ≤ 1099511627776) (hp : p < s.size) (hb1 : 192 ≤ byt s p) (hb2 : byt s p < 224) :
    Calls Tryd.prog 30 #[.string s, .int .i64 p] w fun e w' => e = .returned (multiV s p 2 (byt s p - 192) 128) ∧ w = w' := by
  have hbe := byt_eq s p hp
  have h1 : 192 ≤ ((s[p]'hp).toNat : Int) := by omega
  have h2 : ((s[p]'hp).toNat : Int) < 224 := by omega
  have HE := Lib.hid hbe
  clear hbe
  by_cases hpn : p + 2 ≤ s.size
  · go_enter Tryd.func30, Tryd.ntmps30
    go_wp2
    go_loop [9, 11] (fun v i => ∃ k : Nat, k < 2 ∧ (∀ j, 1 ≤ j → j < k + 1 → contB s (p + j)) ∧ i = .int .i64 (k + 1) ∧ v = .int .i64 (accF s p (byt s p - 192) k)) (fun _ i => (2 - intOf i).toNat)
    case atStart => exact ⟨0, by omega, by intro j a b; omega, rfl, by simp [accF]; exact HE.out⟩
    case round =>
      obtain ⟨k, hk, hall, rfl, rfl⟩ := hrel
      have hbd := accF_bd s p (byt s p - 192) (by omega) (by omega) k (fun j a b => hall j a (by omega)) (by omega)
      have hbd2 : accF s p (byt s p - 192) k < 16777216 := by
        have : (64 : Int) ^ (k + 1) ≤ 64 ^ 4 := by
          have : k = 0 ∨ k = 1 ∨ k = 2 ∨ k = 3 := by omega
          rcases this with rfl | rfl | rfl | rfl <;> decide
        have e : (64 : Int) ^ 4 = 16777216 := by decide
        omega
      by_cases hkn : k + 1 < 2
      · have hq : p + (k + 1) < s.size := by omega
        have hqe := byt_eq s (p + (k + 1)) hq
        have hqb := byt_bd s (p + (k + 1))
        by_cases hc : contB s (p + (k + 1))
        · have hall2 := Lib.hid (all_step hall hc)
          unfold contB at hc
          have h3 : 128 ≤ ((s[p + (k + 1)]'hq).toNat : Int) := by omega
          have h4 : ((s[p + (k + 1)]'hq).toNat : Int) < 192 := by omega
          have HQ := Lib.hid hqe
          have HA := Lib.hid hall
          clear hqe hall hc
          go_wp2
          go_round
          case rel => exact ⟨k + 1, by omega, hall2.out, by go_num, by rw [accF, HQ.out]⟩
          case measure => simp [intOf]; omega
        · have hbad : multiV s p 2 (byt s p - 192) 128 = .tuple #[.int .i32 65533, .int .i64 1, .bool false] :=
            multi_bad fun h => hc (h.2.1 (k + 1) (by omega) hkn)
          have HB := Lib.hid hbad
          unfold contB at hc
          have HA := Lib.hid hall
          by_cases h3 : ((s[p + (k + 1)]'hq).toNat : Int) < 128
          · have HQ := Lib.hid hqe
            clear hqe hall hc hbad
            go_wp2
            go_ret3
            exact ⟨by rw [HB.out]; rfl, rfl⟩
          · have h4 : 192 ≤ ((s[p + (k + 1)]'hq).toNat : Int) := by omega
            have h5 : ((s[p + (k + 1)]'hq).toNat : Int) < 256 := by omega
            have HQ := Lib.hid hqe
            clear hqe hall hc hbad
            go_wp2
            go_ret3
            exact ⟨by rw [HB.out]; rfl, rfl⟩
      · obtain rfl : k = 1 := by omega
        have HA := Lib.hid hall
        clear hall
        by_cases hf : fitsB 128 (accF s p (byt s p - 192) 1)
        · have HG := Lib.hid (multi_good (n := 2) ⟨hpn, fun j a b => HA.out j a (by omega), hf⟩)
          unfold fitsB at hf
          obtain ⟨f1, f2, f3⟩ := hf
          by_cases h6 : 55296 ≤ accF s p (byt s p - 192) 1
          · have h7 : ¬ accF s p (byt s p - 192) 1 ≤ 57343 := by omega
            clear f3
            go_wp2
            all_goals go_ret3
            all_goals exact ⟨by rw [HG.out]; rfl, rfl⟩
          · clear f3
            go_wp2
            all_goals go_ret3
            all_goals exact ⟨by rw [HG.out]; rfl, rfl⟩
        · have HB := Lib.hid (multi_bad (s := s) (p := p) (n := 2) (v := byt s p - 192) (least := 128) fun h => hf h.2.2)
          unfold fitsB at hf
          by_cases h6 : accF s p (byt s p - 192) 1 < 128
          · clear hf
            go_wp2
            go_ret3
            exact ⟨by rw [HB.out]; rfl, rfl⟩
          · by_cases h7 : 1114111 < accF s p (byt s p - 192) 1
            · clear hf
              go_wp2
              go_ret3
              exact ⟨by rw [HB.out]; rfl, rfl⟩
            · have h8 : 55296 ≤ accF s p (byt s p - 192) 1 := by omega
              have h9 : accF s p (byt s p - 192) 1 ≤ 57343 := by omega
              clear hf
              go_wp2
              go_ret3
              exact ⟨by rw [HB.out]; rfl, rfl⟩
  · have HB := Lib.hid (multi_bad (s := s) (p := p) (n := 2) (v := byt s p - 192) (least := 128) fun h => hpn h.1)
    go_enter Tryd.func30, Tryd.ntmps30
    go_wp2
    go_ret3
    exact ⟨by rw [HB.out]; rfl, rfl⟩

end Go.Proofs.YthkkphfnfggpaaaDoor
