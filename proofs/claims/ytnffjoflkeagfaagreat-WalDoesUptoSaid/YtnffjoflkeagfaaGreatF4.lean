/- Frame; the reference's Sum, four, number, Frame. The reference's Frame and Unframe. -/
import Derived.Test.YtnffjoflkeagfaaGreatF3
namespace Go.Proofs.YtnffjoflkeagfaaGreat.Fr
open Go.RowKit

theorem joinB_one (x : ByteArray) : joinB [x] = frameL (bs x) := by simp [joinB, joinL]
set_option maxHeartbeats 4000000 in
set_option maxRecDepth 100000 in
theorem refSum_any (s : ByteArray) (w : World) (hs : s.size ≤ 1099511627776) :
    Calls Tryz.prog 87 #[.string s] w fun e w' => e = .returned (.int .u32 (sumL (bs s) : Nat)) ∧ w = w' := by
  go_enter Tryz.func87, Tryz.ntmps87
  go_wp2
  go_loop [3, 4] (fun vc i => ∃ (k c : Nat), k ≤ s.size ∧ i = .int .i64 k ∧ vc = .int .u32 c ∧ c < 4294967296 ∧ Hid (c = crc 4294967295 ((bs s).take k))) (fun _ i => s.size - (intOf i).toNat)
  case atStart => exact ⟨0, 4294967295, by omega, rfl, rfl, by decide, by simp [crc, Hid]⟩
  case round =>
    obtain ⟨k, c, hk, rfl, rfl, hc32, hc⟩ := hrel
    by_cases hlt : k < s.size
    · have hbl := s[k].toNat_lt
      have hxr := u32_xor_nat c s[k].toNat hc32 (by omega)
      have hx32 := xor_lt32 (a := c) (b := s[k].toNat) hc32 (by omega)
      have HD : Hid (halves 8 (c ^^^ s[k].toNat) = crc 4294967295 ((bs s).take (k + 1))) := by
        show _ = _
        rw [take_snocB s k hlt, crc_snoc, ← hc]; rfl
      have hki : (k : Int) < (s.size : Int) := by omega
      generalize c ^^^ s[k].toNat = X at *
      clear hc
      go_wp2
      go_loop [3, 5] (fun vd j => ∃ (m d : Nat), m ≤ 8 ∧ j = .int .i64 m ∧ vd = .int .u32 d ∧ d < 4294967296 ∧ Hid (d = halves m X)) (fun _ j => 8 - (intOf j).toNat)
      case atStart => exact ⟨0, X, by omega, rfl, rfl, hx32, rfl⟩
      case round =>
        obtain ⟨m, d, hm, rfl, rfl, hd32, hd⟩ := hrel
        by_cases hm8 : m < 8
        · have hmi : (m : Int) < 8 := by omega
          have HN : Hid (halve d = halves (m + 1) X) := by show _ = _; rw [halves_snoc, ← hd]
          clear hd
          by_cases ho : d % 2 = 1
          · have hb : ((d : Int) % 2 == 1) = true := by simp; omega
            have hxr2 := u32_xor_nat (d / 2) 2197175160 (by omega) (by decide)
            have HH : Hid (halve d = d / 2 ^^^ 2197175160) := by show _ = _; unfold halve; rw [if_pos ho]
            rw [show ((d / 2 : Nat) : Int) = (d : Int) / 2 by omega, show ((2197175160 : Nat) : Int) = 2197175160 from rfl] at hxr2
            have hl := xor_lt32 (a := d / 2) (b := 2197175160) (by omega) (by decide)
            generalize d / 2 ^^^ 2197175160 = D at *
            go_wp2
            go_round
            case rel => exact ⟨m + 1, D, by omega, by go_num, rfl, hl, by show _ = _; rw [← HN.out, HH.out]⟩
            case measure => simp [intOf]; omega
          · have hb : ((d : Int) % 2 == 1) = false := by simp; omega
            have HH : Hid (halve d = d / 2) := by show _ = _; unfold halve; rw [if_neg ho]
            go_wp2
            go_round
            case rel => exact ⟨m + 1, d / 2, by omega, by go_num, by go_num, by omega, by show _ = _; rw [← HN.out, HH.out]⟩
            case measure => simp [intOf]; omega
        · obtain rfl : m = 8 := by omega
          have HC : Hid (d = crc 4294967295 ((bs s).take (k + 1))) := by show _ = _; rw [hd, HD.out]
          clear hd
          go_wp2
          go_round
          case rel => exact ⟨k + 1, d, by omega, by go_num, rfl, hd32, HC⟩
          case measure => simp [intOf]; omega
    · have HT : Hid ((bs s).take k = bs s) := by show _ = _; exact List.take_of_length_le (by rw [bs_size]; omega)
      have hx := u32_xor_nat c 4294967295 hc32 (by decide)
      rw [show ((4294967295 : Nat) : Int) = 4294967295 from rfl] at hx
      have HX := Lib.hid hx
      clear hx
      go_wp2
      go_ret
      exact ⟨ret_int (by rw [HX.out, hc, HT.out]; rfl), rfl⟩

theorem getD_drop (s : ByteArray) (a k : Nat) (h : a + k < s.size) : ((bs s).drop a).getD k 0 = s[a + k] := by
  rw [← getD_byte s (a + k) h]
  simp [List.getD, List.getElem?_drop]
theorem num4_drop (s : ByteArray) (a : Nat) (h : a + 4 ≤ s.size) : num4 ((bs s).drop a) = s[a].toNat + 256 * s[a + 1].toNat + 65536 * s[a + 2].toNat + 16777216 * s[a + 3].toNat := by
  unfold num4
  rw [getD_drop s a 0 (by omega), getD_drop s a 1 (by omega), getD_drop s a 2 (by omega), getD_drop s a 3 (by omega)]; rfl
theorem fourC_lit (n : Nat) (hn : n < 4294967296) : fourC n 4 = #[.int .u8 ((n : Int) % 256), .int .u8 ((n : Int) / 256 % 256), .int .u8 ((n : Int) / 65536 % 256), .int .u8 ((n : Int) / 16777216)] := by
  show #[Value.int .u8 ((n / 1 % 256 : Nat) : Int), Value.int .u8 ((n / 256 % 256 : Nat) : Int), Value.int .u8 ((n / 65536 % 256 : Nat) : Int), Value.int .u8 ((n / 16777216 % 256 : Nat) : Int)] = _
  rw [Nat.div_one, show n / 16777216 % 256 = n / 16777216 by omega]; simp
set_option maxHeartbeats 4000000 in
set_option maxRecDepth 100000 in
theorem refNumber_any (s : ByteArray) (a : Nat) (w : World) (hs : s.size ≤ 1099511627776) (ha : a + 4 ≤ s.size) :
    Calls Tryz.prog 86 #[.string s, .int .i64 a] w fun e w' => e = .returned (.int .u32 (num4 ((bs s).drop a) : Nat)) ∧ ∃ q, w' = w.drewN q := by
  have h0 : (a : Int) < (s.size : Int) := by omega
  have h1 : (a : Int) + 1 < (s.size : Int) := by omega
  have h2 : (a : Int) + 2 < (s.size : Int) := by omega
  have h3 : (a : Int) + 3 < (s.size : Int) := by omega
  go_enter Tryz.func86, Tryz.ntmps86
  go_wp2
  have w1 : IntKind.i64.wrap ((a : Int) + 1) = (a : Int) + 1 := IntWalk.i64_in _ (by omega)
  have w2 : IntKind.i64.wrap ((a : Int) + 2) = (a : Int) + 2 := IntWalk.i64_in _ (by omega)
  have w3 : IntKind.i64.wrap ((a : Int) + 3) = (a : Int) + 3 := IntWalk.i64_in _ (by omega)
  have p1 : 0 ≤ (a : Int) + 1 := by omega
  have p2 : 0 ≤ (a : Int) + 2 := by omega
  have p3 : 0 ≤ (a : Int) + 3 := by omega
  have t1 : ((a : Int) + 1).toNat = a + 1 := by omega
  have t2 : ((a : Int) + 2).toNat = a + 2 := by omega
  have t3 : ((a : Int) + 3).toNat = a + 3 := by omega
  go_quiet (fail)
  go_wp2
  go_ret
  refine ⟨ret_int ?_, _, rfl⟩
  have hn := num4_drop s a ha
  have b0 := s[a].toNat_lt
  have b1 := s[a + 1].toNat_lt
  have b2 := s[a + 2].toNat_lt
  have b3 := s[a + 3].toNat_lt
  rw [hn]
  generalize s[a].toNat = x0 at *
  generalize s[a + 1].toNat = x1 at *
  generalize s[a + 2].toNat = x2 at *
  generalize s[a + 3].toNat = x3 at *
  clear w1 w2 w3 t1 t2 t3
  omega

set_option maxHeartbeats 4000000 in
theorem refFour_any (n : Nat) (w : World) (hn : n < 4294967296) :
    Calls Tryz.prog 88 #[.int .u32 n] w fun e w' => e = .returned (.string (mk (four n))) ∧ Below w.heap.size w w' := by
  have hcv := run_convert_bytes_back (P := Tryz.prog) (w.alloc (.cells (fourC n 4) 5)) 66 9 5 ⟨w.heap.size, 0, none⟩ 4 (four n) Tryz.underlying66 Tryz.underlying5 Tryz.underlying9 (fun j hj => by
    rw [add_zero_off, World.cell?_alloc_new]
    exact fourC_four n j hj)
  rw [four_length, fourC_lit n hn] at hcv
  go_enter Tryz.func88, Tryz.ntmps88
  go_wp2
  go_ret
  exact ⟨rfl, (Below.refl _ _).alloc (Nat.le_refl _) _⟩
end Go.Proofs.YtnffjoflkeagfaaGreat.Fr
namespace Go.Proofs.YtnffjoflkeagfaaGreat.Fr
open Go.RowKit

theorem bs_append (a b : ByteArray) : bs (a ++ b) = bs a ++ bs b := by
  show (a ++ b).data.toList = _
  rw [ByteArray.data_append]; simp
theorem app_size (a b : ByteArray) : (a ++ b).size = a.size + b.size := by
  rw [← bs_size, bs_append, List.length_append, bs_size, bs_size]
set_option maxHeartbeats 4000000 in
set_option maxRecDepth 100000 in
theorem refFrame_any (s : ByteArray) (w : World) (hs : s.size ≤ 65536) :
    Calls Tryz.prog 73 #[.string s] w fun e w' => e = .returned (.tuple #[.string (mk (frameL (bs s))), .int .i64 0]) ∧ Below w.heap.size w w' := by
  have hbi : ¬ (65536 : Int) < (s.size : Int) := by omega
  have hn32 : s.size < 4294967296 := by omega
  have hz4 : (mk (four s.size)).size = 4 := by rw [mk_size, four_length]
  have hS := refSum_any (mk (four s.size) ++ s)
  have HA := Lib.hid (show bs (mk (four s.size) ++ s) = four s.size ++ bs s by rw [bs_append, bs_mk])
  have hza : (mk (four s.size) ++ s).size = 4 + s.size := by rw [app_size, hz4]
  rw [HA.out] at hS
  have hS2 := fun w' => hS w' (by omega)
  have hsl := sumL_lt (four s.size ++ bs s)
  have hz4b : (mk (four (sumL (four s.size ++ bs s)))).size = 4 := by rw [mk_size, four_length]
  have HF : Hid (mk (frameL (bs s)) = (mk (four s.size) ++ mk (four (sumL (four s.size ++ bs s)))) ++ s) := by
    show _ = _
    apply ba_ext
    rw [bs_append, bs_append, bs_mk, bs_mk, bs_mk]; unfold frameL; rw [bs_size]; simp
  have hF := fun w' => refFour_any s.size w' hn32
  have hF2 := fun w' => refFour_any (sumL (four s.size ++ bs s)) w' hsl
  clear hS hza
  generalize sumL (four s.size ++ bs s) = S at *
  have hzp : (mk (four s.size) ++ mk (four S)).size = 8 := by rw [app_size, hz4, hz4b]
  have HZ4 := Lib.hid hz4
  have HZ4b := Lib.hid hz4b
  have HZP := Lib.hid hzp
  have hl1 : (mk (four s.size)).size + s.size ≤ 9223372036854775807 := by omega
  have hl2 : (mk (four s.size)).size + (mk (four S)).size ≤ 9223372036854775807 := by omega
  have hl3 : (mk (four s.size) ++ mk (four S)).size + s.size ≤ 9223372036854775807 := by omega
  clear hz4 hz4b hzp
  go_enter Tryz.func73, Tryz.ntmps73
  go_wp2_with fail
  refine (hF _).mono ?_
  rintro e w1 ⟨rfl, b1⟩
  go_wp2_with fail
  refine (hS2 _).mono ?_
  rintro e w2 ⟨rfl, rfl⟩
  go_wp2_with fail
  refine (hF2 _).mono ?_
  rintro e w3 ⟨rfl, b3⟩
  go_wp2
  go_ret2
  exact ⟨ret2s (by first | exact congrArg Value.string HF.out.symm | (rw [HF.out, ByteArray.append_assoc]; rfl)) rfl, bw b1 b3⟩
set_option maxHeartbeats 1000000 in
theorem refFrame_long (s : ByteArray) (w : World) (hs : 65536 < s.size) (hs2 : s.size ≤ 9223372036854775807) :
    Calls Tryz.prog 73 #[.string s] w fun e w' => e = .returned (.tuple #[.string ⟨#[]⟩, .int .i64 31]) ∧ w = w' := by
  have hbi : (65536 : Int) < (s.size : Int) := by omega
  go_enter Tryz.func73, Tryz.ntmps73
  go_wp2
  go_ret2
  exact ⟨rfl, rfl⟩
end Go.Proofs.YtnffjoflkeagfaaGreat.Fr
