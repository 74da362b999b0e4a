/- The table's sum; Sum. -/
import Derived.Test.YtnffjoflkeagfaaFTable
namespace Go.Proofs.Ytnffjoflkeagfaa.Fr
open Go.RowKit

abbrev strC : ByteArray → Value := fun c => .string c
/-- a text's bytes -/
abbrev bs (s : ByteArray) : List UInt8 := s.data.toList
/-- .. of all, one behind the other -/
def catL (l : List ByteArray) : List UInt8 := l.flatMap bs
theorem catL_snoc (l : List ByteArray) (k : Nat) (x : ByteArray) (h : l[k]? = some x) : catL (l.take (k + 1)) = catL (l.take k) ++ bs x := by
  rw [take_snocA l k x h]; simp [catL]
theorem take_snocB (s : ByteArray) (k : Nat) (h : k < s.size) : (bs s).take (k + 1) = (bs s).take k ++ [s[k]] := by
  rw [List.take_succ_eq_append_getElem (by simpa using h)]; rfl
theorem u8_wrap_nat (c : Nat) : IntKind.u8.wrap (c : Int) = ((c % 256 : Nat) : Int) := by rw [IntKind.wrap_u8']; omega

set_option maxHeartbeats 4000000 in
set_option maxRecDepth 100000 in
theorem sum_any (p : Nat) (v : Value) (l : List ByteArray) (w : World) (ht : Tab p w) (hl : ListAt w v l.length (cellsOf strC l)) (hn : l.length ≤ 1099511627776) (hs : ∀ c ∈ l, c.size ≤ 9223372036854775807) :
    Calls Try.prog 82 #[.pointer (some ⟨p, 0, none⟩), v] w fun e w' => e = .returned (.int .u32 (sumL (catL l) : Nat)) ∧ ∃ q, w' = w.drewN q := by
  obtain ⟨_, aa, cap, rfl, _, hc⟩ := hl
  have HC := Lib.hid hc
  have HT := Lib.hid ht
  clear hc ht
  go_enter Try.func82, Try.ntmps82
  go_wp2
  go_loopw [5, 11] (fun vc i wr => ∃ (k c q : Nat), k ≤ l.length ∧ i = .int .i64 k ∧ vc = .int .u32 c ∧ c < 4294967296 ∧ Hid (c = crc 4294967295 (catL (l.take k))) ∧ wr = w.drewN q) (fun _ i _ => l.length - (intOf i).toNat)
  case atStart => exact ⟨0, 4294967295, 0, by omega, rfl, rfl, by decide, by simp [catL, crc, Hid], rfl⟩
  case round =>
    obtain ⟨k, c, q, hk, rfl, rfl, hc32, hc, rfl⟩ := hrel
    by_cases hlt : k < l.length
    · obtain ⟨x, hx⟩ : ∃ x, l[k]? = some x := ⟨l[k], List.getElem?_eq_getElem hlt⟩
      obtain ⟨ba, offa, rfl, hba, hca⟩ := HC.out.resolve_left (by omega)
      have c1 := ListAt.get hca hx
      have hxs := hs x (List.mem_of_getElem? hx)
      have HX := Lib.hid (catL_snoc l k x hx)
      clear hca hx
      go_wp2
      go_loopw [5, 17] (fun vd j wr => ∃ (m d q : Nat), m ≤ x.size ∧ j = .int .i64 m ∧ vd = .int .u32 d ∧ d < 4294967296 ∧ Hid (d = crc c ((bs x).take m)) ∧ wr = w.drewN q) (fun _ j _ => x.size - (intOf j).toNat)
      case atStart => exact ⟨0, c, q, by omega, rfl, rfl, hc32, by simp [crc, Hid], rfl⟩
      case round =>
        obtain ⟨m, d, q2, hm, rfl, rfl, hd32, hd, rfl⟩ := hrel
        by_cases hmx : m < x.size
        · have hbl := x[m].toNat_lt
          have hxr := u8_xor_nat (d % 256) x[m].toNat (by omega) hbl
          rw [show ((d % 256 : Nat) : Int) = (d : Int) % 256 by omega] at hxr
          have hX := xor_lt8 (a := d % 256) (b := x[m].toNat) (by omega) hbl
          have hcell := HT.out.2 (d % 256 ^^^ x[m].toNat) hX
          have hS := step_lt x[m] hd32
          have hxr2 := u32_xor_nat (d / 256) (h8 (d % 256 ^^^ x[m].toNat)) (by omega) (h8_lt (by omega))
          rw [← step_table d x[m], show ((d / 256 : Nat) : Int) = (d : Int) / 256 by omega] at hxr2
          have HD : Hid (step d x[m] = crc c ((bs x).take (m + 1))) := by
            show _ = _
            rw [take_snocB x m hmx, crc_snoc, ← hd]
          have hmi : (m : Int) < (x.size : Int) := by omega
          have hXi : ((d % 256 ^^^ x[m].toNat : Nat) : Int) < 256 := by omega
          generalize h8 (d % 256 ^^^ x[m].toNat) = H at *
          generalize d % 256 ^^^ x[m].toNat = X at *
          generalize step d x[m] = S at *
          go_wp2
          go_quiet (fail)
          go_wp2
          go_roundw
          case rel => exact ⟨m + 1, S, _, by omega, by go_num, rfl, hS, HD, rfl⟩
          case measure => simp [intOf]; omega
        · have HD : Hid ((bs x).take m = bs x) := by show _ = _; exact List.take_of_length_le (by show x.data.toList.length ≤ m; rw [← Lib.size_eq]; omega)
          have HC2 : Hid (d = crc 4294967295 (catL (l.take (k + 1)))) := by
            show _ = _
            rw [HX.out, crc_append, ← hc, hd, HD.out]
          clear hd hc
          go_wp2
          go_roundw
          case rel => exact ⟨k + 1, d, q2, by omega, by go_num, rfl, hd32, HC2, rfl⟩
          case measure => simp [intOf]; omega
    · have HT : Hid (l.take k = l) := by show _ = _; exact List.take_of_length_le (by omega)
      have hx := u32_xor_nat c 4294967295 hc32 (by decide)
      rw [show ((4294967295 : Nat) : Int) = 4294967295 from rfl] at hx
      have HX := Lib.hid hx
      clear hx
      go_wp2
      go_ret
      exact ⟨ret_int (by rw [HX.out, hc, HT.out]; rfl), q, rfl⟩
end Go.Proofs.Ytnffjoflkeagfaa.Fr
