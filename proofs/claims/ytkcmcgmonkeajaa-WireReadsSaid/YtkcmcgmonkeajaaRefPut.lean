/- The reference's Put, PutInt, PutText, PutInts. -/
import Derived.Test.YtkcmcgmonkeajaaSame
import Derived.Test.YtkcmcgmonkeajaaLawBack
namespace Go.Proofs.Ytkcmcgmonkeajaa
open Go.RowKit

theorem Buf.of_own {B : Nat} {w : World} {e : TypeId} {v : Value} {bs : List UInt8} (h : w.ownsRow B e 1 v bs.length (Lib.byteCells bs)) (hp : 0 < bs.length) : Buf B w v bs := by
  rcases h.2 with ⟨_, h0⟩ | ⟨g, cap, cur, rfl, hB, hg, hcap, hm, hs, ht⟩
  · omega
  · have hc : ∀ j, w.cell? ⟨g, j, none⟩ = cur[j]? := fun j => cell_of_row w g j cur e (0, 0) hg
    refine ⟨g, cap, rfl, hB, (Array.getElem?_eq_some_iff.1 hg).1, hcap, fun j hj => ?_, fun j hj => ⟨?_, ?_⟩⟩
    · rw [hc, ← ht, List.getElem?_take, if_pos (by omega)]; simp
    · rw [hc, Array.getElem?_eq_getElem (by omega)]; rfl
    · unfold World.frozen?; rw [hg]; simp
theorem withB_app (b : ByteArray) (l : List UInt8) : b ++ (⟨l.toArray⟩ : ByteArray) = withB b l := by
  apply ByteArray.ext
  apply Array.toList_inj.1
  rw [app_list, withB_list]
theorem withB_app2 (b s : ByteArray) : b ++ s = withB b s.data.toList := by
  apply ByteArray.ext
  apply Array.toList_inj.1
  rw [app_list, withB_list]

set_option maxHeartbeats 4000000 in
set_option maxRecDepth 100000 in
theorem refPut_any (b : ByteArray) (x : Nat) (w : World) (hx : x < 18446744073709551616) (hb : b.size ≤ 1099511627776) :
    Calls Try.prog 11 #[.string b, .int .u64 x] w fun e w' => e = .returned (.string (withB b (Lib.uvarint x))) ∧ Below w.heap.size w w' := by
  obtain ⟨i0, hi, hz0, hz1, hz2⟩ := info_parts info_u8
  have hlen := Lib.uvarint_length64 hx
  go_enter Try.func11, Try.ntmps11
  go_wp2
  go_loopw [1, 5] (fun vx vb wr => ∃ (y : Nat) (pre : List UInt8), vx = .int .u64 y ∧ y ≤ x ∧ Lib.uvarint x = pre ++ Lib.uvarint y ∧ wr.ownsRow w.heap.size 5 1 vb pre.length (Lib.byteCells pre) ∧ Below w.heap.size w wr)
    (fun vx _ _ => (intOf vx).toNat)
  case atStart => exact ⟨x, [], rfl, Nat.le_refl _, rfl, World.ownsRow_nil _ _ _ _, Below.refl _ _⟩
  case round =>
    obtain ⟨y, pre, rfl, hy, hsplit, hown, hbel⟩ := hrel
    have hpl : pre.length + (Lib.uvarint y).length ≤ 10 := by
      have h2 := congrArg List.length hsplit
      rw [List.length_append] at h2
      omega
    have hyp := Lib.uvarint_pos y
    have hBw := hbel.size
    have HS := Lib.hid hsplit
    clear hsplit
    by_cases h128 : 128 ≤ y
    · obtain ⟨zb, hzb⟩ : ∃ zb : UInt8, zb = (y % 128 + 128).toUInt8 := ⟨_, rfl⟩
      have HZ : Hid (Lib.uvarint y = zb :: Lib.uvarint (y / 128)) := by
        show _ = _
        rw [hzb]; exact Lib.uvarint_big h128
      have hzn : (zb.toNat : Int) = 128 + (y : Int) % 128 := by rw [hzb, Lib.toUInt8_toNat (by omega)]; omega
      have HN := Lib.hid hzn
      clear hzb hzn
      go_wp2_with (at_builtin; refine wpList_append_own _ rfl _ _ 59 rfl w.heap.size 5 i0 (.int .u8 0) 1 1 Try.underlying59 hi hz0 hz1 hz2 rfl (by decide) _ _ _ rfl (hown.alloc _) ⟨wr.heap.size, 0, none⟩ 1 1 [.int .u8 (128 + (y : Int) % 128)] rfl rfl ?c1 ?c2 ?c3 ?c4 ?c5 ?_)
      case c1 =>
        intro i u hu
        match i, hu with
        | 0, hu => simp at hu; subst hu; simp [Addr.add]
      case c2 => intro u hu; simp at hu; subst hu; rfl
      case c3 => unfold maxLen; omega
      case c4 => omega
      case c5 => simp; omega
      intro v' w1 hown' hgrow _
      have hb1 : Below w.heap.size w w1 := (hbel.alloc hBw _).grown hgrow (by simp; omega) (fun k hk => (hown.lt k hk).1)
      have HO : Hid (w1.ownsRow w.heap.size 5 1 v' (pre ++ [zb]).length (Lib.byteCells (pre ++ [zb]))) := by
        show World.ownsRow _ _ _ _ _ _ _
        rw [Lib.byteCells_append, List.length_append]
        have e1 : Lib.byteCells [zb] = [Value.int .u8 (128 + (y : Int) % 128)] := by simp [Lib.byteCells, HN.out]
        rw [e1]; exact hown'
      clear hown hgrow hbel hown'
      go_wp2
      go_roundw
      case rel => exact ⟨y / 128, pre ++ [zb], by go_num, by omega, by rw [HS.out, HZ.out]; simp, HO.out, hb1⟩
      case measure => simp [intOf]; omega
    · obtain ⟨zb, hzb⟩ : ∃ zb : UInt8, zb = y.toUInt8 := ⟨_, rfl⟩
      have HZ : Hid (Lib.uvarint y = [zb]) := by
        show _ = _
        rw [hzb]; exact Lib.uvarint_small (by omega)
      have hzn : (zb.toNat : Int) = y := by rw [hzb, Lib.toUInt8_toNat (by omega)]
      have HN := Lib.hid hzn
      clear hzb hzn
      go_wp2_with (at_builtin; refine wpList_append_own _ rfl _ _ 59 rfl w.heap.size 5 i0 (.int .u8 0) 1 1 Try.underlying59 hi hz0 hz1 hz2 rfl (by decide) _ _ _ rfl (hown.alloc _) ⟨wr.heap.size, 0, none⟩ 1 1 [.int .u8 (y : Int)] rfl rfl ?c1 ?c2 ?c3 ?c4 ?c5 ?_)
      case c1 =>
        intro i u hu
        match i, hu with
        | 0, hu => simp at hu; subst hu; simp [Addr.add]
      case c2 => intro u hu; simp at hu; subst hu; rfl
      case c3 => unfold maxLen; omega
      case c4 => omega
      case c5 => simp; omega
      intro v' w1 hown' hgrow _
      have hb1 : Below w.heap.size w w1 := (hbel.alloc hBw _).grown hgrow (by simp; omega) (fun k hk => (hown.lt k hk).1)
      have HO : Hid (w1.ownsRow w.heap.size 5 1 v' (Lib.uvarint x).length (Lib.byteCells (Lib.uvarint x))) := by
        show World.ownsRow _ _ _ _ _ _ _
        rw [HS.out, HZ.out, Lib.byteCells_append, List.length_append]
        have e1 : Lib.byteCells [zb] = [Value.int .u8 (y : Int)] := by simp [Lib.byteCells, HN.out]
        rw [e1]; exact hown'
      have hbk := run_back (P := Try.prog) (Buf.of_own HO.out (Lib.uvarint_pos x)) 59 9 5 Try.underlying59 Try.underlying5 Try.underlying9
      obtain ⟨R, hR⟩ : ∃ R : ByteArray, R = ⟨(Lib.uvarint x).toArray⟩ := ⟨_, rfl⟩
      have hRs : R.size = (Lib.uvarint x).length := by rw [hR, mk_size]
      have hcat : b.size + R.size ≤ 9223372036854775807 := by omega
      have HR : Hid (b ++ R = withB b (Lib.uvarint x)) := by show _ = _; rw [hR, withB_app]
      rw [← hR] at hbk
      clear hown hgrow hbel hown' hR hRs
      go_wp2
      go_ret
      exact ⟨by rw [← HR.out]; rfl, hb1⟩

set_option maxHeartbeats 1000000 in
theorem zig_any (n : Int) (w : World) (h0 : -9223372036854775808 ≤ n) (h1 : n ≤ 9223372036854775807) :
    Calls Try.prog 37 #[.int .i64 n] w fun e w' => e = .returned (.int .u64 (Lib.zigzag n : Nat)) ∧ w = w' := by
  by_cases hn : 0 ≤ n
  · go_enter Try.func37, Try.ntmps37
    go_wp2
    go_ret
    exact ⟨ret_int (Lib.zigzag_nonneg hn).symm, rfl⟩
  · have HZ : Hid (((Lib.zigzag n : Nat) : Int) = -(n + 1) * 2 + 1) := by
      show _ = _
      unfold Lib.zigzag; rw [if_neg hn]; omega
    go_enter Try.func37, Try.ntmps37
    go_wp2
    go_ret
    exact ⟨ret_int (by rw [HZ.out]), rfl⟩
set_option maxHeartbeats 1000000 in
theorem refPutInt_any (b : ByteArray) (n : Int) (w : World) (hn : -9223372036854775808 ≤ n ∧ n ≤ 9223372036854775807) (hb : b.size ≤ 1099511627776) :
    Calls Try.prog 13 #[.string b, .int .i64 n] w fun e w' => e = .returned (.string (withB b (numI n))) ∧ Below w.heap.size w w' := by
  have hz := zigzag_lt n hn.1 hn.2
  go_enter Try.func13, Try.ntmps13
  go_wp2_with fail
  refine (zig_any n _ hn.1 hn.2).mono ?_
  rintro e w1 ⟨rfl, rfl⟩
  go_wp2_with fail
  refine (refPut_any b _ _ hz hb).mono ?_
  rintro e w1 ⟨rfl, h1⟩
  go_wp2
  go_ret
  exact ⟨rfl, h1⟩
set_option maxHeartbeats 1000000 in
theorem refPutText_any (b s : ByteArray) (w : World) (hs : s.size ≤ 1048576) (hb : b.size ≤ 1073741824) :
    Calls Try.prog 14 #[.string b, .string s] w fun e w' => e = .returned (.string (withB b (numT s))) ∧ Below w.heap.size w w' := by
  have hu := Lib.uvarint_length64 (x := s.size) (by omega)
  obtain ⟨R, hR⟩ : ∃ R : ByteArray, R = withB b (Lib.uvarint s.size) := ⟨_, rfl⟩
  have hRs : R.size = b.size + (Lib.uvarint s.size).length := by rw [hR, withB_size]
  have hcat : R.size + s.size ≤ 9223372036854775807 := by omega
  have HR : Hid (R ++ s = withB b (numT s)) := by show _ = _; rw [hR, withB_app2, withB_with]; rfl
  have hP := fun w' => refPut_any b s.size w' (by omega) (by omega)
  rw [← hR] at hP
  clear hR hRs
  go_enter Try.func14, Try.ntmps14
  go_wp2_with fail
  refine (hP _).mono ?_
  rintro e w1 ⟨rfl, h1⟩
  go_wp2
  go_ret
  exact ⟨by rw [← HR.out]; rfl, h1⟩
set_option maxHeartbeats 4000000 in
set_option maxRecDepth 100000 in
theorem refPutInts_any (b : ByteArray) (v : Value) (l : List Int) (w : World) (hl : ListAt w v l.length (cellsOf intC l)) (hb : b.size ≤ 1073741824) (hn : l.length ≤ 1048576) (hwf : ∀ c ∈ l, -9223372036854775808 ≤ c ∧ c ≤ 9223372036854775807) :
    Calls Try.prog 19 #[.string b, v] w fun e w' => e = .returned (.string (withB b (numL l))) ∧ Below w.heap.size w w' := by
  have hu := Lib.uvarint_length64 (x := l.length) (by omega)
  have hfl := flat_le numI 10 l (fun x hx => numI_len x (hwf x hx).1 (hwf x hx).2)
  obtain ⟨_, aa, cap, rfl, _, hc⟩ := hl
  have HC := Lib.hid hc
  clear hc
  go_enter Try.func19, Try.ntmps19
  go_wp2_with fail
  refine (refPut_any b _ _ (by omega) (by omega)).mono ?_
  rintro e w1 ⟨rfl, h1⟩
  go_wp2
  go_loopw [0, 5] (fun vb i wr => ∃ (k : Nat) (R : ByteArray), k ≤ l.length ∧ i = .int .i64 k ∧ vb = .string R ∧ R = withB b (Lib.uvarint l.length ++ numsI (l.take k)) ∧ Below w.heap.size w wr) (fun _ i _ => l.length - (intOf i).toNat)
  case atStart => exact ⟨0, _, Nat.zero_le _, rfl, rfl, by simp [numsI], h1⟩
  case round =>
    obtain ⟨k, R, hk, rfl, rfl, hR, hbel⟩ := hrel
    have hft := flat_take numI l k
    have hRs : R.size ≤ 1099511627776 := by rw [hR, withB_size, List.length_append]; unfold numsI; omega
    have HR := Lib.hid hR
    clear hR
    by_cases hlt : k < l.length
    · obtain ⟨ba, offa, rfl, hba, hca⟩ := HC.out.resolve_left (by omega)
      obtain ⟨x, hx⟩ : ∃ x, l[k]? = some x := ⟨l[k], List.getElem?_eq_getElem hlt⟩
      have c1 := (hbel.cell (p := ⟨ba, offa + k, none⟩) hba).trans (ListAt.get hca hx)
      have hwx := hwf x (List.mem_of_getElem? hx)
      have HT : Hid (withB R (numI x) = withB b (Lib.uvarint l.length ++ numsI (l.take (k + 1)))) := by
        show _ = _
        rw [HR.out, withB_with, take_snocA l k x hx, List.append_assoc]
        simp [numsI]
      have hP := refPutInt_any R x wr hwx hRs
      obtain ⟨R2, hR2⟩ : ∃ R2, R2 = withB R (numI x) := ⟨_, rfl⟩
      rw [← hR2] at hP HT
      clear hca hx hR2
      go_wp2_with fail
      refine hP.mono ?_
      rintro e w2 ⟨rfl, h2⟩
      have h3 := bw hbel h2
      clear h2 hbel
      go_wp2
      go_roundw
      case rel => exact ⟨k + 1, R2, by omega, by go_num, rfl, HT.out, h3⟩
      case measure => simp [intOf]; omega
    · have HT : Hid (R = withB b (numL l)) := by
        show _ = _
        rw [HR.out, List.take_of_length_le (by omega)]; rfl
      go_wp2
      go_ret
      exact ⟨by rw [← HT.out]; rfl, hbel⟩
end Go.Proofs.Ytkcmcgmonkeajaa
