/- put at its four instances; Put, PutInt, PutText, PutInts. -/
import Derived.Test.YtkcmcgmonkeajaaKit
namespace Go.Proofs.Ytkcmcgmonkeajaa
open Go.RowKit

set_option maxHeartbeats 1000000 in
theorem writeInt64_any (B : Nat) (v : Value) (bs : List UInt8) (x : Int) (w : World) (hx : -9223372036854775808 ≤ x ∧ x ≤ 9223372036854775807) (hv : Buf B w v bs) (hB : B ≤ w.heap.size) (hlim : bs.length + 10 ≤ 140737488355328) :
    Calls Try.prog 41 #[v, .int .i64 x] w fun e w' => ∃ v', e = .returned v' ∧ Buf B w' v' (bs ++ numI x) ∧ Below B w w' := by
  obtain ⟨hx0, hx1⟩ := hx
  have hz := zigzag_lt x hx0 hx1
  go_enter Try.func41, Try.ntmps41
  go_wp2_with fail
  refine (fold_any x _ hx0 hx1).mono ?_
  rintro e w1 ⟨rfl, rfl⟩
  go_wp2_with fail
  refine (writeNumber_any B v bs _ _ hz hv hB hlim).mono ?_
  rintro e w1 ⟨v', rfl, h1, h2⟩
  go_wp2
  go_ret
  exact ⟨v', rfl, h1, h2⟩
set_option maxHeartbeats 1000000 in
theorem writeInt_any (B : Nat) (v : Value) (bs : List UInt8) (x : Int) (w : World) (hx : -9223372036854775808 ≤ x ∧ x ≤ 9223372036854775807) (hv : Buf B w v bs) (hB : B ≤ w.heap.size) (hlim : bs.length + 10 ≤ 140737488355328) :
    Calls Try.prog 45 #[v, .int .i64 x] w fun e w' => ∃ v', e = .returned v' ∧ Buf B w' v' (bs ++ numI x) ∧ Below B w w' := by
  obtain ⟨hx0, hx1⟩ := hx
  have hz := zigzag_lt x hx0 hx1
  go_enter Try.func45, Try.ntmps45
  go_wp2_with fail
  refine (fold_any x _ hx0 hx1).mono ?_
  rintro e w1 ⟨rfl, rfl⟩
  go_wp2_with fail
  refine (writeNumber_any B v bs _ _ hz hv hB hlim).mono ?_
  rintro e w1 ⟨v', rfl, h1, h2⟩
  go_wp2
  go_ret
  exact ⟨v', rfl, h1, h2⟩
set_option maxHeartbeats 1000000 in
theorem writeText_any (B : Nat) (v : Value) (bs : List UInt8) (x : ByteArray) (w : World) (hx : x.size ≤ 1048576) (hv : Buf B w v bs) (hB : B ≤ w.heap.size) (hlim : bs.length + 1048586 ≤ 140737488355328) :
    Calls Try.prog 43 #[v, .string x] w fun e w' => ∃ v', e = .returned v' ∧ Buf B w' v' (bs ++ numT x) ∧ Below B w w' := by
  obtain ⟨i0, hi, hz0, hz1, hz2⟩ := info_parts info_u8
  have hlen := Lib.uvarint_length64 (x := x.size) (by omega)
  go_enter Try.func43, Try.ntmps43
  go_wp2_with fail
  refine (writeNumber_any B v bs x.size _ (by omega) hv hB (by omega)).mono ?_
  rintro e w1 ⟨v', rfl, h1, h2⟩
  have hsz : x.data.toList.length = x.size := (Lib.size_eq x).symm
  have HZ := Lib.hid hsz
  have hB1 := h2.size
  clear hsz
  go_wp2_with (at_builtin; refine wpList_append_buf _ rfl _ _ 59 9 rfl 5 i0 Try.underlying59 hi hz0 hz1 hz2 B _ _ rfl h1 _ rfl x.data.toList (src_str Try.underlying9 _ x) (by omega) (by rw [HZ.out, List.length_append]; omega) ?_)
  intro v2 w2 h3 h4
  have h5 := h2.trans h4
  clear h1 h2 h4
  go_wp2
  go_ret
  exact ⟨v2, rfl, by unfold numT; first | exact h3 | (rw [← List.append_assoc]; exact h3), h5⟩


set_option maxHeartbeats 4000000 in
set_option maxRecDepth 100000 in
theorem put_u64 (b : ByteArray) (v : Value) (l : List Nat) (w : World) (hl : ListAt w v l.length (cellsOf (fun c : Nat => Value.int .u64 c) l)) (hb : b.size ≤ 1099511627776) (hn : l.length ≤ 1048576) (hwf : ∀ c ∈ l, c < 18446744073709551616) :
    Calls Try.prog 38 #[.string b, v, .func (.func 39) #[] #[]] w fun e w' => e = .returned (.string (withB b (l.flatMap Lib.uvarint))) ∧ Below w.heap.size w w' := by
  obtain ⟨_, aa, cap, rfl, _, hc⟩ := hl
  have HC := Lib.hid hc
  clear hc
  have hcv := Lib.run_convert_string_bytes (P := Try.prog) w 9 59 5 b Try.underlying9 Try.underlying59 Try.underlying5
  obtain ⟨hB0, hb0⟩ := buf_conv w 5 b
  generalize Value.slice (some ⟨w.heap.size, 0, none⟩) b.size (grownCap w b.size 0 5) = v0 at hcv hB0
  generalize Lib.bytesWorld w 5 b = W0 at hcv hB0 hb0
  have hbs : b.data.toList.length = b.size := (Lib.size_eq b).symm
  have hfl := flat_le Lib.uvarint 10 l (fun x hx => Lib.uvarint_length64 (hwf x hx))
  have HBS := Lib.hid hbs
  clear hbs
  go_enter Try.func38, Try.ntmps38
  go_wp2
  clear hcv
  go_loopw [7, 14] (fun vb i wr => ∃ k : Nat, k ≤ l.length ∧ i = .int .i64 k ∧ Buf w.heap.size wr vb (b.data.toList ++ (l.take k).flatMap Lib.uvarint) ∧ Below w.heap.size w wr) (fun _ i _ => l.length - (intOf i).toNat)
  case atStart => exact ⟨0, by omega, rfl, by simpa using hB0, hb0⟩
  case round =>
    obtain ⟨k, hk, rfl, hbuf, hbel⟩ := hrel
    have hBw := hbel.size
    by_cases hlt : k < l.length
    · obtain ⟨ba, offa, rfl, hba, hca⟩ := HC.out.resolve_left (by omega)
      obtain ⟨x, hx⟩ : ∃ x, l[k]? = some x := ⟨l[k], List.getElem?_eq_getElem hlt⟩
      have c1 := (hbel.cell (p := ⟨ba, offa + k, none⟩) hba).trans (ListAt.get hca hx)
      have hwx := hwf x (List.mem_of_getElem? hx)
      have HT : Hid ((l.take (k + 1)).flatMap Lib.uvarint = (l.take k).flatMap Lib.uvarint ++ Lib.uvarint x) := by
        show _ = _
        rw [take_snocA l k x hx]; simp
      have hlen : (b.data.toList ++ (l.take k).flatMap Lib.uvarint).length + 10 ≤ 140737488355328 := by
        have := flat_take Lib.uvarint l k
        rw [List.length_append, HBS.out]; omega
      clear hca hx
      have HB := Lib.hid hbuf
      clear hbuf
      go_wp2_with fail
      refine (writeNumber_any _ _ _ x _ hwx HB.out hBw hlen).mono ?_
      rintro e w1 ⟨v', rfl, hbuf', hbel'⟩
      have hbel3 := hbel.trans hbel'
      have HB2 := Lib.hid hbuf'
      clear hbel hbel' hbuf'
      go_wp2
      go_roundw
      case rel => exact ⟨k + 1, by omega, by go_num, by rw [HT.out, ← List.append_assoc]; exact HB2.out, hbel3⟩
      case measure => simp [intOf]; omega
    · have HT : Hid (l.take k = l) := by show _ = _; exact List.take_of_length_le (by omega)
      rw [HT.out] at hbuf
      have hbk := run_back (P := Try.prog) hbuf 59 9 5 Try.underlying59 Try.underlying5 Try.underlying9
      clear hbuf
      go_wp2
      go_ret
      exact ⟨rfl, hbel⟩

set_option maxHeartbeats 4000000 in
set_option maxRecDepth 100000 in
theorem put_i64 (b : ByteArray) (v : Value) (l : List Int) (w : World) (hl : ListAt w v l.length (cellsOf (fun c : Int => Value.int .i64 c) l)) (hb : b.size ≤ 1099511627776) (hn : l.length ≤ 1048576) (hwf : ∀ c ∈ l, -9223372036854775808 ≤ c ∧ c ≤ 9223372036854775807) :
    Calls Try.prog 40 #[.string b, v, .func (.func 41) #[] #[]] w fun e w' => e = .returned (.string (withB b (l.flatMap numI))) ∧ Below w.heap.size w w' := by
  obtain ⟨_, aa, cap, rfl, _, hc⟩ := hl
  have HC := Lib.hid hc
  clear hc
  have hcv := Lib.run_convert_string_bytes (P := Try.prog) w 9 59 5 b Try.underlying9 Try.underlying59 Try.underlying5
  obtain ⟨hB0, hb0⟩ := buf_conv w 5 b
  generalize Value.slice (some ⟨w.heap.size, 0, none⟩) b.size (grownCap w b.size 0 5) = v0 at hcv hB0
  generalize Lib.bytesWorld w 5 b = W0 at hcv hB0 hb0
  have hbs : b.data.toList.length = b.size := (Lib.size_eq b).symm
  have hfl := flat_le numI 10 l (fun x hx => numI_len x (hwf x hx).1 (hwf x hx).2)
  have HBS := Lib.hid hbs
  clear hbs
  go_enter Try.func40, Try.ntmps40
  go_wp2
  clear hcv
  go_loopw [7, 14] (fun vb i wr => ∃ k : Nat, k ≤ l.length ∧ i = .int .i64 k ∧ Buf w.heap.size wr vb (b.data.toList ++ (l.take k).flatMap numI) ∧ Below w.heap.size w wr) (fun _ i _ => l.length - (intOf i).toNat)
  case atStart => exact ⟨0, by omega, rfl, by simpa using hB0, hb0⟩
  case round =>
    obtain ⟨k, hk, rfl, hbuf, hbel⟩ := hrel
    have hBw := hbel.size
    by_cases hlt : k < l.length
    · obtain ⟨ba, offa, rfl, hba, hca⟩ := HC.out.resolve_left (by omega)
      obtain ⟨x, hx⟩ : ∃ x, l[k]? = some x := ⟨l[k], List.getElem?_eq_getElem hlt⟩
      have c1 := (hbel.cell (p := ⟨ba, offa + k, none⟩) hba).trans (ListAt.get hca hx)
      have hwx := hwf x (List.mem_of_getElem? hx)
      have HT : Hid ((l.take (k + 1)).flatMap numI = (l.take k).flatMap numI ++ numI x) := by
        show _ = _
        rw [take_snocA l k x hx]; simp
      have hlen : (b.data.toList ++ (l.take k).flatMap numI).length + 10 ≤ 140737488355328 := by
        have := flat_take numI l k
        rw [List.length_append, HBS.out]; omega
      clear hca hx
      have HB := Lib.hid hbuf
      clear hbuf
      go_wp2_with fail
      refine (writeInt64_any _ _ _ x _ hwx HB.out hBw hlen).mono ?_
      rintro e w1 ⟨v', rfl, hbuf', hbel'⟩
      have hbel3 := hbel.trans hbel'
      have HB2 := Lib.hid hbuf'
      clear hbel hbel' hbuf'
      go_wp2
      go_roundw
      case rel => exact ⟨k + 1, by omega, by go_num, by rw [HT.out, ← List.append_assoc]; exact HB2.out, hbel3⟩
      case measure => simp [intOf]; omega
    · have HT : Hid (l.take k = l) := by show _ = _; exact List.take_of_length_le (by omega)
      rw [HT.out] at hbuf
      have hbk := run_back (P := Try.prog) hbuf 59 9 5 Try.underlying59 Try.underlying5 Try.underlying9
      clear hbuf
      go_wp2
      go_ret
      exact ⟨rfl, hbel⟩

set_option maxHeartbeats 4000000 in
set_option maxRecDepth 100000 in
theorem put_int (b : ByteArray) (v : Value) (l : List Int) (w : World) (hl : ListAt w v l.length (cellsOf (fun c : Int => Value.int .i64 c) l)) (hb : b.size ≤ 1099511627776) (hn : l.length ≤ 1048576) (hwf : ∀ c ∈ l, -9223372036854775808 ≤ c ∧ c ≤ 9223372036854775807) :
    Calls Try.prog 44 #[.string b, v, .func (.func 45) #[] #[]] w fun e w' => e = .returned (.string (withB b (l.flatMap numI))) ∧ Below w.heap.size w w' := by
  obtain ⟨_, aa, cap, rfl, _, hc⟩ := hl
  have HC := Lib.hid hc
  clear hc
  have hcv := Lib.run_convert_string_bytes (P := Try.prog) w 9 59 5 b Try.underlying9 Try.underlying59 Try.underlying5
  obtain ⟨hB0, hb0⟩ := buf_conv w 5 b
  generalize Value.slice (some ⟨w.heap.size, 0, none⟩) b.size (grownCap w b.size 0 5) = v0 at hcv hB0
  generalize Lib.bytesWorld w 5 b = W0 at hcv hB0 hb0
  have hbs : b.data.toList.length = b.size := (Lib.size_eq b).symm
  have hfl := flat_le numI 10 l (fun x hx => numI_len x (hwf x hx).1 (hwf x hx).2)
  have HBS := Lib.hid hbs
  clear hbs
  go_enter Try.func44, Try.ntmps44
  go_wp2
  clear hcv
  go_loopw [7, 14] (fun vb i wr => ∃ k : Nat, k ≤ l.length ∧ i = .int .i64 k ∧ Buf w.heap.size wr vb (b.data.toList ++ (l.take k).flatMap numI) ∧ Below w.heap.size w wr) (fun _ i _ => l.length - (intOf i).toNat)
  case atStart => exact ⟨0, by omega, rfl, by simpa using hB0, hb0⟩
  case round =>
    obtain ⟨k, hk, rfl, hbuf, hbel⟩ := hrel
    have hBw := hbel.size
    by_cases hlt : k < l.length
    · obtain ⟨ba, offa, rfl, hba, hca⟩ := HC.out.resolve_left (by omega)
      obtain ⟨x, hx⟩ : ∃ x, l[k]? = some x := ⟨l[k], List.getElem?_eq_getElem hlt⟩
      have c1 := (hbel.cell (p := ⟨ba, offa + k, none⟩) hba).trans (ListAt.get hca hx)
      have hwx := hwf x (List.mem_of_getElem? hx)
      have HT : Hid ((l.take (k + 1)).flatMap numI = (l.take k).flatMap numI ++ numI x) := by
        show _ = _
        rw [take_snocA l k x hx]; simp
      have hlen : (b.data.toList ++ (l.take k).flatMap numI).length + 10 ≤ 140737488355328 := by
        have := flat_take numI l k
        rw [List.length_append, HBS.out]; omega
      clear hca hx
      have HB := Lib.hid hbuf
      clear hbuf
      go_wp2_with fail
      refine (writeInt_any _ _ _ x _ hwx HB.out hBw hlen).mono ?_
      rintro e w1 ⟨v', rfl, hbuf', hbel'⟩
      have hbel3 := hbel.trans hbel'
      have HB2 := Lib.hid hbuf'
      clear hbel hbel' hbuf'
      go_wp2
      go_roundw
      case rel => exact ⟨k + 1, by omega, by go_num, by rw [HT.out, ← List.append_assoc]; exact HB2.out, hbel3⟩
      case measure => simp [intOf]; omega
    · have HT : Hid (l.take k = l) := by show _ = _; exact List.take_of_length_le (by omega)
      rw [HT.out] at hbuf
      have hbk := run_back (P := Try.prog) hbuf 59 9 5 Try.underlying59 Try.underlying5 Try.underlying9
      clear hbuf
      go_wp2
      go_ret
      exact ⟨rfl, hbel⟩

set_option maxHeartbeats 4000000 in
set_option maxRecDepth 100000 in
theorem put_str (b : ByteArray) (v : Value) (l : List ByteArray) (w : World) (hl : ListAt w v l.length (cellsOf (fun c : ByteArray => Value.string c) l)) (hb : b.size ≤ 1099511627776) (hn : l.length ≤ 1048576) (hwf : ∀ c ∈ l, c.size ≤ 1048576) :
    Calls Try.prog 42 #[.string b, v, .func (.func 43) #[] #[]] w fun e w' => e = .returned (.string (withB b (l.flatMap numT))) ∧ Below w.heap.size w w' := by
  obtain ⟨_, aa, cap, rfl, _, hc⟩ := hl
  have HC := Lib.hid hc
  clear hc
  have hcv := Lib.run_convert_string_bytes (P := Try.prog) w 9 59 5 b Try.underlying9 Try.underlying59 Try.underlying5
  obtain ⟨hB0, hb0⟩ := buf_conv w 5 b
  generalize Value.slice (some ⟨w.heap.size, 0, none⟩) b.size (grownCap w b.size 0 5) = v0 at hcv hB0
  generalize Lib.bytesWorld w 5 b = W0 at hcv hB0 hb0
  have hbs : b.data.toList.length = b.size := (Lib.size_eq b).symm
  have hfl := flat_le numT 1048586 l (fun x hx => by have h1 := hwf x hx; have h2 := Lib.uvarint_length64 (x := x.size) (by omega); have h3 := Lib.size_eq x; unfold numT; rw [List.length_append]; omega)
  have HBS := Lib.hid hbs
  clear hbs
  go_enter Try.func42, Try.ntmps42
  go_wp2
  clear hcv
  go_loopw [7, 14] (fun vb i wr => ∃ k : Nat, k ≤ l.length ∧ i = .int .i64 k ∧ Buf w.heap.size wr vb (b.data.toList ++ (l.take k).flatMap numT) ∧ Below w.heap.size w wr) (fun _ i _ => l.length - (intOf i).toNat)
  case atStart => exact ⟨0, by omega, rfl, by simpa using hB0, hb0⟩
  case round =>
    obtain ⟨k, hk, rfl, hbuf, hbel⟩ := hrel
    have hBw := hbel.size
    by_cases hlt : k < l.length
    · obtain ⟨ba, offa, rfl, hba, hca⟩ := HC.out.resolve_left (by omega)
      obtain ⟨x, hx⟩ : ∃ x, l[k]? = some x := ⟨l[k], List.getElem?_eq_getElem hlt⟩
      have c1 := (hbel.cell (p := ⟨ba, offa + k, none⟩) hba).trans (ListAt.get hca hx)
      have hwx := hwf x (List.mem_of_getElem? hx)
      have HT : Hid ((l.take (k + 1)).flatMap numT = (l.take k).flatMap numT ++ numT x) := by
        show _ = _
        rw [take_snocA l k x hx]; simp
      have hlen : (b.data.toList ++ (l.take k).flatMap numT).length + 1048586 ≤ 140737488355328 := by
        have := flat_take numT l k
        rw [List.length_append, HBS.out]; omega
      clear hca hx
      have HB := Lib.hid hbuf
      clear hbuf
      go_wp2_with fail
      refine (writeText_any _ _ _ x _ hwx HB.out hBw hlen).mono ?_
      rintro e w1 ⟨v', rfl, hbuf', hbel'⟩
      have hbel3 := hbel.trans hbel'
      have HB2 := Lib.hid hbuf'
      clear hbel hbel' hbuf'
      go_wp2
      go_roundw
      case rel => exact ⟨k + 1, by omega, by go_num, by rw [HT.out, ← List.append_assoc]; exact HB2.out, hbel3⟩
      case measure => simp [intOf]; omega
    · have HT : Hid (l.take k = l) := by show _ = _; exact List.take_of_length_le (by omega)
      rw [HT.out] at hbuf
      have hbk := run_back (P := Try.prog) hbuf 59 9 5 Try.underlying59 Try.underlying5 Try.underlying9
      clear hbuf
      go_wp2
      go_ret
      exact ⟨rfl, hbel⟩

set_option maxHeartbeats 1000000 in
theorem Put_any (b : ByteArray) (v : Value) (l : List Nat) (w : World) (hl : ListAt w v l.length (cellsOf (fun c : Nat => Value.int .u64 c) l)) (hb : b.size ≤ 1099511627776) (hn : l.length ≤ 1048576) (hwf : ∀ c ∈ l, c < 18446744073709551616) :
    Calls Try.prog 15 #[.string b, v] w fun e w' => e = .returned (.string (withB b (l.flatMap Lib.uvarint))) ∧ Below w.heap.size w w' := by
  have HL := Lib.hid hl
  clear hl
  go_enter Try.func15, Try.ntmps15
  go_wp2_with fail
  refine (put_u64 b v l _ HL.out hb hn hwf).mono ?_
  rintro e w1 ⟨rfl, h1⟩
  go_wp2
  go_ret
  exact ⟨rfl, h1⟩

set_option maxHeartbeats 1000000 in
theorem PutInt_any (b : ByteArray) (v : Value) (l : List Int) (w : World) (hl : ListAt w v l.length (cellsOf (fun c : Int => Value.int .i64 c) l)) (hb : b.size ≤ 1099511627776) (hn : l.length ≤ 1048576) (hwf : ∀ c ∈ l, -9223372036854775808 ≤ c ∧ c ≤ 9223372036854775807) :
    Calls Try.prog 16 #[.string b, v] w fun e w' => e = .returned (.string (withB b (l.flatMap numI))) ∧ Below w.heap.size w w' := by
  have HL := Lib.hid hl
  clear hl
  go_enter Try.func16, Try.ntmps16
  go_wp2_with fail
  refine (put_i64 b v l _ HL.out hb hn hwf).mono ?_
  rintro e w1 ⟨rfl, h1⟩
  go_wp2
  go_ret
  exact ⟨rfl, h1⟩

set_option maxHeartbeats 1000000 in
theorem PutText_any (b : ByteArray) (v : Value) (l : List ByteArray) (w : World) (hl : ListAt w v l.length (cellsOf (fun c : ByteArray => Value.string c) l)) (hb : b.size ≤ 1099511627776) (hn : l.length ≤ 1048576) (hwf : ∀ c ∈ l, c.size ≤ 1048576) :
    Calls Try.prog 17 #[.string b, v] w fun e w' => e = .returned (.string (withB b (l.flatMap numT))) ∧ Below w.heap.size w w' := by
  have HL := Lib.hid hl
  clear hl
  go_enter Try.func17, Try.ntmps17
  go_wp2_with fail
  refine (put_str b v l _ HL.out hb hn hwf).mono ?_
  rintro e w1 ⟨rfl, h1⟩
  go_wp2
  go_ret
  exact ⟨rfl, h1⟩

theorem listAt_new (w : World) (T : TypeId) (n : Nat) : ListAt (w.alloc (.cells #[.int .u64 n] T)) (.slice (some ⟨w.heap.size, 0, none⟩) 1 1) [n].length (cellsOf (fun c : Nat => Value.int .u64 c) [n]) := by
  refine ⟨rfl, _, _, rfl, Nat.le_refl _, .inr ⟨_, _, rfl, by simp, fun j u hu => ?_⟩⟩
  match j, hu with
  | 0, hu => simp [cellsOf] at hu; subst hu; rw [World.cell?_alloc_new]; rfl
set_option maxHeartbeats 1000000 in
theorem PutInts_any (b : ByteArray) (v : Value) (l : List Int) (w : World) (hl : ListAt w v l.length (cellsOf (fun c : Int => Value.int .i64 c) l)) (hb : b.size ≤ 1073741824) (hn : l.length ≤ 1048576) (hwf : ∀ c ∈ l, -9223372036854775808 ≤ c ∧ c ≤ 9223372036854775807) :
    Calls Try.prog 18 #[.string b, v] w fun e w' => e = .returned (.string (withB b (numL l))) ∧ Below w.heap.size w w' := by
  have hu := Lib.uvarint_length64 (x := l.length) (by omega)
  have hl2 := hl
  obtain ⟨_, aa, cap, hv, _, _⟩ := hl2
  have HV := Lib.hid hl
  subst hv
  have HA := Lib.hid (listAt_new w 28 l.length)
  have hb0 : Below w.heap.size w (w.alloc (.cells #[.int .u64 (l.length : Nat)] 28)) := (Below.refl _ _).alloc (Nat.le_refl _) _
  clear hl
  go_enter Try.func18, Try.ntmps18
  go_wp2_with fail
  refine (Put_any b _ [l.length] _ HA.out (by omega) (by simp) (fun c hc => by simp at hc; omega)).mono ?_
  rintro e w1 ⟨rfl, h1⟩
  have h2 := bw hb0 h1
  clear h1 hb0
  go_wp2_with fail
  refine (put_int _ _ l _ (HV.out.below h2) (by rw [withB_size]; first | omega | (simp; omega)) hn hwf).mono ?_
  rintro e w2 ⟨rfl, h3⟩
  have h4 := bw h2 h3
  clear h2 h3
  go_wp2
  go_ret
  refine ⟨?_, h4⟩
  show Ending.returned (Value.string _) = _
  rw [withB_with]
  simp [numL, numsI]
end Go.Proofs.Ytkcmcgmonkeajaa
