/- The law: what is put is read again: the walk. -/
import Derived.Test.YtkcmcgmonkeajaaSame
import Derived.Test.YtkcmcgmonkeajaaMath
namespace Go.Proofs.Ytkcmcgmonkeajaa
open Go.RowKit

theorem drop_next {l x r : List UInt8} {a : Nat} (h : l.drop a = x ++ r) : l.drop (a + x.length) = r := by
  rw [← List.drop_drop, h, List.drop_left]
theorem Number_back (p : Nat) (S : ByteArray) (a n : Nat) (r : List UInt8) (w : World) (hs : S.size ≤ 1099511627776) (hn : n < 18446744073709551616) (hd : S.data.toList.drop a = Lib.uvarint n ++ r) (h : RdAt w p S a 0) :
    Calls Try.prog 21 #[.pointer (some ⟨p, 0, none⟩)] w fun e w' => e = .returned (.int .u64 n) ∧ RdAt w' p S (a + (Lib.uvarint n).length) 0 ∧ But p w w' := by
  have hc := Number_any p S a 0 w hs h
  obtain ⟨k1, k2, k3⟩ := uv_read n hn r
  rw [hd, k1, k2, k3] at hc
  exact hc
theorem Int_back (p : Nat) (S : ByteArray) (a : Nat) (x : Int) (r : List UInt8) (w : World) (hs : S.size ≤ 1099511627776) (h0 : -9223372036854775808 ≤ x) (h1 : x ≤ 9223372036854775807) (hd : S.data.toList.drop a = numI x ++ r) (h : RdAt w p S a 0) :
    Calls Try.prog 23 #[.pointer (some ⟨p, 0, none⟩)] w fun e w' => e = .returned (.int .i64 x) ∧ RdAt w' p S (a + (numI x).length) 0 ∧ But p w w' := by
  have hc := Int_any p S a 0 w hs h
  obtain ⟨k1, k2, k3⟩ := back_int x h0 h1 r
  rw [hd, k1, k2, k3] at hc
  exact hc
theorem Text_back (p : Nat) (S : ByteArray) (a : Nat) (s : ByteArray) (m : Int) (r : List UInt8) (w : World) (hs : S.size ≤ 1099511627776) (hss : s.size ≤ 1099511627776) (hm : m = s.size) (hd : S.data.toList.drop a = numT s ++ r) (h : RdAt w p S a 0) :
    Calls Try.prog 27 #[.pointer (some ⟨p, 0, none⟩), .int .i64 m] w fun e w' => e = .returned (.string s) ∧ RdAt w' p S (a + (numT s).length) 0 ∧ But p w w' := by
  subst hm
  have hc := Text_any p S a 0 s.size w hs (by omega) (by omega) h
  obtain ⟨k1, k2, k3⟩ := back_text s (by omega) s.size (by omega) r
  rw [hd, k1, k2, k3] at hc
  exact hc
theorem Ints_back (p : Nat) (S : ByteArray) (a : Nat) (l : List Int) (m : Int) (r : List UInt8) (w : World) (hs : S.size ≤ 1099511627776) (hl : l.length ≤ 1099511627776) (hx : ∀ c ∈ l, -9223372036854775808 ≤ c ∧ c ≤ 9223372036854775807) (hm : m = l.length) (hd : S.data.toList.drop a = numL l ++ r) (h : RdAt w p S a 0) :
    Calls Try.prog 30 #[.pointer (some ⟨p, 0, none⟩), .int .i64 m] w fun e w' => (∃ v, e = .returned v ∧ ListNew w.heap.size w' v l.length (cellsOf intC l)) ∧ RdAt w' p S (a + (numL l).length) 0 ∧ But p w w' := by
  subst hm
  have hc := Ints_any p S a 0 l.length w hs (by omega) (by omega) h
  obtain ⟨k1, k2, k3⟩ := back_ints l hx (by omega) l.length (by omega) r
  rw [hd, k1, k2, k3] at hc
  exact hc
theorem same_true (va vb : Value) (l : List Int) (w : World) (ha : ListAt w va l.length (cellsOf intC l)) (hb : ListAt w vb l.length (cellsOf intC l)) (hl : l.length ≤ 1099511627776) :
    Calls Try.prog 29 #[va, vb] w fun e w' => e = .returned (.bool true) ∧ Below w.heap.size w w' := by
  have h := same_any va vb l l w ha hb hl hl
  rw [decide_eq_true (rfl : l = l)] at h
  exact h
theorem app_list (a b : ByteArray) : (a ++ b).data.toList = a.data.toList ++ b.data.toList := by simp
theorem app_size (a b : ByteArray) : (a ++ b).size = a.size + b.size := by rw [Lib.size_eq, app_list, List.length_append, ← Lib.size_eq, ← Lib.size_eq]
theorem nil_list : (⟨#[]⟩ : ByteArray).data.toList = [] := rfl
theorem numL_len (l : List Int) (hx : ∀ c ∈ l, -9223372036854775808 ≤ c ∧ c ≤ 9223372036854775807) (hl : l.length ≤ 100) : (numL l).length ≤ 1010 := by
  have h1 := flat_le numI 10 l (fun x hx' => numI_len x (hx x hx').1 (hx x hx').2)
  have h2 := Lib.uvarint_length64 (x := l.length) (by omega)
  unfold numL numsI
  rw [List.length_append]; omega

set_option maxRecDepth 100000 in
set_option maxHeartbeats 8000000 in
theorem law_back (n : Nat) (k : Int) (s : ByteArray) (v : Value) (l : List Int) (rest : ByteArray) (w : World) (hn : n < 18446744073709551616) (hk : -9223372036854775808 ≤ k ∧ k ≤ 9223372036854775807) (hs : s.size ≤ 9223372036854775807)
    (hl : ListAt w v l.length (cellsOf intC l)) (hlm : l.length ≤ 9223372036854775807) (hlw : ∀ c ∈ l, -9223372036854775808 ≤ c ∧ c ≤ 9223372036854775807) (hr : rest.size ≤ 9223372036854775807) :
    Calls Try.prog 5 #[.int .u64 n, .int .i64 k, .string s, v, .string rest] w fun e w' => e = .returned (.bool true) ∧ Below w.heap.size w w' := by
  have HL := Lib.hid hl
  obtain ⟨_, aa, cap, rfl, _, _⟩ := hl
  by_cases h1 : 8192 < s.size
  · have hi1 : (8192 : Int) < (s.size : Int) := by omega
    go_enter Try.func5, Try.ntmps5
    go_wp2_with fail
    refine (works_any _).mono ?_
    rintro e w1 ⟨rfl, b1⟩
    go_wp2
    go_ret
    exact ⟨rfl, b1⟩
  have hi1 : ¬ (8192 : Int) < (s.size : Int) := by omega
  by_cases h2 : 100 < l.length
  · have hi2 : (100 : Int) < (l.length : Int) := by omega
    go_enter Try.func5, Try.ntmps5
    go_wp2_with fail
    refine (works_any _).mono ?_
    rintro e w1 ⟨rfl, b1⟩
    go_wp2
    go_ret
    exact ⟨rfl, b1⟩
  have hi2 : ¬ (100 : Int) < (l.length : Int) := by omega
  by_cases h3 : 8192 < rest.size
  · have hi3 : (8192 : Int) < (rest.size : Int) := by omega
    go_enter Try.func5, Try.ntmps5
    go_wp2_with fail
    refine (works_any _).mono ?_
    rintro e w1 ⟨rfl, b1⟩
    go_wp2
    go_ret
    exact ⟨rfl, b1⟩
  have hi3 : ¬ (8192 : Int) < (rest.size : Int) := by omega
  have L1 := Lib.uvarint_length64 hn
  have L2 := numI_len k hk.1 hk.2
  have L3 : (numT s).length ≤ 8202 := by
    have h := Lib.uvarint_length64 (x := s.size) (by omega)
    have hz := Lib.size_eq s
    unfold numT; rw [List.length_append]; omega
  have L4 := numL_len l hlw (by omega)
  obtain ⟨B1, hB1⟩ : ∃ B, B = withB ⟨#[]⟩ (Lib.uvarint n) := ⟨_, rfl⟩
  obtain ⟨B2, hB2⟩ : ∃ B, B = withB ⟨#[]⟩ (Lib.uvarint n ++ numI k) := ⟨_, rfl⟩
  obtain ⟨B3, hB3⟩ : ∃ B, B = withB ⟨#[]⟩ (Lib.uvarint n ++ numI k ++ numT s) := ⟨_, rfl⟩
  obtain ⟨B, hB⟩ : ∃ B, B = withB ⟨#[]⟩ (Lib.uvarint n ++ numI k ++ numT s ++ numL l) := ⟨_, rfl⟩
  have E1 : Hid (withB ⟨#[]⟩ ([n].flatMap Lib.uvarint) = B1) := by show _ = _; rw [hB1]; simp
  have E2 : Hid (withB B1 ([k].flatMap numI) = B2) := by show _ = _; rw [hB1, hB2, withB_with]; simp
  have E3 : Hid (withB B2 ([s].flatMap numT) = B3) := by show _ = _; rw [hB2, hB3, withB_with]; simp
  have E4 : Hid (withB B3 (numL l) = B) := by show _ = _; rw [hB3, hB, withB_with]
  have Z1 : B1.size ≤ 10 := by rw [hB1, withB_size]; show 0 + _ ≤ _; omega
  have Z2 : B2.size ≤ 20 := by rw [hB2, withB_size, List.length_append]; show 0 + _ ≤ _; omega
  have Z3 : B3.size ≤ 8300 := by rw [hB3, withB_size, List.length_append, List.length_append]; show 0 + _ ≤ _; omega
  have hBl : B.data.toList = Lib.uvarint n ++ numI k ++ numT s ++ numL l := by rw [hB, withB_list]; rfl
  have hBs : B.size = (Lib.uvarint n).length + (numI k).length + (numT s).length + (numL l).length := by rw [Lib.size_eq, hBl, List.length_append, List.length_append, List.length_append]
  have D1 : Hid ((B ++ rest).data.toList.drop 0 = Lib.uvarint n ++ (numI k ++ (numT s ++ (numL l ++ rest.data.toList)))) := by show _ = _; rw [List.drop_zero, app_list, hBl]; simp only [List.append_assoc]
  have D2 := Lib.hid (drop_next D1.out)
  have D3 := Lib.hid (drop_next D2.out)
  have D4 := Lib.hid (drop_next D3.out)
  have hSs : (B ++ rest).size = B.size + rest.size := app_size _ _
  have hS1 : (B ++ rest).size ≤ 1099511627776 := by omega
  have HBS : Hid (0 + (Lib.uvarint n).length + (numI k).length + (numT s).length + (numL l).length = B.size) := by show _ = _; omega
  have hcat : B.size + rest.size ≤ 9223372036854775807 := by omega
  obtain ⟨S, hS⟩ : ∃ S, S = B ++ rest := ⟨_, rfl⟩
  rw [← hS] at D1 D2 D3 D4 hS1 hSs
  have HS := Lib.hid hS
  have HSS := Lib.hid hSs
  clear hB hBl hBs hSs hS hB1 hB2 hB3
  go_enter Try.func5, Try.ntmps5
  go_wp2_with fail
  refine (works_any _).mono ?_
  rintro e w1 ⟨rfl, b1⟩
  have HL1 := Lib.hid (HL.out.below b1)
  have hk1 : Below w1.heap.size w1 (w1.alloc (.cells (cellsOf u64C [n]).toArray 28)) := (Below.refl _ _).alloc (Nat.le_refl _) _
  go_wp2_with fail
  refine (Put_any ⟨#[]⟩ _ [n] _ (listAt_news u64C [n] w1 28 1 rfl) (by decide) (by simp) (fun c hc => by simp at hc; subst hc; exact hn)).mono ?_
  rw [E1.out]
  rintro e w2 ⟨rfl, k2⟩
  have k2' := hk1.trans (k2.mono (by simp))
  have HL2 := Lib.hid (HL1.out.below k2')
  have b2 := bw b1 k2'
  clear b1 hk1 k2 k2' HL1
  have hk1 : Below w2.heap.size w2 (w2.alloc (.cells (cellsOf intC [k]).toArray 2)) := (Below.refl _ _).alloc (Nat.le_refl _) _
  go_wp2_with fail
  refine (PutInt_any _ _ [k] _ (listAt_news intC [k] w2 2 1 rfl) (by omega) (by simp) (fun c hc => by simp at hc; subst hc; exact hk)).mono ?_
  rw [E2.out]
  rintro e w3 ⟨rfl, k3⟩
  have k3' := hk1.trans (k3.mono (by simp))
  have HL3 := Lib.hid (HL2.out.below k3')
  have b3 := bw b2 k3'
  clear b2 hk1 k3 k3' HL2
  have hk1 : Below w3.heap.size w3 (w3.alloc (.cells (cellsOf strC [s]).toArray 9)) := (Below.refl _ _).alloc (Nat.le_refl _) _
  go_wp2_with fail
  refine (PutText_any _ _ [s] _ (listAt_news strC [s] w3 9 1 rfl) (by omega) (by simp) (fun c hc => by simp at hc; subst hc; omega)).mono ?_
  rw [E3.out]
  rintro e w4 ⟨rfl, k4⟩
  have k4' := hk1.trans (k4.mono (by simp))
  have HL4 := Lib.hid (HL3.out.below k4')
  have b4 := bw b3 k4'
  clear b3 hk1 k4 k4' HL3
  go_wp2_with fail
  refine (PutInts_any _ _ l _ HL4.out (by omega) (by omega) hlw).mono ?_
  rw [E4.out]
  rintro e w5 ⟨rfl, k5⟩
  have HL5 := Lib.hid (HL4.out.below k5)
  have b5 := bw b4 k5
  clear b4 k5 HL4
  go_wp2_with fail
  rw [← HS.out]
  refine (Read_any S _).mono ?_
  rintro e w6 ⟨rfl, r6, k6⟩
  have R6 := Lib.hid r6
  clear r6
  go_wp2_with fail
  refine (Number_back _ S 0 n _ _ hS1 hn D1.out R6.out).mono ?_
  rintro e w7 ⟨rfl, r7, k7⟩
  have R7 := Lib.hid r7
  have c7 := k6.trans (k7.below (Nat.le_refl _) k6.size)
  clear r7 k7 k6 R6
  go_wp2_with fail
  refine (Int_back _ S _ k _ _ hS1 hk.1 hk.2 D2.out R7.out).mono ?_
  rintro e w8 ⟨rfl, r8, k8⟩
  have R8 := Lib.hid r8
  have c8 := c7.trans (k8.below (Nat.le_refl _) c7.size)
  clear r8 k8 c7 R7
  go_wp2_with fail
  refine (Text_back _ S _ s _ _ _ hS1 (by omega) rfl D3.out R8.out).mono ?_
  rintro e w9 ⟨rfl, r9, k9⟩
  have R9 := Lib.hid r9
  have c9 := c8.trans (k9.below (Nat.le_refl _) c8.size)
  clear r9 k9 c8 R8
  go_wp2_with fail
  refine (Ints_back _ S _ l _ _ _ hS1 (by omega) hlw rfl D4.out R9.out).mono ?_
  rintro e w10 ⟨⟨v10, rfl, hv⟩, r10, k10⟩
  have R10 : Hid (RdAt w10 w5.heap.size S B.size 0) := by rw [← HBS.out]; exact r10
  have c10 := c9.trans (k10.below (Nat.le_refl _) c9.size)
  have HV := Lib.hid hv.at_
  obtain ⟨hl1, a1, c1, rfl, hl3⟩ := hv
  have HL10 := Lib.hid (HL5.out.below c10)
  have b10 := bw b5 c10
  clear r10 k10 c9 R9 hl1 hl3 b5 c10
  go_wp2_with fail
  refine (same_true _ _ l _ HV.out HL10.out (by omega)).mono ?_
  rintro e w11 ⟨rfl, k11⟩
  have R11 := Lib.hid (R10.out.below k11)
  have b11 := bw b10 k11
  clear k11 b10 R10
  go_wp2_with fail
  refine (At_any _ _ _ _ _ R11.out).mono ?_
  rintro e w12 ⟨rfl, rfl⟩
  go_wp2_with fail
  refine (Err_any _ _ _ _ _ R11.out).mono ?_
  rintro e w12 ⟨rfl, rfl⟩
  by_cases hre : rest.size = 0
  · have hre2 : rest = ⟨#[]⟩ := by
      apply ByteArray.ext
      exact Array.eq_empty_of_size_eq_zero hre
    have HEE : Hid (endE S B.size 0 = 0) := by
      show _ = _
      unfold endE
      rw [if_pos rfl, if_neg (by have := HSS.out; omega)]
    subst hre2
    go_wp2_with fail
    refine (End_any _ _ _ _ _ R11.out).mono ?_
    rw [HEE.out]
    rintro e w13 ⟨rfl, q, rfl⟩
    have b12 := below_drewN b11 q
    go_wp2
    go_ret
    exact ⟨ret_bool (by simp), b12⟩
  · have HEE : Hid (endE S B.size 0 = 23) := by
      show _ = _
      unfold endE
      rw [if_pos rfl, if_pos (by have := HSS.out; omega)]
    have hre2 : rest.toList.isEmpty = false := by
      rw [Go.ByteArray.toList_eq]
      cases hc : rest.data.toList with
      | nil => exact absurd (by rw [Lib.size_eq, hc]; rfl) hre
      | cons _ _ => rfl
    go_wp2_with fail
    refine (End_any _ _ _ _ _ R11.out).mono ?_
    rw [HEE.out]
    rintro e w13 ⟨rfl, q, rfl⟩
    have b12 := below_drewN b11 q
    go_wp2
    go_ret
    exact ⟨ret_bool (by first | rfl | (rw [hre2]; rfl) | simp), b12⟩
end Go.Proofs.Ytkcmcgmonkeajaa
