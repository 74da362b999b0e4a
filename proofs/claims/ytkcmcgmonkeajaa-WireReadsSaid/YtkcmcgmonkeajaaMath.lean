/- What holds of what is read and put: the plain part. -/
import Derived.Test.YtkcmcgmonkeajaaMeth
namespace Go.Proofs.Ytkcmcgmonkeajaa
open Go.RowKit

theorem take_eq (b : ByteArray) (x : List UInt8) (k : Nat) (h : x = b.data.toList.take k) : withB ⟨#[]⟩ x = b.extract 0 k := by
  apply ByteArray.ext
  apply Array.toList_inj.1
  rw [Lib.extract_data, List.drop_zero, Nat.sub_zero, ← h]
  simp [withB]
theorem one_num (l : List UInt8) (h : dE l = 0) : [dV l].flatMap Lib.uvarint = l.take (dK l) := by
  simp only [List.flatMap_cons, List.flatMap_nil, List.append_nil]
  exact (uv_again l h).1
theorem numI_unz (n : Nat) : numI (Lib.unzigzag n) = Lib.uvarint n := by unfold numI; rw [unzigzag_inj]
theorem one_int (l : List UInt8) (h : dE l = 0) : [Lib.unzigzag (dV l)].flatMap numI = l.take (dK l) := by
  simp only [List.flatMap_cons, List.flatMap_nil, List.append_nil]
  rw [numI_unz]
  exact (uv_again l h).1
theorem tE_zero {l : List UInt8} {m : Int} (h : tE l m = 0) : uE l m = 0 ∧ uK l m + uV l m ≤ l.length ∧ tV l m = ⟨((l.drop (uK l m)).take (uV l m)).toArray⟩ ∧ tK l m = uK l m + uV l m := by
  by_cases h1 : uE l m = 0
  · by_cases h2 : l.length < uK l m + uV l m
    · have := (tE_short h1 h2).1; omega
    · have := tE_ok h1 h2; exact ⟨h1, by omega, this.2.1, this.2.2⟩
  · have := (tE_bad (m := m) h1).1; omega
theorem mk_size (l : List UInt8) : (⟨l.toArray⟩ : ByteArray).size = l.length := by rw [Lib.size_eq]
theorem tV_size {l : List UInt8} {m : Int} (h : tE l m = 0) : (tV l m).size = uV l m := by
  obtain ⟨h1, h2, h3, h4⟩ := tE_zero h
  rw [h3, mk_size, List.length_take, List.length_drop]; omega
theorem one_text (l : List UInt8) (m : Int) (h : tE l m = 0) : [tV l m].flatMap numT = l.take (tK l m) := by
  obtain ⟨h1, h2, h3, h4⟩ := tE_zero h
  obtain ⟨k1, k2, k3, _⟩ := uE_zero h1
  simp only [List.flatMap_cons, List.flatMap_nil, List.append_nil]
  unfold numT
  rw [tV_size h, h4, h3, List.toList_toArray, k2, (uv_again l k1).1, ← k3, List.take_add]
theorem isR_again : ∀ (n : Nat) (l : List UInt8), (isR n l).1 = 0 → numsI (isR n l).2.1 = l.take (isR n l).2.2 ∧ (isR n l).2.1.length = n
  | 0, l, _ => by simp [isR, numsI]
  | n + 1, l, h => by
    by_cases hE : dE l = 0
    · have h2 : (isR n (l.drop (dK l))).1 = 0 := by rw [← isR_err hE]; exact h
      obtain ⟨i1, i2⟩ := isR_again n _ h2
      rw [isR_ok hE h2]
      refine ⟨?_, by simp [i2]⟩
      show numI _ ++ numsI _ = _
      rw [i1, numI_unz, (uv_again l hE).1, List.take_add]
    · rw [isR_bad hE] at h; exact absurd h hE
theorem lE_zero {l : List UInt8} {m : Int} (h : lE l m = 0) : uE l m = 0 ∧ (isR (uV l m) (l.drop (uK l m))).1 = 0 ∧ lV l m = (isR (uV l m) (l.drop (uK l m))).2.1 ∧ lK l m = uK l m + (isR (uV l m) (l.drop (uK l m))).2.2 := by
  by_cases h1 : uE l m = 0
  · by_cases h2 : (isR (uV l m) (l.drop (uK l m))).1 = 0
    · have := lE_ok h1 h2; exact ⟨h1, h2, this.2.1, this.2.2⟩
    · have := (lE_wrong h1 h2).1; omega
  · have := (lE_bad (m := m) h1).1; omega
theorem one_ints (l : List UInt8) (m : Int) (h : lE l m = 0) : numL (lV l m) = l.take (lK l m) := by
  obtain ⟨h1, h2, h3, h4⟩ := lE_zero h
  obtain ⟨k1, k2, k3, _⟩ := uE_zero h1
  obtain ⟨i1, i2⟩ := isR_again _ _ h2
  unfold numL
  rw [h3, h4, i1, i2, k2, (uv_again l k1).1, ← k3, ← k2, List.take_add]
theorem isR_bd : ∀ (n : Nat) (l : List UInt8), ∀ c ∈ (isR n l).2.1, -9223372036854775808 ≤ c ∧ c ≤ 9223372036854775807
  | 0, l => by simp [isR]
  | n + 1, l => by
    by_cases hE : dE l = 0
    · by_cases h2 : (isR n (l.drop (dK l))).1 = 0
      · rw [isR_ok hE h2]
        intro c hc
        rcases List.mem_cons.1 hc with rfl | hc
        · exact unz_bd _ (dV_lt l)
        · exact isR_bd n _ c hc
      · simp only [isR]; rw [if_neg (fun hh => hh hE), if_pos h2]; simp
    · rw [isR_bad hE]; simp
theorem lV_bd (l : List UInt8) (m : Int) : ∀ c ∈ lV l m, -9223372036854775808 ≤ c ∧ c ≤ 9223372036854775807 := by
  unfold lV
  split
  · exact isR_bd _ _
  · simp
theorem isR_cnt : ∀ (n : Nat) (l : List UInt8), (isR n l).2.1.length ≤ l.length
  | 0, l => by simp [isR]
  | n + 1, l => by
    by_cases hE : dE l = 0
    · by_cases h2 : (isR n (l.drop (dK l))).1 = 0
      · rw [isR_ok hE h2]
        have := isR_cnt n (l.drop (dK l))
        have := (uv_again l hE).2
        rw [List.length_drop] at *
        simp only [List.length_cons]; omega
      · simp only [isR]; rw [if_neg (fun hh => hh hE), if_pos h2]; simp
    · rw [isR_bad hE]; simp
theorem lV_len (l : List UInt8) (m : Int) : (lV l m).length ≤ l.length := by
  unfold lV
  split
  · have := isR_cnt (uV l m) (l.drop (uK l m)); rw [List.length_drop] at this; omega
  · simp

/-- what is put is read again -/
theorem back_u (n : Nat) (hn : n < 18446744073709551616) (m : Int) (hm : (n : Int) ≤ m) (r : List UInt8) : uE (Lib.uvarint n ++ r) m = 0 ∧ uV (Lib.uvarint n ++ r) m = n ∧ uK (Lib.uvarint n ++ r) m = (Lib.uvarint n).length := by
  obtain ⟨h1, h2, h3⟩ := uv_read n hn r
  have := uE_ok h1 (m := m) (by rw [h2]; omega)
  rw [h2, h3] at this; exact this
theorem back_int (x : Int) (h0 : -9223372036854775808 ≤ x) (h1 : x ≤ 9223372036854775807) (r : List UInt8) : dE (numI x ++ r) = 0 ∧ Lib.unzigzag (dV (numI x ++ r)) = x ∧ dK (numI x ++ r) = (numI x).length := by
  obtain ⟨k1, k2, k3⟩ := uv_read (Lib.zigzag x) (zigzag_lt x h0 h1) r
  unfold numI
  exact ⟨k1, by rw [k2, zigzag_inj], k3⟩
theorem back_text (s : ByteArray) (hs : s.size < 18446744073709551616) (m : Int) (hm : (s.size : Int) ≤ m) (r : List UInt8) : tE (numT s ++ r) m = 0 ∧ tV (numT s ++ r) m = s ∧ tK (numT s ++ r) m = (numT s).length := by
  have e : numT s ++ r = Lib.uvarint s.size ++ (s.data.toList ++ r) := by unfold numT; rw [List.append_assoc]
  obtain ⟨k1, k2, k3⟩ := back_u s.size hs m hm (s.data.toList ++ r)
  have hl : s.data.toList.length = s.size := (Lib.size_eq s).symm
  rw [e]
  obtain ⟨t1, t2, t3⟩ := tE_ok k1 (by rw [k2, k3, List.length_append, List.length_append]; omega)
  refine ⟨t1, ?_, ?_⟩
  · rw [t2, k2, k3, List.drop_left, ← hl, List.take_left]
  · rw [t3, k2, k3]; unfold numT; rw [List.length_append, hl]
theorem back_isR : ∀ (xs : List Int) (r : List UInt8), (∀ c ∈ xs, -9223372036854775808 ≤ c ∧ c ≤ 9223372036854775807) → isR xs.length (numsI xs ++ r) = (0, xs, (numsI xs).length)
  | [], r, _ => by simp [isR, numsI]
  | x :: xs, r, h => by
    obtain ⟨k1, k2, k3⟩ := back_int x (h x (by simp)).1 (h x (by simp)).2 (numsI xs ++ r)
    have e : numsI (x :: xs) ++ r = numI x ++ (numsI xs ++ r) := by simp [numsI]
    have ih := back_isR xs r (fun c hc => h c (by simp [hc]))
    have hd : (numI x ++ (numsI xs ++ r)).drop (dK (numI x ++ (numsI xs ++ r))) = numsI xs ++ r := by rw [k3, List.drop_left]
    rw [e, List.length_cons, isR_ok k1 (by rw [hd, ih]), hd, ih, k2, k3]
    simp [numsI]
theorem back_ints (xs : List Int) (hx : ∀ c ∈ xs, -9223372036854775808 ≤ c ∧ c ≤ 9223372036854775807) (hn : xs.length < 18446744073709551616) (m : Int) (hm : (xs.length : Int) ≤ m) (r : List UInt8) : lE (numL xs ++ r) m = 0 ∧ lV (numL xs ++ r) m = xs ∧ lK (numL xs ++ r) m = (numL xs).length := by
  have e : numL xs ++ r = Lib.uvarint xs.length ++ (numsI xs ++ r) := by unfold numL; rw [List.append_assoc]
  obtain ⟨k1, k2, k3⟩ := back_u xs.length hn m hm (numsI xs ++ r)
  have hb := back_isR xs r hx
  have hd : isR (uV (Lib.uvarint xs.length ++ (numsI xs ++ r)) m) ((Lib.uvarint xs.length ++ (numsI xs ++ r)).drop (uK (Lib.uvarint xs.length ++ (numsI xs ++ r)) m)) = (0, xs, (numsI xs).length) := by
    rw [k2, k3, List.drop_left, hb]
  rw [e]
  obtain ⟨t1, t2, t3⟩ := lE_ok k1 (by rw [hd])
  rw [hd] at t2 t3
  refine ⟨t1, t2, ?_⟩
  rw [t3, k3]; unfold numL; rw [List.length_append]

/-- what is cut off is told -/
theorem cut_num (x : Nat) (hx : x < 18446744073709551616) (c : Nat) (hc : c < (Lib.uvarint x).length) : dE ((Lib.uvarint x).take c) = 20 := by
  have hl := Lib.uvarint_length64 hx
  have hk := uv_lead x x [] 10 (Nat.le_refl _) hl
  rw [List.append_nil] at hk
  refine d_short _ (by rw [List.length_take]; omega) (fun i hi => ?_)
  rw [List.length_take] at hi
  have hb := lead_big (Lib.uvarint x) 10 i (by omega)
  have e : ((Lib.uvarint x).take c).getD i 0 = (Lib.uvarint x).getD i 0 := by simp [List.getD, show i < c by omega]
  rw [e]; exact hb
theorem take_app {α : Type} (a b : List α) (c : Nat) (h : a.length ≤ c) : (a ++ b).take c = a ++ b.take (c - a.length) := by
  rw [List.take_append, List.take_of_length_le h]
theorem take_app2 {α : Type} (a b : List α) (c : Nat) (h : c ≤ a.length) : (a ++ b).take c = a.take c := by
  rw [List.take_append, show c - a.length = 0 by omega, List.take_zero, List.append_nil]
theorem cut_u (x : Nat) (hx : x < 18446744073709551616) (m : Int) (c : Nat) (hc : c < (Lib.uvarint x).length) : uE ((Lib.uvarint x).take c) m = 20 := by
  have h := cut_num x hx c hc
  have := (uE_bad (m := m) (l := (Lib.uvarint x).take c) (by rw [h]; decide)).1
  rw [this, h]
theorem cut_text (s : ByteArray) (hs : s.size < 18446744073709551616) (m : Int) (hm : (s.size : Int) ≤ m) (c : Nat) (hc : c < (numT s).length) : tE ((numT s).take c) m = 20 := by
  have hl : s.data.toList.length = s.size := (Lib.size_eq s).symm
  by_cases h : c < (Lib.uvarint s.size).length
  · have e : (numT s).take c = (Lib.uvarint s.size).take c := by unfold numT; exact take_app2 _ _ _ (by omega)
    have h2 := cut_u s.size hs m c h
    rw [e]
    have := (tE_bad (m := m) (l := (Lib.uvarint s.size).take c) (by rw [h2]; decide)).1
    rw [this, h2]
  · have e : (numT s).take c = Lib.uvarint s.size ++ s.data.toList.take (c - (Lib.uvarint s.size).length) := by unfold numT; exact take_app _ _ _ (by omega)
    obtain ⟨k1, k2, k3⟩ := back_u s.size hs m hm (s.data.toList.take (c - (Lib.uvarint s.size).length))
    have hc2 : c < (Lib.uvarint s.size).length + s.size := by unfold numT at hc; rw [List.length_append, hl] at hc; exact hc
    rw [e]
    refine (tE_short k1 ?_).1
    rw [k2, k3, List.length_append, List.length_take, hl]; omega
theorem cut_isR : ∀ (xs : List Int) (c : Nat), (∀ x ∈ xs, -9223372036854775808 ≤ x ∧ x ≤ 9223372036854775807) → c < (numsI xs).length → (isR xs.length ((numsI xs).take c)).1 = 20
  | [], c, _, hc => by simp [numsI] at hc
  | x :: xs, c, h, hc => by
    have e : numsI (x :: xs) = numI x ++ numsI xs := by simp [numsI]
    have hx := h x (by simp)
    rw [e] at hc ⊢
    by_cases h1 : c < (numI x).length
    · have h2 : dE ((numI x).take c) = 20 := cut_num _ (zigzag_lt x hx.1 hx.2) c h1
      rw [take_app2 _ _ _ (by omega), List.length_cons, isR_bad (by rw [h2]; decide), h2]
    · rw [take_app _ _ _ (by omega)]
      obtain ⟨k1, k2, k3⟩ := back_int x hx.1 hx.2 ((numsI xs).take (c - (numI x).length))
      rw [List.length_cons, isR_err k1, k3, List.drop_left]
      rw [List.length_append] at hc
      exact cut_isR xs _ (fun y hy => h y (by simp [hy])) (by omega)
theorem cut_ints (xs : List Int) (hx : ∀ c ∈ xs, -9223372036854775808 ≤ c ∧ c ≤ 9223372036854775807) (hn : xs.length < 18446744073709551616) (m : Int) (hm : (xs.length : Int) ≤ m) (c : Nat) (hc : c < (numL xs).length) : lE ((numL xs).take c) m = 20 := by
  by_cases h : c < (Lib.uvarint xs.length).length
  · have e : (numL xs).take c = (Lib.uvarint xs.length).take c := by unfold numL; exact take_app2 _ _ _ (by omega)
    have h2 := cut_u xs.length hn m c h
    rw [e]
    have := (lE_bad (m := m) (l := (Lib.uvarint xs.length).take c) (by rw [h2]; decide)).1
    rw [this, h2]
  · have e : (numL xs).take c = Lib.uvarint xs.length ++ (numsI xs).take (c - (Lib.uvarint xs.length).length) := by unfold numL; exact take_app _ _ _ (by omega)
    obtain ⟨k1, k2, k3⟩ := back_u xs.length hn m hm ((numsI xs).take (c - (Lib.uvarint xs.length).length))
    have hc2 : c < (Lib.uvarint xs.length).length + (numsI xs).length := by unfold numL at hc; rw [List.length_append] at hc; exact hc
    rw [e]
    have h3 : (isR (uV (Lib.uvarint xs.length ++ (numsI xs).take (c - (Lib.uvarint xs.length).length)) m) ((Lib.uvarint xs.length ++ (numsI xs).take (c - (Lib.uvarint xs.length).length)).drop (uK (Lib.uvarint xs.length ++ (numsI xs).take (c - (Lib.uvarint xs.length).length)) m))).1 = 20 := by
      rw [k2, k3, List.drop_left]
      exact cut_isR xs _ hx (by omega)
    have := (lE_wrong k1 (by rw [h3]; decide)).1
    rw [this, h3]
end Go.Proofs.Ytkcmcgmonkeajaa
