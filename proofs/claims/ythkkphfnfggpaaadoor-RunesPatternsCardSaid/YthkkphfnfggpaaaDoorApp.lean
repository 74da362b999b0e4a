/- Texts put together, and cut. Plain. -/
import Derived.Test.YthkkphfnfggpaaaDoorName
namespace Go.Proofs.YthkkphfnfggpaaaDoor
open Go.RowKit

/-- the shape of a piece of more than one byte -/
def shape (n : Nat) (base hi least : Int) : Prop := (n = 2 ∧ base = 192 ∧ hi = 224 ∧ least = 128) ∨ (n = 3 ∧ base = 224 ∧ hi = 240 ∧ least = 2048) ∨ (n = 4 ∧ base = 240 ∧ hi = 248 ∧ least = 65536)
theorem dec_whole {s : ByteArray} {p n : Nat} {base hi least : Int} (h : shape n base hi least) (h1 : base ≤ byt s p) (h2 : byt s p < hi) (hw : wholeP s p n (byt s p - base) least) :
    Utf8.decode s p = ((accF s p (byt s p - base) (n - 1)).toNat, n) ∧ okAt s p = true := by
  rcases h with ⟨rfl, rfl, rfl, rfl⟩ | ⟨rfl, rfl, rfl, rfl⟩ | ⟨rfl, rfl, rfl, rfl⟩
  · have := (dec_2 s p h1 h2).1 hw; exact ⟨this, by unfold okAt; rw [this]; simp⟩
  · have := (dec_3 s p h1 h2).1 hw; exact ⟨this, by unfold okAt; rw [this]; simp⟩
  · have := (dec_4 s p h1 h2).1 hw; exact ⟨this, by unfold okAt; rw [this]; simp⟩
theorem dec_cases (s : ByteArray) (p : Nat) : (byt s p < 128 ∧ Utf8.decode s p = ((byt s p).toNat, 1) ∧ okAt s p = true) ∨ (128 ≤ byt s p ∧ Utf8.decode s p = (65533, 1) ∧ okAt s p = false) ∨
    (∃ n base hi least, shape n base hi least ∧ base ≤ byt s p ∧ byt s p < hi ∧ wholeP s p n (byt s p - base) least) := by
  by_cases c1 : byt s p < 128
  · exact .inl ⟨c1, dec_low s p c1, by unfold okAt; simp [c1]⟩
  have bad : Utf8.decode s p = (65533, 1) → okAt s p = false := by intro h; unfold okAt; rw [h]; simp; omega
  by_cases c2 : byt s p < 192 ∨ 248 ≤ byt s p
  · have := dec_none s p (by omega) c2; exact .inr (.inl ⟨by omega, this, bad this⟩)
  by_cases c3 : byt s p < 224
  · by_cases hw : wholeP s p 2 (byt s p - 192) 128
    · exact .inr (.inr ⟨2, 192, 224, 128, .inl ⟨rfl, rfl, rfl, rfl⟩, by omega, c3, hw⟩)
    · have := (dec_2 s p (by omega) c3).2 hw; exact .inr (.inl ⟨by omega, this, bad this⟩)
  by_cases c4 : byt s p < 240
  · by_cases hw : wholeP s p 3 (byt s p - 224) 2048
    · exact .inr (.inr ⟨3, 224, 240, 2048, .inr (.inl ⟨rfl, rfl, rfl, rfl⟩), by omega, c4, hw⟩)
    · have := (dec_3 s p (by omega) c4).2 hw; exact .inr (.inl ⟨by omega, this, bad this⟩)
  · by_cases hw : wholeP s p 4 (byt s p - 240) 65536
    · exact .inr (.inr ⟨4, 240, 248, 65536, .inr (.inr ⟨rfl, rfl, rfl, rfl⟩), by omega, by omega, hw⟩)
    · have := (dec_4 s p (by omega) (by omega)).2 hw; exact .inr (.inl ⟨by omega, this, bad this⟩)
theorem shape_n {n : Nat} {base hi least : Int} (h : shape n base hi least) : 2 ≤ n ∧ n ≤ 4 := by
  rcases h with ⟨rfl, _⟩ | ⟨rfl, _⟩ | ⟨rfl, _⟩ <;> omega

theorem accF_congr {s t : ByteArray} {p : Nat} {v : Int} : ∀ k, (∀ j, 1 ≤ j → j ≤ k → byt t (p + j) = byt s (p + j)) → accF t p v k = accF s p v k
  | 0, _ => rfl
  | k + 1, h => by
    simp only [accF]
    rw [accF_congr k (fun j a b => h j a (by omega)), h (k + 1) (by omega) (Nat.le_refl _)]
theorem whole_congr {s t : ByteArray} {p n : Nat} {v least : Int} (h : wholeP s p n v least) (hn : 1 ≤ n) (ht : p + n ≤ t.size) (hb : ∀ j, 1 ≤ j → j < n → byt t (p + j) = byt s (p + j)) : wholeP t p n v least := by
  refine ⟨ht, fun j a b => ?_, ?_⟩
  · have := h.2.1 j a b; unfold contB at *; rw [hb j a b]; exact this
  · rw [accF_congr (n - 1) (fun j a b => hb j a (by omega))]; exact h.2.2
/-- what is a code point's stays so where more stands behind -/
theorem dec_grow {s t : ByteArray} (hle : t.size ≤ s.size) (hb : ∀ i, i < t.size → byt s i = byt t i) {p : Nat} (hp : p < t.size) (ho : okAt t p = true) : Utf8.decode s p = Utf8.decode t p ∧ okAt s p = true := by
  rcases dec_cases t p with ⟨h1, h2, _⟩ | ⟨_, _, h3⟩ | ⟨n, base, hi, least, hsh, h1, h2, hw⟩
  · have e := hb p hp
    rw [h2, dec_low s p (by omega), e]
    exact ⟨rfl, by unfold okAt; rw [e]; simp [h1]⟩
  · rw [ho] at h3; cases h3
  · have hn := shape_n hsh
    have e := hb p hp
    have hsz := hw.1
    have hbb : ∀ j, 1 ≤ j → j < n → byt s (p + j) = byt t (p + j) := fun j a b => hb (p + j) (by omega)
    have hw2 := whole_congr (t := s) hw (by omega) (by omega) hbb
    rw [← e] at hw2 hw h1 h2
    have d1 := dec_whole hsh h1 h2 hw2
    rw [e] at h1 h2 hw
    have d2 := dec_whole hsh h1 h2 hw
    rw [d1.1, d2.1, e, accF_congr (n - 1) (fun j a b => hbb j a (by omega))]
    exact ⟨rfl, d1.2⟩
/-- a piece that lies in what is left by a cut is the same there -/
theorem dec_shrink {s t : ByteArray} (hle : t.size ≤ s.size) (hb : ∀ i, i < t.size → byt s i = byt t i) {p : Nat} (hp : p < t.size) (hw : p + (Utf8.decode s p).2 ≤ t.size) : Utf8.decode t p = Utf8.decode s p ∧ okAt t p = okAt s p := by
  cases ho : okAt t p
  · rcases dec_cases s p with ⟨h1, h2, _⟩ | ⟨_, h2, h3⟩ | ⟨n, base, hi, least, hsh, h1, h2, hwh⟩
    · have e := hb p hp
      unfold okAt at ho; rw [← e] at ho; simp [h1] at ho
    · rcases dec_cases t p with ⟨_, _, k⟩ | ⟨_, k, _⟩ | ⟨n, base, hi, least, hsh, k1, k2, kw⟩
      · rw [ho] at k; cases k
      · rw [h2, k, h3]; exact ⟨rfl, rfl⟩
      · rw [(dec_whole hsh k1 k2 kw).2] at ho; cases ho
    · have hn := shape_n hsh
      have d := dec_whole hsh h1 h2 hwh
      rw [d.1] at hw
      simp only at hw
      have e := hb p hp
      have kw := whole_congr (t := t) hwh (by omega) hw (fun j a b => (hb (p + j) (by omega)).symm)
      rw [e] at kw h1 h2
      rw [(dec_whole hsh h1 h2 kw).2] at ho; cases ho
  · have := dec_grow hle hb hp ho
    exact ⟨this.1.symm, this.2.symm⟩

theorem byt_list (s : ByteArray) (i : Nat) : byt s i = ((s.data.toList.getD i 0).toNat : Nat) := by unfold byt; rw [Lib.getD_get!']
theorem app_list (a c : ByteArray) : (a ++ c).data.toList = a.data.toList ++ c.data.toList := by
  rw [ByteArray.data_append]; simp
theorem app_size (a c : ByteArray) : (a ++ c).size = a.size + c.size := by
  rw [Lib.size_eq, Lib.size_eq, Lib.size_eq, app_list, List.length_append]
theorem app_byt_left (a c : ByteArray) (i : Nat) (h : i < a.size) : byt (a ++ c) i = byt a i := by
  rw [byt_list, byt_list, app_list]
  rw [Lib.size_eq] at h
  simp [List.getD, List.getElem?_append_left h]
theorem app_tail (a c : ByteArray) : (a ++ c).extract a.size (a ++ c).size = c := by
  apply ByteArray.ext
  apply Array.toList_inj.1
  rw [Lib.extract_data, app_list, app_size]
  rw [Lib.size_eq, List.drop_left, Nat.add_sub_cancel_left, Lib.size_eq]
  exact List.take_length
theorem app_dec_right (a c : ByteArray) (q : Nat) : Utf8.decode (a ++ c) (a.size + q) = Utf8.decode c q := by
  rw [← Lib.tail_decode, app_tail]
theorem pts_tail (a c : ByteArray) : ∀ k q, c.size - q ≤ k → ptsAt (a ++ c) (a.size + q) = ptsAt c q := by
  intro k
  induction k with
  | zero => intro q h; rw [ptsAt_end _ _ (by rw [app_size]; omega), ptsAt_end _ _ (by omega)]
  | succ k ih =>
    intro q h
    by_cases hq : q < c.size
    · have hw := Lib.decode_width_pos c q hq
      rw [ptsAt_step _ _ (by rw [app_size]; omega), ptsAt_step _ _ hq, app_dec_right, Nat.add_assoc, ih _ (by omega)]
    · rw [ptsAt_end _ _ (by rw [app_size]; omega), ptsAt_end _ _ (by omega)]
theorem pts_append_at (a c : ByteArray) : ∀ k p, a.size - p ≤ k → p ≤ a.size → valAt a p = true → ptsAt (a ++ c) p = ptsAt a p ++ pts c := by
  intro k
  induction k with
  | zero =>
    intro p h hp hv
    obtain rfl : p = a.size := by omega
    rw [ptsAt_end a _ (by omega)]
    have := pts_tail a c _ 0 (Nat.le_refl _)
    simpa [pts] using this
  | succ k ih =>
    intro p h hp hv
    by_cases hlt : p < a.size
    · have hw := Lib.decode_width_pos a p hlt
      have hz := size_le_dec a p hlt
      rw [valAt_step a p hlt, Bool.and_eq_true] at hv
      have hd := dec_grow (s := a ++ c) (t := a) (by rw [app_size]; omega) (fun i hi => app_byt_left a c i hi) hlt hv.1
      rw [ptsAt_step _ _ (by rw [app_size]; omega), hd.1, ptsAt_step a p hlt, ih _ (by omega) hz hv.2]
      rfl
    · obtain rfl : p = a.size := by omega
      rw [ptsAt_end a _ (by omega)]
      have := pts_tail a c _ 0 (Nat.le_refl _)
      simpa [pts] using this
/-- behind a valid text pieces begin anew -/
theorem pts_append (a c : ByteArray) (h : valB a = true) : pts (a ++ c) = pts a ++ pts c := pts_append_at a c _ 0 (Nat.le_refl _) (Nat.zero_le _) h

/-- orders of lists -/
theorem cmpL_swap : ∀ a b : List Int, cmpL a b = -cmpL b a
  | [], [] => rfl
  | [], _ :: _ => rfl
  | _ :: _, [] => rfl
  | x :: xs, y :: ys => by
    have := cmpL_swap xs ys
    simp only [cmpL]
    repeat' split
    all_goals omega
theorem cmpL_refl : ∀ a : List Int, cmpL a a = 0
  | [] => rfl
  | x :: xs => by simp [cmpL, cmpL_refl xs]
theorem cmpL_zero : ∀ a b : List Int, cmpL a b = 0 → a = b
  | [], [], _ => rfl
  | [], _ :: _, h => by simp [cmpL] at h
  | _ :: _, [], h => by simp [cmpL] at h
  | x :: xs, y :: ys, h => by
    simp only [cmpL] at h
    split at h
    · omega
    · split at h
      · omega
      · rw [cmpL_zero xs ys h, show x = y from by omega]
theorem cmpL_vals : ∀ a b : List Int, cmpL a b = -1 ∨ cmpL a b = 0 ∨ cmpL a b = 1
  | [], [] => by simp [cmpL]
  | [], _ :: _ => by simp [cmpL]
  | _ :: _, [] => by simp [cmpL]
  | x :: xs, y :: ys => by
    have := cmpL_vals xs ys
    simp only [cmpL]
    repeat' split
    all_goals omega
theorem cmpL_trans : ∀ a b c : List Int, cmpL a b ≤ 0 → cmpL b c ≤ 0 → cmpL a c ≤ 0 ∧ (cmpL a b < 0 → cmpL a c < 0)
  | [], [], [], _, _ => by simp [cmpL]
  | [], [], _ :: _, _, _ => by simp [cmpL]
  | [], _ :: _, [], _, h => by simp [cmpL] at h
  | [], _ :: _, _ :: _, _, _ => by simp [cmpL]
  | _ :: _, [], _, h, _ => by simp [cmpL] at h
  | _ :: _, _ :: _, [], _, h => by simp [cmpL] at h
  | x :: xs, y :: ys, z :: zs, h1, h2 => by
    have ih := cmpL_trans xs ys zs
    simp only [cmpL] at *
    split at h1
    · split at h2
      · rw [if_pos (by omega)]; omega
      · split at h2
        · omega
        · rw [if_pos (by omega)]; omega
    · split at h1
      · omega
      · split at h2
        · rw [if_pos (by omega)]; omega
        · split at h2
          · omega
          · have := ih h1 h2
            rw [if_neg (by omega), if_neg (by omega), if_neg (by omega), if_neg (by omega)]
            exact this
theorem cmpL_app (l : List Int) : ∀ a b : List Int, cmpL (l ++ a) (l ++ b) = cmpL a b := by
  induction l with
  | nil => intro a b; rfl
  | cons x l ih => intro a b; simp [cmpL, ih]
theorem cmpL_pre (l : List Int) (c : List Int) (h : c ≠ []) : cmpL l (l ++ c) = -1 := by
  have := cmpL_app l [] c
  rw [List.append_nil] at this
  rw [this]
  cases c with
  | nil => exact absurd rfl h
  | cons _ _ => rfl
end Go.Proofs.YthkkphfnfggpaaaDoor
