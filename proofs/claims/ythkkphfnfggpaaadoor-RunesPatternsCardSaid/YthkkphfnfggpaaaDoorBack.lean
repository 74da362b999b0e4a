/- Texts of code points, code points of texts, and cuts. Plain. -/
import Derived.Test.YthkkphfnfggpaaaDoorApp
import Derived.Test.YthkkphfnfggpaaaDoorText
import Derived.Lib.MapLaws
namespace Go.Proofs.YthkkphfnfggpaaaDoor
open Go.RowKit

theorem textL_cons (c : Int) (l : List Int) : textL (c :: l) = Lib.encodeRune c ++ textL l := by simp [textL]
theorem drop_take_app {α : Type} (l : List α) (k : Nat) : l.take k ++ l.drop k = l := List.take_append_drop k l
/-- a valid text is its code points' text -/
theorem text_back_at (s : ByteArray) : ∀ k p, s.size - p ≤ k → p ≤ s.size → valAt s p = true → textL (ptsAt s p) = s.data.toList.drop p := by
  intro k
  induction k with
  | zero =>
    intro p h hp _
    rw [ptsAt_end s p (by omega), List.drop_eq_nil_of_le (by rw [← Lib.size_eq]; omega)]; rfl
  | succ k ih =>
    intro p h hp hv
    by_cases hlt : p < s.size
    · have hw := Lib.decode_width_pos s p hlt
      have hz := size_le_dec s p hlt
      rw [valAt_step s p hlt, Bool.and_eq_true] at hv
      have hne : s.data.toList.drop p ≠ [] := by
        intro e; have := congrArg List.length e; rw [List.length_drop, ← Lib.size_eq] at this; simp at this; omega
      have he := Lib.encode_decode (s.data.toList.drop p) hne (by rw [Lib.decodeL_drop]; exact (okAt_iff s p).1 hv.1)
      rw [Lib.decodeL_drop] at he
      rw [ptsAt_step s p hlt, textL_cons, he, ih _ (by omega) hz hv.2, ← List.drop_drop]
      exact List.take_append_drop _ _
    · rw [ptsAt_end s p hlt, List.drop_eq_nil_of_le (by rw [← Lib.size_eq]; omega)]; rfl
theorem text_back (s : ByteArray) (h : valB s = true) : textS (pts s) = s := by
  have := text_back_at s _ 0 (Nat.le_refl _) (Nat.zero_le _) h
  rw [List.drop_zero] at this
  unfold textS pts
  rw [this]

/-- code points -/
def cpB (c : Int) : Bool := decide (0 ≤ c ∧ c ≤ 1114111 ∧ ¬ (55296 ≤ c ∧ c ≤ 57343))
def encS (c : Int) : ByteArray := ⟨(Lib.encodeRune c).toArray⟩
theorem enc_byt (c : Int) (i : Nat) : byt (encS c) i = (Lib.encodeRuneZ c).getD i 0 := by
  rw [byt_list]
  unfold encS Lib.encodeRune
  simp only [List.getD, List.getElem?_map]
  by_cases h : i < (Lib.encodeRuneZ c).length
  · have hb := Lib.encodeRuneZ_byte c _ (List.getElem_mem h)
    rw [List.getElem?_eq_getElem h]
    simp only [Option.map_some, Option.getD_some]
    have : ((Lib.encodeRuneZ c)[i].toNat.toUInt8).toNat = (Lib.encodeRuneZ c)[i].toNat := by
      simp [Nat.toUInt8, UInt8.toNat_ofNat]; omega
    rw [this]; omega
  · rw [List.getElem?_eq_none (by omega)]; rfl
theorem enc_size (c : Int) : (encS c).size = (Lib.encodeRuneZ c).length := by simp [encS, ByteArray.size, Lib.encodeRune]
theorem enc_dec (c : Int) (h : cpB c = true) : Utf8.decode (encS c) 0 = (c.toNat, (Lib.encodeRuneZ c).length) ∧ okAt (encS c) 0 = true := by
  unfold cpB at h; rw [decide_eq_true_iff] at h
  obtain ⟨h0, h1, h2⟩ := h
  have hs := enc_size c
  have b0 := enc_byt c 0
  have b1 := enc_byt c 1
  have b2 := enc_byt c 2
  have b3 := enc_byt c 3
  by_cases c1 : c ≤ 127
  · rw [Lib.encodeRuneZ_one h0 c1] at *
    simp [List.getD] at b0
    rw [dec_low _ 0 (by omega), b0]
    exact ⟨rfl, by unfold okAt; rw [b0]; simp; omega⟩
  by_cases c2 : c ≤ 2047
  · rw [Lib.encodeRuneZ_two (by omega) c2] at *
    simp [List.getD] at b0 b1 hs
    have hw : wholeP (encS c) 0 2 (byt (encS c) 0 - 192) 128 := by
      refine ⟨by omega, fun j a b => ?_, ?_⟩
      · obtain rfl : j = 1 := by omega
        unfold contB; simp only [Nat.zero_add]; omega
      · unfold fitsB; rw [accF1]; simp only [Nat.zero_add]; omega
    have d := dec_whole (.inl ⟨rfl, rfl, rfl, rfl⟩) (by omega) (by omega) hw
    refine ⟨?_, d.2⟩
    rw [d.1, accF1]; simp only [Nat.zero_add, List.length_cons, List.length_nil]
    congr 1; omega
  by_cases c3 : c ≤ 65535
  · rw [Lib.encodeRuneZ_three (by omega)] at *
    simp [List.getD] at b0 b1 b2 hs
    have hw : wholeP (encS c) 0 3 (byt (encS c) 0 - 224) 2048 := by
      refine ⟨by omega, fun j a b => ?_, ?_⟩
      · have : j = 1 ∨ j = 2 := by omega
        rcases this with rfl | rfl <;> (unfold contB; simp only [Nat.zero_add]; omega)
      · unfold fitsB; rw [accF2]; simp only [Nat.zero_add]; omega
    have d := dec_whole (.inr (.inl ⟨rfl, rfl, rfl, rfl⟩)) (by omega) (by omega) hw
    refine ⟨?_, d.2⟩
    rw [d.1, accF2]; simp only [Nat.zero_add, List.length_cons, List.length_nil]
    congr 1; omega
  · rw [Lib.encodeRuneZ_four (by omega) h1] at *
    simp [List.getD] at b0 b1 b2 b3 hs
    have hw : wholeP (encS c) 0 4 (byt (encS c) 0 - 240) 65536 := by
      refine ⟨by omega, fun j a b => ?_, ?_⟩
      · have : j = 1 ∨ j = 2 ∨ j = 3 := by omega
        rcases this with rfl | rfl | rfl <;> (unfold contB; simp only [Nat.zero_add]; omega)
      · unfold fitsB; rw [accF3]; simp only [Nat.zero_add]; omega
    have d := dec_whole (.inr (.inr ⟨rfl, rfl, rfl, rfl⟩)) (by omega) (by omega) hw
    refine ⟨?_, d.2⟩
    rw [d.1, accF3]; simp only [Nat.zero_add, List.length_cons, List.length_nil]
    congr 1; omega
theorem enc_pts (c : Int) (h : cpB c = true) : pts (encS c) = [c] ∧ valB (encS c) = true := by
  obtain ⟨hd, ho⟩ := enc_dec c h
  have hl := (Lib.encodeRuneZ_length c).1
  have hs := enc_size c
  have hpos : 0 < (encS c).size := by omega
  unfold cpB at h; rw [decide_eq_true_iff] at h
  constructor
  · unfold pts
    rw [ptsAt_step _ _ hpos, hd, ptsAt_end _ _ (by simp only; omega)]
    simp only
    rw [Int.toNat_of_nonneg h.1]
  · unfold valB
    rw [valAt_step _ _ hpos, ho, hd, valAt_end _ _ (by simp only; omega)]; rfl
theorem text_cons (c : Int) (l : List Int) : textS (c :: l) = encS c ++ textS l := by
  apply ByteArray.ext
  apply Array.toList_inj.1
  rw [app_list]
  unfold textS encS
  rw [textL_cons]
/-- code points are their text's -/
theorem pts_text : ∀ l : List Int, (∀ c ∈ l, cpB c = true) → pts (textS l) = l
  | [], _ => by
    have : textS [] = ⟨#[]⟩ := rfl
    rw [this]; exact ptsAt_end _ _ (by decide)
  | c :: l, h => by
    have e := enc_pts c (h c (by simp))
    rw [text_cons, pts_append _ _ e.2, e.1, pts_text l (fun x hx => h x (by simp [hx]))]; rfl

/-! cuts -/
theorem ext_byt (s : ByteArray) (q : Nat) (h : q ≤ s.size) : (s.extract 0 q).size = q ∧ ∀ i, i < q → byt s i = byt (s.extract 0 q) i := by
  have hl : (s.extract 0 q).data.toList = s.data.toList.take q := by rw [Lib.extract_data, List.drop_zero, Nat.sub_zero]
  have hsz : (s.extract 0 q).size = q := by rw [Lib.size_eq, hl, List.length_take, ← Lib.size_eq]; omega
  refine ⟨hsz, fun i hi => ?_⟩
  rw [byt_list, byt_list, hl]
  simp [List.getD, List.getElem?_take, hi]
theorem skip_le (s : ByteArray) : ∀ m p, p ≤ s.size → p ≤ skipP s m p ∧ skipP s m p ≤ s.size
  | 0, p, h => ⟨Nat.le_refl _, h⟩
  | m + 1, p, h => by
    simp only [skipP]
    by_cases hlt : p < s.size
    · rw [if_pos hlt]
      have hw := Lib.decode_width_pos s p hlt
      have := skip_le s m _ (size_le_dec s p hlt)
      omega
    · rw [if_neg hlt]; omega
theorem cut_pts (s : ByteArray) (Q : Nat) (hQ : Q ≤ s.size) : ∀ m p, p ≤ s.size → skipP s m p = Q → ptsAt s p = ptsAt (s.extract 0 Q) p ++ ptsAt s Q ∧ (ptsAt (s.extract 0 Q) p).length = min m (ptsAt s p).length
  | 0, p, h, e => by
    simp only [skipP] at e
    subst e
    rw [ptsAt_end (s.extract 0 p) p (by rw [(ext_byt s p hQ).1]; omega)]
    simp
  | m + 1, p, h, e => by
    obtain ⟨hsz, hb⟩ := ext_byt s Q hQ
    simp only [skipP] at e
    by_cases hlt : p < s.size
    · rw [if_pos hlt] at e
      have hw := Lib.decode_width_pos s p hlt
      have hz := size_le_dec s p hlt
      have hle := skip_le s m _ hz
      obtain ⟨i1, i2⟩ := cut_pts s Q hQ m _ hz e
      have hd := dec_shrink (s := s) (t := s.extract 0 Q) (by omega) (fun i hi => hb i (by omega)) (p := p) (by omega) (by omega)
      rw [ptsAt_step s p hlt, ptsAt_step (s.extract 0 Q) p (by omega), hd.1, i1]
      refine ⟨rfl, ?_⟩
      rw [List.length_cons, List.length_cons, i2, i1]
      omega
    · rw [if_neg hlt] at e
      have : p = Q := e
      subst this
      rw [ptsAt_end (s.extract 0 p) p (by omega), ptsAt_end s p hlt]
      simp
theorem cut_facts (s : ByteArray) (n : Int) : ∃ Q, Q ≤ s.size ∧ cutS s n = s.extract 0 Q ∧ (cutS s n).size = Q ∧ (pts (cutS s n)).length = min n.toNat (pts s).length ∧ (pts (s.extract Q s.size)).length + min n.toNat (pts s).length = (pts s).length := by
  have hq := skip_le s n.toNat 0 (Nat.zero_le _)
  refine ⟨skipP s n.toNat 0, hq.2, rfl, ?_, ?_, ?_⟩
  · exact (ext_byt s _ hq.2).1
  · exact (cut_pts s _ hq.2 n.toNat 0 (Nat.zero_le _) rfl).2
  · have h := cut_pts s _ hq.2 n.toNat 0 (Nat.zero_le _) rfl
    have ht : ∀ k q, s.size - skipP s n.toNat 0 - q ≤ k → ptsAt (s.extract (skipP s n.toNat 0) s.size) q = ptsAt s (skipP s n.toNat 0 + q) := by
      intro k
      induction k with
      | zero => intro q hk; rw [ptsAt_end _ _ (by rw [Lib.tail_size]; omega), ptsAt_end _ _ (by omega)]
      | succ k ih =>
        intro q hk
        by_cases hl : q < s.size - skipP s n.toNat 0
        · have hw := Lib.decode_width_pos (s.extract (skipP s n.toNat 0) s.size) q (by rw [Lib.tail_size]; omega)
          rw [ptsAt_step _ _ (by rw [Lib.tail_size]; omega), ptsAt_step s _ (by omega), ih _ (by omega), Lib.tail_decode, Nat.add_assoc]
        · rw [ptsAt_end _ _ (by rw [Lib.tail_size]; omega), ptsAt_end _ _ (by omega)]
    have e := ht _ 0 (Nat.le_refl _)
    have h1 := congrArg List.length h.1
    rw [List.length_append, h.2] at h1
    show (ptsAt (s.extract (skipP s n.toNat 0) s.size) 0).length + min n.toNat (ptsAt s 0).length = (ptsAt s 0).length
    rw [e, Nat.add_zero]
    omega
end Go.Proofs.YthkkphfnfggpaaaDoor
