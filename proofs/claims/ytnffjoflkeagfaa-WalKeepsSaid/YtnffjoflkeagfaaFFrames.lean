/- Frames, lists of frames, what is scanned: the plain part. -/
import Derived.Test.YtnffjoflkeagfaaFSum
namespace Go.Proofs.Ytnffjoflkeagfaa.Fr

/-- the frame of bytes -/
def frameL (b : List UInt8) : List UInt8 := four b.length ++ (four (sumL (four b.length ++ b)) ++ b)
/-- what was framed at the beginning, if it is a frame -/
def fB (l : List UInt8) : List UInt8 := (l.drop 8).take (num4 l)
/-- what is wrong with the frame at the beginning -/
def fE (l : List UInt8) : Int :=
  if l.length < 8 then 30 else if 65536 < num4 l then 31 else if l.length - 8 < num4 l then 30
  else if sumL (l.take 4 ++ fB l) ≠ num4 (l.drop 4) then 32 else 0
def scanF : Nat → List UInt8 → List (List UInt8) × Nat
  | 0, _ => ([], 0)
  | n + 1, l => if fE l = 0 then (fB l :: (scanF n (l.drop (8 + num4 l))).1, 8 + num4 l + (scanF n (l.drop (8 + num4 l))).2) else ([], 0)
/-- frame behind frame -/
def scan (l : List UInt8) : List (List UInt8) × Nat := scanF l.length l
def joinL (ls : List (List UInt8)) : List UInt8 := ls.flatMap frameL

theorem frameL_length (b : List UInt8) : (frameL b).length = 8 + b.length := by
  unfold frameL; rw [List.length_append, List.length_append, four_length, four_length]; omega
theorem fE_cases (l : List UInt8) : fE l = 0 ∨ fE l = 30 ∨ fE l = 31 ∨ fE l = 32 := by
  unfold fE; split
  · omega
  · split
    · omega
    · split
      · omega
      · split <;> omega
theorem fE_short {l : List UInt8} (h : l.length < 8) : fE l = 30 := by unfold fE; rw [if_pos h]
theorem fE_long {l : List UInt8} (h : ¬ l.length < 8) (h1 : 65536 < num4 l) : fE l = 31 := by unfold fE; rw [if_neg h, if_pos h1]
theorem fE_less {l : List UInt8} (h : ¬ l.length < 8) (h1 : ¬ 65536 < num4 l) (h2 : l.length - 8 < num4 l) : fE l = 30 := by unfold fE; rw [if_neg h, if_neg h1, if_pos h2]
theorem fE_sum {l : List UInt8} (h : ¬ l.length < 8) (h1 : ¬ 65536 < num4 l) (h2 : ¬ l.length - 8 < num4 l) (h3 : sumL (l.take 4 ++ fB l) ≠ num4 (l.drop 4)) : fE l = 32 := by
  unfold fE; rw [if_neg h, if_neg h1, if_neg h2, if_pos h3]
theorem fE_ok {l : List UInt8} (h : ¬ l.length < 8) (h1 : ¬ 65536 < num4 l) (h2 : ¬ l.length - 8 < num4 l) (h3 : sumL (l.take 4 ++ fB l) = num4 (l.drop 4)) : fE l = 0 := by
  unfold fE; rw [if_neg h, if_neg h1, if_neg h2, if_neg (fun hh => hh h3)]
theorem fE_parts {l : List UInt8} (h : fE l = 0) : 8 ≤ l.length ∧ num4 l ≤ 65536 ∧ 8 + num4 l ≤ l.length ∧ sumL (l.take 4 ++ fB l) = num4 (l.drop 4) := by
  by_cases h0 : l.length < 8
  · rw [fE_short h0] at h; omega
  · by_cases h1 : 65536 < num4 l
    · rw [fE_long h0 h1] at h; omega
    · by_cases h2 : l.length - 8 < num4 l
      · rw [fE_less h0 h1 h2] at h; omega
      · by_cases h3 : sumL (l.take 4 ++ fB l) = num4 (l.drop 4)
        · exact ⟨by omega, by omega, by omega, h3⟩
        · rw [fE_sum h0 h1 h2 h3] at h; omega
theorem fB_length {l : List UInt8} (h : fE l = 0) : (fB l).length = num4 l := by
  have := fE_parts h
  unfold fB; rw [List.length_take, List.length_drop]; omega
/-- how much a frame takes, whatever stands behind -/
theorem scanF_eq : ∀ (n m : Nat) (l : List UInt8), l.length ≤ n → l.length ≤ m → scanF n l = scanF m l
  | 0, 0, _, _, _ => rfl
  | 0, m + 1, l, hn, _ => by
    have hs : fE l = 30 := fE_short (by omega)
    simp only [scanF]; rw [if_neg (by rw [hs]; decide)]
  | n + 1, 0, l, _, hm => by
    have hs : fE l = 30 := fE_short (by omega)
    simp only [scanF]; rw [if_neg (by rw [hs]; decide)]
  | n + 1, m + 1, l, hn, hm => by
    simp only [scanF]
    by_cases h : fE l = 0
    · have hp := fE_parts h
      rw [if_pos h, if_pos h, scanF_eq n m (l.drop (8 + num4 l)) (by rw [List.length_drop]; omega) (by rw [List.length_drop]; omega)]
    · rw [if_neg h, if_neg h]
theorem scan_ok {l : List UInt8} (h : fE l = 0) : scan l = (fB l :: (scan (l.drop (8 + num4 l))).1, 8 + num4 l + (scan (l.drop (8 + num4 l))).2) := by
  have hp := fE_parts h
  obtain ⟨n, hn⟩ : ∃ n, l.length = n + 1 := ⟨l.length - 1, by omega⟩
  have e : scanF n (l.drop (8 + num4 l)) = scan (l.drop (8 + num4 l)) := scanF_eq _ _ _ (by rw [List.length_drop]; omega) (Nat.le_refl _)
  have e2 : scan l = scanF (n + 1) l := by unfold scan; rw [hn]
  rw [e2]
  simp only [scanF]
  rw [if_pos h, e]
theorem scan_end {l : List UInt8} (h : fE l ≠ 0) : scan l = ([], 0) := by
  unfold scan
  cases hl : l.length with
  | zero => rfl
  | succ n => simp only [scanF]; rw [if_neg h]
theorem frame_read (b r : List UInt8) (hb : b.length ≤ 65536) : fE (frameL b ++ r) = 0 ∧ fB (frameL b ++ r) = b ∧ num4 (frameL b ++ r) = b.length := by
  have hn : num4 (frameL b ++ r) = b.length := by
    unfold frameL; rw [List.append_assoc]; exact num4_four _ (by omega) _
  have hd : (frameL b ++ r).drop 8 = b ++ r := by
    unfold frameL
    have e : four b.length ++ (four (sumL (four b.length ++ b)) ++ b) ++ r = (four b.length ++ four (sumL (four b.length ++ b))) ++ (b ++ r) := by simp
    rw [e, List.drop_append_of_le_length (by rw [List.length_append, four_length, four_length]; omega)]
    rw [List.drop_of_length_le (by rw [List.length_append, four_length, four_length]; omega)]; rfl
  have hB : fB (frameL b ++ r) = b := by
    unfold fB; rw [hn, hd, List.take_left]
  have hl : (frameL b ++ r).length = 8 + b.length + r.length := by rw [List.length_append, frameL_length]
  refine ⟨fE_ok (by omega) (by omega) (by omega) ?_, hB, hn⟩
  rw [hB]
  have h4 : (frameL b ++ r).take 4 = four b.length := by unfold frameL; rfl
  have h5 : (frameL b ++ r).drop 4 = four (sumL (four b.length ++ b)) ++ (b ++ r) := by
    unfold frameL; rw [List.append_assoc, List.append_assoc]; rfl
  rw [h4, h5, num4_four _ (sumL_lt _)]
theorem drop_frame (b r : List UInt8) : (frameL b ++ r).drop (8 + b.length) = r := by
  rw [← frameL_length, List.drop_left]
theorem scan_frame (b r : List UInt8) (hb : b.length ≤ 65536) : scan (frameL b ++ r) = (b :: (scan r).1, 8 + b.length + (scan r).2) := by
  obtain ⟨h1, h2, h3⟩ := frame_read b r hb
  rw [scan_ok h1, h2, h3, drop_frame]
theorem joinL_cons (b : List UInt8) (ls : List (List UInt8)) : joinL (b :: ls) = frameL b ++ joinL ls := by simp [joinL]
/-- whole frames, and whatever stands behind -/
theorem scan_join : ∀ (ls : List (List UInt8)) (r : List UInt8), (∀ b ∈ ls, b.length ≤ 65536) → scan (joinL ls ++ r) = (ls ++ (scan r).1, (joinL ls).length + (scan r).2)
  | [], r, _ => by simp [joinL]
  | b :: ls, r, h => by
    rw [joinL_cons, List.append_assoc, scan_frame b _ (h b (by simp)), scan_join ls r (fun x hx => h x (by simp [hx])), List.length_append, frameL_length]
    simp only [List.cons_append, Prod.mk.injEq, true_and]
    omega
theorem scan_nil : scan [] = ([], 0) := rfl
theorem scan_join0 (ls : List (List UInt8)) (h : ∀ b ∈ ls, b.length ≤ 65536) : scan (joinL ls) = (ls, (joinL ls).length) := by
  have := scan_join ls [] h
  rw [List.append_nil, scan_nil, List.append_nil] at this
  simpa using this
/-- cut anywhere: the first ones that are whole -/
theorem scan_cut : ∀ (ls : List (List UInt8)) (k : Nat), (∀ b ∈ ls, b.length ≤ 65536) →
    ∃ m, m ≤ ls.length ∧ scan ((joinL ls).take k) = (ls.take m, (joinL (ls.take m)).length) ∧ (joinL (ls.take m)).length ≤ k ∧ (m = ls.length ∨ k < (joinL (ls.take m)).length + 8 + (ls.getD m []).length)
  | [], k, _ => ⟨0, by simp, by simp [joinL, scan_nil], by simp [joinL], .inl rfl⟩
  | b :: ls, k, h => by
    have hb := h b (by simp)
    rw [joinL_cons]
    by_cases hk : 8 + b.length ≤ k
    · obtain ⟨m, h1, h2, h3, h4⟩ := scan_cut ls (k - (8 + b.length)) (fun x hx => h x (by simp [hx]))
      have e : (frameL b ++ joinL ls).take k = frameL b ++ (joinL ls).take (k - (8 + b.length)) := by
        rw [List.take_append, frameL_length, List.take_of_length_le (by rw [frameL_length]; exact hk)]
      refine ⟨m + 1, by simp; omega, ?_, ?_, ?_⟩
      · rw [e, scan_frame b _ hb, h2, List.take_succ_cons, joinL_cons, List.length_append, frameL_length]
      · rw [List.take_succ_cons, joinL_cons, List.length_append, frameL_length]; omega
      · rw [List.take_succ_cons, joinL_cons, List.length_append, frameL_length]
        rcases h4 with h4 | h4
        · left; simp; omega
        · right
          have e2 : (b :: ls).getD (m + 1) [] = ls.getD m [] := by simp [List.getD]
          rw [e2]; omega
    · refine ⟨0, by simp, ?_, by simp [joinL], .inr (by simp [joinL]; omega)⟩
      have hl : ((frameL b ++ joinL ls).take k).length = min k (8 + b.length + (joinL ls).length) := by rw [List.length_take, List.length_append, frameL_length]
      have hn : fE ((frameL b ++ joinL ls).take k) ≠ 0 := by
        by_cases h8 : k < 8
        · rw [fE_short (by omega)]; decide
        · have hnn : num4 ((frameL b ++ joinL ls).take k) = b.length := by
            rw [num4_take _ _ (by omega)]
            exact (frame_read b _ hb).2.2
          rw [fE_less (by omega) (by omega) (by omega)]; decide
      rw [scan_end hn]; simp [joinL]
/-- one byte behind the first four is another one -/
theorem frame_harm (b r : List UInt8) (hb : b.length ≤ 65536) (k : Nat) (x : UInt8) (hk4 : 4 ≤ k) (hk : k < 8 + b.length) (hx : x ≠ (frameL b).getD k 0) : fE ((frameL b).set k x ++ r) = 32 := by
  obtain ⟨p0, p1, p2, p3, hp⟩ : ∃ p0 p1 p2 p3, four b.length = [p0, p1, p2, p3] := ⟨_, _, _, _, rfl⟩
  have hS := sumL_lt (four b.length ++ b)
  have HS : four (sumL (four b.length ++ b)) = four (sumL (four b.length ++ b)) := rfl
  obtain ⟨q0, q1, q2, q3, hq⟩ : ∃ q0 q1 q2 q3, four (sumL (four b.length ++ b)) = [q0, q1, q2, q3] := ⟨_, _, _, _, rfl⟩
  have hqn : num4 [q0, q1, q2, q3] = sumL (four b.length ++ b) := by
    rw [← hq]; have := num4_four _ hS []; simpa using this
  have hpn : num4 [p0, p1, p2, p3] = b.length := by
    rw [← hp]; have := num4_four b.length (by omega) []; simpa using this
  have hf : frameL b = p0 :: p1 :: p2 :: p3 :: q0 :: q1 :: q2 :: q3 :: b := by unfold frameL; rw [hq, hp]; rfl
  rw [hf] at hx ⊢
  rw [hp] at hqn
  by_cases h8 : k < 8
  · have hcase : ∃ a0 a1 a2 a3, (p0 :: p1 :: p2 :: p3 :: q0 :: q1 :: q2 :: q3 :: b).set k x = p0 :: p1 :: p2 :: p3 :: a0 :: a1 :: a2 :: a3 :: b ∧ [a0, a1, a2, a3] ≠ [q0, q1, q2, q3] := by
      obtain rfl | rfl | rfl | rfl : k = 4 ∨ k = 5 ∨ k = 6 ∨ k = 7 := by omega
      · exact ⟨x, q1, q2, q3, rfl, fun e => hx (by simp at e; simp [e])⟩
      · exact ⟨q0, x, q2, q3, rfl, fun e => hx (by simp at e; simp [e])⟩
      · exact ⟨q0, q1, x, q3, rfl, fun e => hx (by simp at e; simp [e])⟩
      · exact ⟨q0, q1, q2, x, rfl, fun e => hx (by simp at e; simp [e])⟩
    obtain ⟨a0, a1, a2, a3, e, hne⟩ := hcase
    rw [e]
    have hn : num4 (p0 :: p1 :: p2 :: p3 :: a0 :: a1 :: a2 :: a3 :: b ++ r) = b.length := hpn
    have hB : fB (p0 :: p1 :: p2 :: p3 :: a0 :: a1 :: a2 :: a3 :: b ++ r) = b := by
      unfold fB; rw [hn]; show (b ++ r).take b.length = b; exact List.take_left
    have hl : (p0 :: p1 :: p2 :: p3 :: a0 :: a1 :: a2 :: a3 :: b ++ r).length = 8 + b.length + r.length := by simp; omega
    refine fE_sum (by omega) (by omega) (by omega) ?_
    rw [hB]
    show sumL ([p0, p1, p2, p3] ++ b) ≠ num4 (a0 :: a1 :: a2 :: a3 :: (b ++ r))
    intro h
    rw [← hqn] at h
    have e1 := four_num4 a0 a1 a2 a3 (b ++ r)
    rw [← h, four_num4 q0 q1 q2 q3 []] at e1
    exact hne e1.symm
  · obtain ⟨j, rfl⟩ : ∃ j, k = j + 8 := ⟨k - 8, by omega⟩
    have hj : j < b.length := by omega
    have e : (p0 :: p1 :: p2 :: p3 :: q0 :: q1 :: q2 :: q3 :: b).set (j + 8) x = p0 :: p1 :: p2 :: p3 :: q0 :: q1 :: q2 :: q3 :: b.set j x := rfl
    have hx2 : x ≠ b.getD j 0 := by simpa [List.getD] using hx
    rw [e]
    have hsl : (b.set j x).length = b.length := by simp
    have hn : num4 (p0 :: p1 :: p2 :: p3 :: q0 :: q1 :: q2 :: q3 :: b.set j x ++ r) = b.length := hpn
    have hB : fB (p0 :: p1 :: p2 :: p3 :: q0 :: q1 :: q2 :: q3 :: b.set j x ++ r) = b.set j x := by
      unfold fB; rw [hn, ← hsl]; show (b.set j x ++ r).take (b.set j x).length = b.set j x; exact List.take_left
    have hl : (p0 :: p1 :: p2 :: p3 :: q0 :: q1 :: q2 :: q3 :: b.set j x ++ r).length = 8 + b.length + r.length := by simp; omega
    refine fE_sum (by omega) (by omega) (by omega) ?_
    rw [hB]
    show sumL ([p0, p1, p2, p3] ++ b.set j x) ≠ num4 (q0 :: q1 :: q2 :: q3 :: (b.set j x ++ r))
    intro h
    have e4 : num4 (q0 :: q1 :: q2 :: q3 :: (b.set j x ++ r)) = num4 [q0, q1, q2, q3] := rfl
    rw [e4, hqn] at h
    have hb2 : b = b.take j ++ b.getD j 0 :: b.drop (j + 1) := by
      have := List.drop_eq_getElem_cons hj
      have e5 : b.getD j 0 = b[j] := by simp [List.getD, hj]
      rw [e5, ← this, List.take_append_drop]
    have hset : b.set j x = b.take j ++ x :: b.drop (j + 1) := List.set_eq_take_append_cons_drop .. |>.trans (if_pos hj)
    have h1 : [p0, p1, p2, p3] ++ b.set j x = ([p0, p1, p2, p3] ++ b.take j) ++ x :: b.drop (j + 1) := by rw [hset, List.append_assoc]
    have h2 : [p0, p1, p2, p3] ++ b = ([p0, p1, p2, p3] ++ b.take j) ++ b.getD j 0 :: b.drop (j + 1) := by
      rw [List.append_assoc, ← hb2]
    rw [h1, h2] at h
    exact hx2 (sumL_byte _ _ _ _ h)
end Go.Proofs.Ytnffjoflkeagfaa.Fr
