/- Patterns put together, as texts. -/
import Derived.Test.YthkkphfnfggpaaaDoorStars
namespace Go.Proofs.YthkkphfnfggpaaaDoor
open Go.RowKit

theorem matchB_of {p s : ByteArray} {ps : List Prt} (h : parseF p = .inl ps) : matchB p s = mtB ps (pts s) := by unfold matchB; rw [h]
theorem matchB_parse {p s : ByteArray} (h : matchB p s = true) : ∃ ps, parseF p = .inl ps ∧ mtB ps (pts s) = true := by
  unfold matchB at h
  split at h
  · rename_i ps e; exact ⟨ps, e, h⟩
  · cases h
theorem star_pts : pts ⟨#[42]⟩ = [42] ∧ valB ⟨#[42]⟩ = true := ⟨by kernel_rfl, by kernel_rfl⟩
theorem one_star (a : ByteArray) : matchB ⟨#[42]⟩ a = true := by
  rw [matchB_of (ps := [starP]) (by kernel_rfl)]; exact mt_star _
theorem two_stars (a : ByteArray) : matchB ⟨#[42, 42]⟩ a = true := by
  rw [matchB_of (ps := [starP] ++ [starP]) (by kernel_rfl)]
  have := mt_app [starP] [starP] [] (pts a) (mt_star _) (mt_star _)
  rwa [List.nil_append] at this
theorem wrap_one (p s : ByteArray) (ps : List Prt) (h : parseF p = .inl ps) (x y : Bool) (q : ByteArray) (hq : pts q = starsOf x ++ pts p ++ starsOf y) (A B C : List Int) (hs : pts s = A ++ B ++ C) (hm : mtB ps B = true)
    (hx : x = false → A = []) (hy : y = false → C = []) : matchB q s = true := by
  have : parseF q = .inl (starPs x ++ ps ++ starPs y) := by
    unfold parseF
    rw [hq]
    exact parse_wrap _ _ h x y
  rw [matchB_of this, hs]
  exact mt_wrap ps A B C hm x y hx hy
theorem wrap_match (p a b : ByteArray) (hp : valB p = true) (ha : valB a = true) (hb : valB b = true) (hm : matchB p b = true) :
    matchB (⟨#[42]⟩ ++ p ++ ⟨#[42]⟩) (a ++ b ++ a) = true ∧ matchB (p ++ ⟨#[42]⟩) (b ++ a) = true ∧ matchB (⟨#[42]⟩ ++ p) (a ++ b) = true := by
  obtain ⟨ps, hps, hmt⟩ := matchB_parse hm
  obtain ⟨hs, hv⟩ := star_pts
  refine ⟨wrap_one p _ ps hps true true _ ?_ (pts a) (pts b) (pts a) ?_ hmt (by simp) (by simp), wrap_one p _ ps hps false true _ ?_ [] (pts b) (pts a) ?_ hmt (by simp) (by simp), wrap_one p _ ps hps true false _ ?_ (pts a) (pts b) [] ?_ hmt (by simp) (by simp)⟩
  · rw [ByteArray.append_assoc, pts_append _ _ hv, pts_append _ _ hp, hs]; rfl
  · rw [ByteArray.append_assoc, pts_append _ _ ha, pts_append _ _ hb, List.append_assoc]
  · rw [pts_append _ _ hp, hs]; rfl
  · rw [pts_append _ _ hb]; rfl
  · rw [pts_append _ _ hv, hs]; simp [starsOf]
  · rw [pts_append _ _ ha]; simp
def clsP (neg : Bool) : Prt := ⟨false, neg, [(120, 122), (97, 97)]⟩
theorem cls_parse : parseF ⟨#[91, 120, 45, 122, 97, 93]⟩ = .inl [clsP false] ∧ parseF ⟨#[91, 94, 120, 45, 122, 97, 93]⟩ = .inl [clsP true] := ⟨by kernel_rfl, by kernel_rfl⟩
theorem mt_cls (n : Bool) : ∀ S : List Int, mtB [clsP n] S = (decide (S.length = 1) && takesB (clsP n) (S.getD 0 0))
  | [] => rfl
  | [c] => by simp [mtB, clsP]
  | c :: d :: S => by simp [mtB, clsP]
theorem cls_facts (a : ByteArray) : ((pts a).length = 1 → (matchB ⟨#[91, 120, 45, 122, 97, 93]⟩ a != matchB ⟨#[91, 94, 120, 45, 122, 97, 93]⟩ a) = true) ∧
    ((pts a).length ≠ 1 → matchB ⟨#[91, 120, 45, 122, 97, 93]⟩ a = false ∧ matchB ⟨#[91, 94, 120, 45, 122, 97, 93]⟩ a = false) := by
  rw [matchB_of cls_parse.1, matchB_of cls_parse.2, mt_cls, mt_cls]
  refine ⟨fun h => ?_, fun h => ?_⟩
  · rw [decide_eq_true h]
    unfold takesB clsP
    simp only
    split <;> rfl
  · rw [decide_eq_false h]; exact ⟨rfl, rfl⟩

theorem pts_cp_at (s : ByteArray) : ∀ k q, s.size - q ≤ k → ∀ c ∈ ptsAt s q, cpB c = true := by
  intro k
  induction k with
  | zero => intro q hq; rw [ptsAt_end s q (by omega)]; simp
  | succ k ih =>
    intro q hq
    by_cases hlt : q < s.size
    · have hw := Lib.decode_width_pos s q hlt
      rw [ptsAt_step s q hlt]
      intro c hc
      rcases List.mem_cons.1 hc with rfl | hc
      · have hb := byt_bd s q
        unfold cpB
        rw [decide_eq_true_iff]
        rcases dec_cases s q with ⟨h1, h2, _⟩ | ⟨_, h2, _⟩ | ⟨n, base, hi, least, hsh, h1, h2, hwh⟩
        · rw [h2]; simp only; omega
        · rw [h2]; simp only; omega
        · have d := (dec_whole hsh h1 h2 hwh).1
          have hf := hwh.2.2
          unfold fitsB at hf
          rw [d]
          simp only
          have : 128 ≤ least := by rcases hsh with ⟨_, _, _, rfl⟩ | ⟨_, _, _, rfl⟩ | ⟨_, _, _, rfl⟩ <;> omega
          omega
      · exact ih _ (by omega) c hc
    · rw [ptsAt_end s q hlt]; simp
theorem pts_cp (s : ByteArray) : ∀ c ∈ pts s, cpB c = true := pts_cp_at s _ 0 (Nat.le_refl _)

/-- bytes, signs behind a \ -/
def escU (l : List UInt8) : List UInt8 := l.flatMap fun x => if signB (x.toNat : Int) = true then [92, x] else [x]
theorem escU_app (a b : List UInt8) : escU (a ++ b) = escU a ++ escU b := by simp [escU]
theorem escU_len (l : List UInt8) : (escU l).length ≤ 2 * l.length := by
  induction l with
  | nil => simp [escU]
  | cons x l ih =>
    have : escU (x :: l) = (if signB (x.toNat : Int) = true then [92, x] else [x]) ++ escU l := by simp [escU]
    rw [this, List.length_append, List.length_cons]
    split <;> simp <;> omega
theorem escU_high (l : List UInt8) (h : ∀ x ∈ l, 128 ≤ x.toNat) : escU l = l := by
  induction l with
  | nil => rfl
  | cons x l ih =>
    have : escU (x :: l) = (if signB (x.toNat : Int) = true then [92, x] else [x]) ++ escU l := by simp [escU]
    have hx := h x (by simp)
    have hs : signB (x.toNat : Int) = false := by unfold signB; rw [decide_eq_false_iff_not]; omega
    rw [this, hs, ih (fun y hy => h y (List.mem_cons_of_mem _ hy))]; rfl
theorem escU_rune (c : Int) (h : cpB c = true) : escU (Lib.encodeRune c) = textL (if signB c = true then [92, c] else [c]) := by
  unfold cpB at h
  rw [decide_eq_true_iff] at h
  have e92 : Lib.encodeRune 92 = [92] := by kernel_rfl
  by_cases h1 : c ≤ 127
  · have e : Lib.encodeRune c = [UInt8.ofNat c.toNat] := by
      unfold Lib.encodeRune; rw [Lib.encodeRuneZ_one h.1 h1]; rfl
    have ht : ((UInt8.ofNat c.toNat).toNat : Int) = c := by
      rw [UInt8.toNat_ofNat']; omega
    have : escU [UInt8.ofNat c.toNat] = if signB c = true then [92, UInt8.ofNat c.toNat] else [UInt8.ofNat c.toNat] := by
      simp only [escU, List.flatMap_cons, List.flatMap_nil, List.append_nil, ht]
    rw [e, this]
    by_cases hs : signB c = true
    · rw [if_pos hs, if_pos hs, textL_cons, textL_cons, e92, e]; rfl
    · rw [if_neg hs, if_neg hs, textL_cons, e]; rfl
  · have hs : ¬ signB c = true := by unfold signB; rw [decide_eq_true_iff]; omega
    rw [if_neg hs, textL_cons]
    rw [escU_high]
    · simp [textL]
    · intro x hx
      unfold Lib.encodeRune at hx
      rw [List.mem_map] at hx
      obtain ⟨z, hz, rfl⟩ := hx
      have hz2 : 128 ≤ z ∧ z < 256 := by
        by_cases h2 : c ≤ 2047
        · rw [Lib.encodeRuneZ_two (by omega) h2] at hz
          simp at hz; omega
        by_cases h3 : c ≤ 65535
        · rw [Lib.encodeRuneZ_three (by omega)] at hz
          simp at hz; omega
        · rw [Lib.encodeRuneZ_four (by omega) (by omega)] at hz
          simp at hz; omega
      rw [UInt8.toNat_ofNat']; omega
theorem escU_text : ∀ l : List Int, (∀ c ∈ l, cpB c = true) → escU (textL l) = textL (escL l)
  | [], _ => rfl
  | c :: l, h => by
    have e : escL (c :: l) = (if signB c = true then [92, c] else [c]) ++ escL l := by simp [escL]
    rw [e, textL_cons, escU_app, escU_rune c (h c (by simp)), escU_text l (fun d hd => h d (List.mem_cons_of_mem _ hd))]
    simp [textL]
/-- the text that the loop has built -/
def escB (b : ByteArray) (k : Nat) : ByteArray := ⟨(escU (b.data.toList.take k)).toArray⟩
theorem escB_zero (b : ByteArray) : escB b 0 = ⟨#[]⟩ := by simp [escB, escU]
theorem escB_size (b : ByteArray) (k : Nat) : (escB b k).size ≤ 2 * k := by
  have : (escB b k).size = (escU (b.data.toList.take k)).length := by simp [escB, ByteArray.size]
  rw [this]
  have := escU_len (b.data.toList.take k)
  have : (b.data.toList.take k).length ≤ k := List.length_take_le _ _
  omega
theorem escB_step (b : ByteArray) (k : Nat) (h : k < b.size) : escB b (k + 1) = (if signB (byt b k) = true then escB b k ++ ⟨#[92]⟩ else escB b k) ++ b.extract k (k + 1) := by
  have hk : k < b.data.toList.length := by rw [← Lib.size_eq]; exact h
  have hby : byt b k = ((b.data.toList[k]).toNat : Int) := by
    rw [byt_list, List.getD, List.getElem?_eq_getElem hk]; rfl
  have hex : (b.extract k (k + 1)).data.toList = [b.data.toList[k]] := by
    rw [Lib.extract_data, show k + 1 - k = 1 from by omega, List.drop_eq_getElem_cons hk]; rfl
  have hst : escU (b.data.toList.take (k + 1)) = escU (b.data.toList.take k) ++ (if signB (byt b k) = true then [92, b.data.toList[k]] else [b.data.toList[k]]) := by
    rw [List.take_succ_eq_append_getElem hk, escU_app, hby]; simp [escU]
  apply ByteArray.ext
  apply Array.toList_inj.1
  rw [app_list, hex]
  show (escU (b.data.toList.take (k + 1))).toArray.toList = _
  rw [hst]
  by_cases hs : signB (byt b k) = true
  · rw [if_pos hs, if_pos hs, app_list]; simp [escB]
  · rw [if_neg hs, if_neg hs]; simp [escB]
theorem esc_all (b : ByteArray) (hv : valB b = true) : matchB (escB b b.size) b = true := by
  have hcp := pts_cp b
  have hb : b.data.toList = textL (pts b) := by
    have := text_back_at b _ 0 (Nat.le_refl _) (Nat.zero_le _) hv
    rw [List.drop_zero] at this
    exact this.symm
  have ht : b.data.toList.take b.size = b.data.toList := by rw [Lib.size_eq, List.take_length]
  have he : escB b b.size = textS (escL (pts b)) := by
    unfold escB textS
    rw [ht]
    conv => lhs; rw [hb]
    rw [escU_text _ hcp]
  have hp : pts (escB b b.size) = escL (pts b) := by
    rw [he]
    refine pts_text _ (fun c hc => ?_)
    unfold escL at hc
    rw [List.mem_flatMap] at hc
    obtain ⟨d, hd, hc⟩ := hc
    split at hc
    · simp at hc
      rcases hc with rfl | rfl
      · rfl
      · exact hcp _ hd
    · simp at hc
      rw [hc]; exact hcp _ hd
  obtain ⟨ps, h1, h2⟩ := esc_match (pts b)
  have : parseF (escB b b.size) = .inl ps := by unfold parseF; rw [hp]; exact h1
  rw [matchB_of this]; exact h2
end Go.Proofs.YthkkphfnfggpaaaDoor
