/- The law on patterns without signs. -/
import Derived.Test.YthkkphfnfggpaaaDoorWorks
import Derived.Test.YthkkphfnfggpaaaDoorApp
namespace Go.Proofs.YthkkphfnfggpaaaDoor
open Go.RowKit

def signB (c : Int) : Bool := decide (c = 42 ∨ c = 63 ∨ c = 91 ∨ c = 92)
theorem dec_ascii (s : ByteArray) (q : Nat) : ((Utf8.decode s q).1 : Int) < 128 → byt s q = ((Utf8.decode s q).1 : Int) := by
  intro h
  have hb := byt_bd s q
  rcases dec_cases s q with ⟨h1, h2, _⟩ | ⟨_, h2, _⟩ | ⟨n, base, hi, least, hsh, h1, h2, hw⟩
  · rw [h2]; simp only; omega
  · rw [h2] at h; simp only at h; omega
  · have d := (dec_whole hsh h1 h2 hw).1
    have hf := hw.2.2
    unfold fitsB at hf
    rw [d] at h
    simp only at h
    have : 128 ≤ least := by rcases hsh with ⟨_, _, _, rfl⟩ | ⟨_, _, _, rfl⟩ | ⟨_, _, _, rfl⟩ <;> omega
    omega
theorem no_sign (s : ByteArray) (h : ∀ i, i < s.size → signB (byt s i) = false) : ∀ k q, s.size - q ≤ k → ∀ c ∈ ptsAt s q, signB c = false := by
  intro k
  induction k with
  | zero => intro q hq; rw [ptsAt_end s q (by omega)]; simp
  | succ k ih =>
    intro q hq
    by_cases hlt : q < s.size
    · have hw := Lib.decode_width_pos s q hlt
      rw [ptsAt_step s q hlt]
      intro c hc
      rcases List.mem_cons.1 hc with rfl | hc
      · by_cases ha : ((Utf8.decode s q).1 : Int) < 128
        · rw [← dec_ascii s q ha]; exact h q hlt
        · unfold signB; rw [decide_eq_false_iff_not]; omega
      · exact ih _ (by omega) c hc
    · rw [ptsAt_end s q hlt]; simp
theorem ascii_mem (s : ByteArray) (i : Nat) (hi : i < s.size) (ha : byt s i < 128) : ∀ k q, i - q ≤ k → q ≤ i → byt s i ∈ ptsAt s q := by
  intro k
  induction k with
  | zero =>
    intro q h hq
    obtain rfl : q = i := by omega
    have hb := byt_bd s q
    rw [ptsAt_step s q hi, dec_low s q ha]
    simp only [List.mem_cons]; left; omega
  | succ k ih =>
    intro q h hq
    by_cases e : q = i
    · subst e
      have hb := byt_bd s q
      rw [ptsAt_step s q hi, dec_low s q ha]
      simp only [List.mem_cons]; left; omega
    · have hlt : q < s.size := by omega
      have hw := Lib.decode_width_pos s q hlt
      have hle : q + (Utf8.decode s q).2 ≤ i := by
        rcases dec_cases s q with ⟨h1, h2, _⟩ | ⟨_, h2, _⟩ | ⟨n, base, hi2, least, hsh, h1, h2, hwh⟩
        · rw [h2]; simp only; omega
        · rw [h2]; simp only; omega
        · rw [(dec_whole hsh h1 h2 hwh).1]
          simp only
          by_cases hc : q + n ≤ i
          · exact hc
          · have := hwh.2.1 (i - q) (by omega) (by omega)
            unfold contB at this
            rw [show q + (i - q) = i from by omega] at this
            omega
      rw [ptsAt_step s q hlt]
      exact List.mem_cons_of_mem _ (ih _ (by omega) hle)
theorem sign_name (s : ByteArray) (i : Nat) (hi : i < s.size) (h : signB (byt s i) = true) : nameL (pts s) = 10 := by
  unfold signB at h; rw [decide_eq_true_iff] at h
  have hm := ascii_mem s i hi (by omega) _ 0 (Nat.le_refl _) (Nat.zero_le _)
  have : (pts s).all inNameB = false := by
    rw [List.all_eq_false]
    refine ⟨_, hm, ?_⟩
    rcases h with h | h | h | h <;> rw [h] <;> decide
  unfold nameL; rw [if_pos (Or.inr (Or.inr (Or.inr this)))]
theorem parse_plain (L : List Int) (h : ∀ c ∈ L, signB c = false) : ∀ f k acc, L.length - k < f → parseGo L f k acc = .inl (acc ++ (L.drop k).map oneP)
  | 0, _, _, hf => by omega
  | f + 1, k, acc, hf => by
    simp only [parseGo]
    by_cases hk : k < L.length
    · have hs := h (L.getD k 0) (by rw [List.getD, List.getElem?_eq_getElem hk]; exact List.getElem_mem hk)
      unfold signB at hs; rw [decide_eq_false_iff_not] at hs
      rw [if_pos hk, if_neg (by omega), if_neg (by omega), if_neg (by omega), if_neg (by omega), parse_plain L h f (k + 1) _ (by omega), drop_cons hk]
      simp
    · rw [if_neg hk, List.drop_eq_nil_of_le (by omega)]; simp
theorem mt_plain : ∀ P S : List Int, mtB (P.map oneP) S = decide (P = S)
  | [], S => by cases S <;> simp [mtB]
  | x :: P, [] => by simp [mtB, oneP]
  | x :: P, c :: S => by
    have ih := mt_plain P S
    have e : takesB (oneP x) c = decide (x = c) := by
      unfold takesB oneP inSpan
      by_cases hxc : x = c
      · subst hxc; simp
      · have : (decide (x ≤ c) && decide (c ≤ x)) = false := by
          rw [Bool.and_eq_false_iff, decide_eq_false_iff_not, decide_eq_false_iff_not]; omega
        simp [this, hxc]
    simp only [List.map_cons, mtB]
    rw [show (oneP x).star = false from rfl, e, ih]
    rw [Bool.eq_iff_iff]; simp
theorem match_plain (p s : ByteArray) (h : ∀ i, i < p.size → signB (byt p i) = false) : parseF p = .inl ((pts p).map oneP) ∧ matchB p s = decide (pts p = pts s) := by
  have hp : parseF p = .inl ((pts p).map oneP) := by
    have h2 := parse_plain (pts p) (no_sign p h _ 0 (Nat.le_refl _)) ((pts p).length + 1) 0 [] (by omega)
    unfold parseF
    rw [h2]; simp
  exact ⟨hp, by unfold matchB; rw [hp]; exact mt_plain _ _⟩
theorem cmp_zero_iff (a b : List Int) : (cmpL a b == 0) = decide (a = b) := by
  rw [Bool.eq_iff_iff]; simp
  exact ⟨cmpL_zero a b, fun h => by rw [h]; exact cmpL_refl b⟩
theorem byt_get (p : ByteArray) {k : Nat} (h : k < p.size) : byt p k = (p[k].toNat : Int) := by
  exact (byt_eq p k h).symm

set_option maxRecDepth 100000 in
set_option maxHeartbeats 4000000 in
theorem law_plain (p s : ByteArray) (w : World) (hp : p.size ≤ 9223372036854775807) (hs : s.size ≤ 9223372036854775807) (hT : Tabs w) :
    Calls Tryd.prog 10 #[.string p, .string s] w fun e w' => e = .returned (.bool true) ∧ Below w.heap.size w w' := by
  have HT := Lib.hid hT
  clear hT
  by_cases h1 : 300 < p.size
  · have hbi : (300 : Int) < (p.size : Int) := by omega
    go_enter Tryd.func10, Tryd.ntmps10
    go_wp2_with fail
    refine (works_any _ HT.out).mono ?_
    rintro e w1 ⟨rfl, b1⟩
    go_wp2
    go_ret
    exact ⟨rfl, b1⟩
  by_cases h2 : 300 < s.size
  · have hbi : ¬ (300 : Int) < (p.size : Int) := by omega
    have hbi2 : (300 : Int) < (s.size : Int) := by omega
    go_enter Tryd.func10, Tryd.ntmps10
    go_wp2_with fail
    refine (works_any _ HT.out).mono ?_
    rintro e w1 ⟨rfl, b1⟩
    go_wp2
    go_ret
    exact ⟨rfl, b1⟩
  have hbi : ¬ (300 : Int) < (p.size : Int) := by omega
  have hbi2 : ¬ (300 : Int) < (s.size : Int) := by omega
  go_enter Tryd.func10, Tryd.ntmps10
  go_wp2_with fail
  refine (works_any _ HT.out).mono ?_
  rintro e w1 ⟨rfl, b1⟩
  go_wp2
  go_loopw [6] (fun i wr => ∃ k : Nat, k ≤ p.size ∧ i = .int .i64 k ∧ (∀ j, j < k → signB (byt p j) = false) ∧ wr = w1) (fun i _ => p.size - (intOf i).toNat)
  case atStart => exact ⟨0, by omega, rfl, by omega, rfl⟩
  case round =>
    obtain ⟨k, hk, rfl, hx, rfl⟩ := hrel
    have HX := Lib.hid hx
    clear hx
    by_cases hlt : k < p.size
    · have HB := Lib.hid (byt_get p hlt)
      by_cases hsg : signB (byt p k) = true
      · have HN := Lib.hid (sign_name p k hlt hsg)
        have HS := Lib.hid hsg
        clear hsg
        go_wp2_with (go_at_call 24; refine (name_any p _ (by omega)).mono ?_; rw [HN.out]; rintro e w2 ⟨rfl, b2⟩)
        case roundEnd =>
          exfalso
          have h := HS.out
          have hn : ((((p[k].toNat : Int) == 42) = false ∧ ((p[k].toNat : Int) == 63) = false) ∧ ((p[k].toNat : Int) == 91) = false) ∧ ((p[k].toNat : Int) == 92) = false := by assumption
          rw [HB.out] at h
          unfold signB at h
          rw [decide_eq_true_iff] at h
          simp only [beq_eq_false_iff_ne] at hn
          omega
        all_goals (go_ret; exact ⟨ret_bool rfl, bt b1 (by assumption)⟩)
      · have hsf : signB (byt p k) = false := by simpa using hsg
        have HS := Lib.hid hsf
        have HG : Hid (¬ ((p[k].toNat : Int) = 42 ∨ (p[k].toNat : Int) = 63 ∨ (p[k].toNat : Int) = 91 ∨ (p[k].toNat : Int) = 92)) := by
          show ¬ _
          rw [← HB.out]; unfold signB at hsf; exact of_decide_eq_false hsf
        have g1 : ((p[k].toNat : Int) == 42) = false := by rw [beq_eq_false_iff_ne]; have := HG.out; omega
        have g2 : ((p[k].toNat : Int) == 63) = false := by rw [beq_eq_false_iff_ne]; have := HG.out; omega
        have g3 : ((p[k].toNat : Int) == 91) = false := by rw [beq_eq_false_iff_ne]; have := HG.out; omega
        have g4 : ((p[k].toNat : Int) == 92) = false := by rw [beq_eq_false_iff_ne]; have := HG.out; omega
        clear hsg hsf
        go_wp2
        go_roundw
        case rel =>
          refine ⟨k + 1, by omega, by go_num, fun j hj => ?_, trivial⟩
          by_cases e : j = k
          · rw [e]; exact HS.out
          · exact HX.out j (by omega)
        case measure => simp [intOf]; omega
    · have hm := match_plain p p (fun i hi => HX.out i (by omega))
      have hm2 := match_plain p s (fun i hi => HX.out i (by omega))
      have HE : Hid (patE p = 0) := by show _ = _; unfold patE; rw [hm.1]
      have HM1 : Hid (matchB p p = true) := by show _ = _; rw [hm.2]; simp
      have HM2 := Lib.hid hm2.2
      have HC := Lib.hid (cmp_zero_iff (pts p) (pts s))
      clear hm hm2
      go_wp2_with fail
      refine (pattern_any p _ (by omega)).mono ?_
      rw [HE.out]
      rintro e w2 ⟨rfl, b2⟩
      have c2 := bt b1 b2
      clear b1 b2
      go_wp2_with fail
      refine (match_any p p _ (by omega) (by omega)).mono ?_
      rw [HM1.out]
      rintro e w3 ⟨rfl, b3⟩
      have c3 := bt c2 b3
      clear c2 b3
      go_wp2_with fail
      refine (match_any p s _ (by omega) (by omega)).mono ?_
      rw [HM2.out]
      rintro e w4 ⟨rfl, b4⟩
      have c4 := bt c3 b4
      clear c3 b4
      go_wp2_with fail
      refine (cmp_any p s _ (by omega) (by omega) (HT.out.below c4)).mono ?_
      rintro e w5 ⟨rfl, b5⟩
      have c5 := bt c4 b5
      clear c4 b5
      generalize decide (pts p = pts s) = d at *
      generalize cmpL (pts p) (pts s) = z at *
      have hz : (d == (z == 0)) = true := by rw [HC.out]; simp
      go_wp2
      go_ret
      exact ⟨ret_bool rfl, c5⟩
end Go.Proofs.YthkkphfnfggpaaaDoor
