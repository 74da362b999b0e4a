/- THE LAW ClockLemma: a server's lease is not valid any more when a master has waited it out, if clocks ticked as they should. -/
import Derived.Test.YtckbbakajabhmaaDuoW
import Derived.Deep.Cut
import Derived.Test.YtckbbakajabhmaaLemG1
import Derived.Test.YtckbbakajabhmaaLemG2
import Derived.Test.YtckbbakajabhmaaLemG3
import Derived.Test.YtckbbakajabhmaaLemG4
namespace Go.Proofs.Ytckbbakajabhmaa
open Go.RowKit Go.Maps

/-- how often j ticked ahead of a place -/
def cnt (l : List Int) (k : Nat) (j : Int) : Nat := (seg l 0 k).count j
/-- the leases, the waits at the beginning of a round -/
def gA (l : List Int) (A : Nat) (j le : Int) (k : Nat) : G := if A < k then grantG noG 1 ((cnt l A j : Int) + le) else noG
def vB (l : List Int) (B : Nat) (m : Int) (k : Nat) : G := if B < k then noteG noG 1 (cnt l B m : Int) else noG
theorem gA_at (l : List Int) (A : Nat) (j le : Int) : gA l A j le A = noG ∧ gA l A j le (A + 1) = grantG noG 1 ((cnt l A j : Int) + le) := by
  unfold gA; rw [if_neg (by omega), if_pos (by omega)]; exact ⟨rfl, rfl⟩
theorem gA_off {l : List Int} {A k : Nat} (h : k ≠ A) (j le : Int) : gA l A j le (k + 1) = gA l A j le k := by
  unfold gA
  by_cases c : A < k
  · rw [if_pos c, if_pos (by omega)]
  · rw [if_neg c, if_neg (by omega)]
theorem vB_at (l : List Int) (B : Nat) (m : Int) : vB l B m B = noG ∧ vB l B m (B + 1) = noteG noG 1 (cnt l B m : Int) := by
  unfold vB; rw [if_neg (by omega), if_pos (by omega)]; exact ⟨rfl, rfl⟩
theorem vB_off {l : List Int} {B k : Nat} (h : k ≠ B) (m : Int) : vB l B m (k + 1) = vB l B m k := by
  unfold vB
  by_cases c : B < k
  · rw [if_pos c, if_pos (by omega)]
  · rw [if_neg c, if_neg (by omega)]
/-- what the clocks show -/
def Shows (N : Nat) (l : List Int) (k : Nat) (f : F) : Prop := ∀ j, isC N j = true → f j = cnt l k j
theorem shows_start (N : Nat) (l : List Int) : Shows N l 0 (fun _ => 0) := fun j _ => by unfold cnt; rw [seg_self]; rfl
theorem shows_tick {N : Nat} {l : List Int} {k : Nat} {f : F} {x : Int} (h : Shows N l k f) (hx : l[k]? = some x) : Shows N l (k + 1) (tickF N f x) := fun j hj => by
  unfold cnt
  rw [seg_snoc hx (Nat.zero_le _)]
  unfold tickF
  by_cases e : x = j
  · subst e
    rw [if_pos hj, if_pos rfl]
    simp only [if_true]
    rw [h _ hj]; rfl
  · rw [if_neg e, Nat.add_zero]
    have e' : ¬ j = x := fun c => e c.symm
    split
    · simp only [if_neg e']; exact h j hj
    · exact h j hj
theorem shows_end {N : Nat} {l : List Int} {k : Nat} {f : F} (h : Shows N l k f) (hk : l.length ≤ k) : Shows N l (k + 1) f := fun j hj => by
  rw [h j hj]
  unfold cnt
  rw [seg_zero, seg_zero, List.take_of_length_le hk, List.take_of_length_le (by omega)]
theorem cnt_le (l : List Int) (k : Nat) (j : Int) : cnt l k j ≤ l.length := by
  unfold cnt
  rw [seg_zero]
  exact Nat.le_trans List.count_le_length (by rw [List.length_take]; omega)
theorem ends_v (l : List Int) (B : Nat) (m : Int) (k : Nat) (hl : l.length ≤ 1048576) : Ends (vB l B m k) := by
  unfold vB
  have := cnt_le l B m
  split
  · exact ends_note ends_no 1 ⟨by omega, by omega⟩
  · exact ends_no
/-- the lemma itself -/
theorem lemma_leases {l : List Int} {ms sv wt le : Int} (h : Steady l ms sv wt le) {A B i : Nat} {m : Int} {s : Nat} (hs : (s : Int) < sv) (hm : 0 ≤ m) (hms : m < ms) (hAB : A ≤ B) (hBi : B ≤ i) (hil : i ≤ l.length) (hw : 1 ≤ wt)
    (ho : overG (vB l B m (i + 1)) 1 (cnt l i m : Int) wt = true) : validG (gA l A (ms + s) le (i + 1)) 1 (cnt l i (ms + s) : Int) = false := by
  have e1 : vB l B m (i + 1) = noteG noG 1 (cnt l B m : Int) := by unfold vB; rw [if_pos (by omega)]
  have e2 : gA l A (ms + s) le (i + 1) = grantG noG 1 ((cnt l A (ms + s) : Int) + le) := by unfold gA; rw [if_pos (by omega)]
  rw [e1] at ho
  rw [e2]
  have ho' : (decide ((cnt l B m : Int) ≤ (cnt l i m : Int)) && decide (wt ≤ (cnt l i m : Int) - (cnt l B m : Int))) = true := ho
  rw [Bool.and_eq_true] at ho'
  have h1 := of_decide_eq_true ho'.2
  have s1 := seg_split l (Nat.zero_le B) hBi m
  have s2 := seg_split l (Nat.zero_le A) (Nat.le_trans hAB hBi) (ms + s)
  have s3 := seg_split l hAB hBi (ms + s)
  unfold cnt at h1
  have h2 := steady_end h hs hm hms hBi hil hw (by omega)
  show decide ((cnt l i (ms + s) : Int) < (cnt l A (ms + s) : Int) + le) = false
  rw [decide_eq_false]
  unfold cnt
  omega
section
variable {S : Nat → Prop} {w : World} {cb n N : Nat} {f : F} {lb ln : Nat} {g : G} {wb wn : Nat} {v : G}
theorem Trio.more {n' ln' wn' : Nat} (h : Trio cb n N f lb ln g wb wn v S w) (h1 : n ≤ n') (h2 : ln ≤ ln') (h3 : wn ≤ wn') : Trio cb n' N f lb ln' g wb wn' v S w := by
  obtain ⟨Sa, Sb, ⟨Sc, Sd, q1, q2, r⟩, q3, r'⟩ := h
  refine ⟨Sa, Sb, ⟨Sc, Sd, ?_, TabAt.more q2 h2, r⟩, TabAt.more q3 h3, r'⟩
  obtain ⟨mb, g, t1, t2, t3, t4, t5, t6, t7⟩ := q1
  exact ⟨mb, g, t1, t2, t3, t4, t5.mono h1, t6, fun x => Nat.le_trans (t7 x) h1⟩
end
set_option maxRecDepth 100000 in
set_option maxHeartbeats 8000000 in
theorem ClockLemma_law {w : World} {lv : Value} {l : List Int} {ms sv m s fr la wt le : Int} (h : Run (fun k => k < w.heap.size) w lv l.length (intsC l)) (hi64 : ∀ x ∈ l, I64 x) (hl : l.length ≤ 9223372036854775807) :
    Calls Try.prog 7 #[lv, .int .i64 ms, .int .i64 sv, .int .i64 m, .int .i64 s, .int .i64 fr, .int .i64 la, .int .i64 wt, .int .i64 le] w fun e w' => e = .returned (.bool true) ∧ Below w.heap.size w w' := by
  by_cases q0 : 300 < (l.length : Int)
  · exact lemma_g0 h q0
  by_cases q1 : ms < 1
  · exact lemma_g1 h q0 q1
  by_cases q2 : 20 < ms
  · exact lemma_g2 h q0 q1 q2
  by_cases q3 : sv < 1
  · exact lemma_g3 h q0 q1 q2 q3
  by_cases q4 : 20 < sv
  · exact lemma_g4 h q0 q1 q2 q3 q4
  by_cases q5 : m < 0
  · exact lemma_g5 h q0 q1 q2 q3 q4 q5
  by_cases q6 : ms ≤ m
  · exact lemma_g6 h q0 q1 q2 q3 q4 q5 q6
  by_cases q7 : s < 0
  · exact lemma_g7 h q0 q1 q2 q3 q4 q5 q6 q7
  by_cases q8 : sv ≤ s
  · exact lemma_g8 h q0 q1 q2 q3 q4 q5 q6 q7 q8
  by_cases q9 : fr < 0
  · exact lemma_g9 h q0 q1 q2 q3 q4 q5 q6 q7 q8 q9
  by_cases q10 : la < fr
  · exact lemma_g10 h q0 q1 q2 q3 q4 q5 q6 q7 q8 q9 q10
  by_cases q11 : (l.length : Int) < la
  · exact lemma_g11 h q0 q1 q2 q3 q4 q5 q6 q7 q8 q9 q10 q11
  by_cases q12 : wt < 1
  · exact lemma_g12 h q0 q1 q2 q3 q4 q5 q6 q7 q8 q9 q10 q11 q12
  by_cases q13 : 1000 < wt
  · exact lemma_g13 h q0 q1 q2 q3 q4 q5 q6 q7 q8 q9 q10 q11 q12 q13
  by_cases q14 : le < 0
  · exact lemma_g14 h q0 q1 q2 q3 q4 q5 q6 q7 q8 q9 q10 q11 q12 q13 q14
  by_cases q15 : 1000 < le
  · exact lemma_g15 h q0 q1 q2 q3 q4 q5 q6 q7 q8 q9 q10 q11 q12 q13 q14 q15
  have g1 : (l.length : Int) ≤ 300 := by omega
  have d0 : decide (300 < (l.length : Int)) = false := decide_eq_false q0
  have g2 : 1 ≤ ms := by omega
  have d1 : decide (ms < 1) = false := decide_eq_false q1
  have g3 : ms ≤ 20 := by omega
  have d2 : decide (20 < ms) = false := decide_eq_false q2
  have g4 : 1 ≤ sv := by omega
  have d3 : decide (sv < 1) = false := decide_eq_false q3
  have g5 : sv ≤ 20 := by omega
  have d4 : decide (20 < sv) = false := decide_eq_false q4
  have g6 : 0 ≤ m := by omega
  have d5 : decide (m < 0) = false := decide_eq_false q5
  have g7 : m < ms := by omega
  have d6 : decide (ms ≤ m) = false := decide_eq_false q6
  have g8 : 0 ≤ s := by omega
  have d7 : decide (s < 0) = false := decide_eq_false q7
  have g9 : s < sv := by omega
  have d8 : decide (sv ≤ s) = false := decide_eq_false q8
  have g10 : 0 ≤ fr := by omega
  have d9 : decide (fr < 0) = false := decide_eq_false q9
  have g11 : fr ≤ la := by omega
  have d10 : decide (la < fr) = false := decide_eq_false q10
  have g12 : la ≤ (l.length : Int) := by omega
  have d11 : decide ((l.length : Int) < la) = false := decide_eq_false q11
  have g13 : 1 ≤ wt := by omega
  have d12 : decide (wt < 1) = false := decide_eq_false q12
  have g14 : wt ≤ 1000 := by omega
  have d13 : decide (1000 < wt) = false := decide_eq_false q13
  have g15 : 0 ≤ le := by omega
  have d14 : decide (le < 0) = false := decide_eq_false q14
  have g16 : le ≤ 1000 := by omega
  have d15 : decide (1000 < le) = false := decide_eq_false q15
  clear q0 q1 q2 q3 q4 q5 q6 q7 q8 q9 q10 q11 q12 q13 q14 q15
  have HW := Lib.hid (works_any w)
  have H := Lib.hid h
  have H64 := Lib.hid hi64
  obtain ⟨a, c, rfl, hac⟩ := h.slice
  clear h hi64
  go_enter Try.func7, Try.ntmps7
  go_wp2_with fail
  refine HW.out.mono ?_
  rintro e w1 ⟨rfl, b1⟩
  have HB1 := Lib.hid b1
  clear b1
  go_upto_region 4 with fail
  go_cut [95] (fun t wx => t = .bool false ∧ wx = w1)
  case first =>
    go_wp2
    go_meet
    exact ⟨rfl, rfl⟩
  obtain ⟨rfl, rfl⟩ := hcut
  clear d0 d1 d2 d3 d4 d5 d6 d7 d8 d9 d10 d11 d12 d13 d14 d15
  have hl3 : l.length ≤ 1048576 := by omega
  go_wp2_with fail
  refine (Drift_any (sv := sv) (H.out.now HB1.out) H64.out hl3 ⟨by omega, by omega⟩ ⟨by omega, by omega⟩ ⟨by omega, by omega⟩).mono ?_
  rintro e w2 ⟨⟨b, rfl, hb⟩, b2⟩
  have HB2 := Lib.hid (bw HB1.out b2)
  have HST : Hid (b = true → Steady l ms sv wt le) := hb.1
  clear b2 hb
  go_wp2_with fail
  refine (CNew_any (S := fun k => w.heap.size ≤ k) w2 (fun k hk => Nat.le_trans HB2.out.size hk) (ms + sv) (by omega)).mono ?_
  rintro e w3 ⟨rfl, hc3, b3⟩
  have HC3 := Lib.hid hc3
  have HB3 := Lib.hid (bw HB2.out b3)
  obtain ⟨N, hN⟩ : ∃ N, N = (ms + sv).toNat := ⟨_, rfl⟩
  rw [← hN] at HC3
  have hNi : (N : Int) = ms + sv := by omega
  clear b3 hc3 hN
  obtain ⟨sN, rfl⟩ : ∃ sN : Nat, s = sN := ⟨s.toNat, by omega⟩
  obtain ⟨A, rfl⟩ : ∃ A : Nat, fr = A := ⟨fr.toNat, by omega⟩
  obtain ⟨B, rfl⟩ : ∃ B : Nat, la = B := ⟨la.toNat, by omega⟩
  go_wp2
  go_loopw [24] (fun i wr => ∃ (k : Nat) (f : F), k ≤ l.length + 1 ∧ i = .int .i64 (k : Int) ∧ Hid (Trio (w2.heap.size + 1) k N f w3.heap.size k (gA l A (ms + (sN : Int)) le k) (w3.heap.size + 1) k (vB l B m k) (fun k => w.heap.size ≤ k) wr) ∧ Hid (Shows N l k f) ∧ Hid (Below w.heap.size w wr)) (fun i _ => l.length + 1 - (intOf i).toNat)
  case atStart =>
    refine ⟨0, _, Nat.zero_le _, rfl, ?_, shows_start _ _, (HB3.out.alloc HB3.out.size _).alloc (by have := HB3.out.size; simp; omega) _⟩
    exact trio_new HC3.out (fun k hk => Nat.le_trans HB3.out.size hk) rfl rfl rfl
  case round =>
    obtain ⟨k, f, hk, rfl, HT, HF, HB⟩ := hrel
    by_cases hlt : k ≤ l.length
    · have hlti : (k : Int) ≤ (l.length : Int) := by omega
      have hJ : isC N (ms + (sN : Int)) = true := by unfold isC; rw [decide_eq_true (by omega), decide_eq_true (by omega)]; rfl
      have hM : isC N m = true := by unfold isC; rw [decide_eq_true (by omega), decide_eq_true (by omega)]; rfl
      have HNJ : Hid (nowF N f (ms + (sN : Int)) = cnt l k (ms + (sN : Int))) := by show _ = _; unfold nowF; rw [if_pos hJ]; exact HF.out _ hJ
      have HNM : Hid (nowF N f m = cnt l k m) := by show _ = _; unfold nowF; rw [if_pos hM]; exact HF.out _ hM
      have hcj := cnt_le l k (ms + (sN : Int))
      have hcm := cnt_le l k m
      clear hJ hM
      have hj1 : -9223372036854775808 ≤ ms + (sN : Int) := by omega
      have hj2 : ms + (sN : Int) ≤ 9223372036854775807 := by omega
      have IJ : I64 (ms + (sN : Int)) := ⟨hj1, hj2⟩
      have IM : I64 m := ⟨by omega, by omega⟩
      have HS : Hid (∀ j, wr.heap.size ≤ j → w.heap.size ≤ j) := fun j hj => Nat.le_trans HB.out.size hj
      obtain ⟨cj, hcje⟩ : ∃ cj, cj = cnt l k (ms + (sN : Int)) := ⟨_, rfl⟩
      obtain ⟨cm, hcme⟩ : ∃ cm, cm = cnt l k m := ⟨_, rfl⟩
      rw [← hcje] at HNJ hcj
      rw [← hcme] at HNM hcm
      have HCJ := Lib.hid hcje
      have HCM := Lib.hid hcme
      have hci : (cj : Int) ≤ 300 := by omega
      have hcmi : (cm : Int) ≤ 300 := by omega
      have hk5 : k ≤ 301 := by omega
      clear hcje hcme
      go_upto_if 119 with fail
      go_cut [] (fun wx => Hid (Trio (w2.heap.size + 1) k N f w3.heap.size (k + 1) (gA l A (ms + (sN : Int)) le (k + 1)) (w3.heap.size + 1) k (vB l B m k) (fun k => w.heap.size ≤ k) wx) ∧ Hid (Below w.heap.size w wx))
      case first =>
        by_cases hkA : k = A
        · subst hkA
          have ht := HT.out
          rw [(gA_at l k (ms + (sN : Int)) le).1] at ht
          have hn1 := Now_any ht.clk IJ
          rw [HNJ.out] at hn1
          have HN1 := Lib.hid hn1
          have HG : Hid (grantG noG 1 ((cj : Int) + le) = gA l k (ms + (sN : Int)) le (k + 1)) := by show _ = _; rw [(gA_at _ _ _ _).2, HCJ.out]
          have HTT := Lib.hid ht
          clear ht hn1
          go_wp2_with fail
          refine HN1.out.mono ?_
          rintro e wx ⟨rfl, rfl⟩
          go_wp2_with fail
          refine (HTT.out.grant HS.out (k := 1) (u := (cj : Int) + le) ⟨by omega, by omega⟩ (by unfold maxLen; omega)).mono ?_
          rintro e w5 ⟨rfl, ht5, k5⟩
          have HT5 := Lib.hid ht5
          have K5 := Lib.hid k5
          clear ht5 k5
          go_wp2
          go_meet
          exact ⟨by rw [← HG.out]; exact HT5.out, HB.out.trans (K5.out.below HB.out.size (fun _ h => h))⟩
        · have hne : ¬ (k : Int) = (A : Int) := by omega
          have hne2 : ((k : Int) == (A : Int)) = false := by rw [beq_eq_false_iff_ne]; exact hne
          go_wp2
          go_meet
          exact ⟨by rw [gA_off hkA]; exact Trio.more HT.out (Nat.le_refl _) (Nat.le_succ _) (Nat.le_refl _), HB⟩
      obtain ⟨HT1, HBa⟩ := hcut
      obtain ⟨wa, hwa⟩ : ∃ wa, wa = wc := ⟨_, rfl⟩
      subst hwa
      have HSa : Hid (∀ j, wa.heap.size ≤ j → w.heap.size ≤ j) := fun j hj => Nat.le_trans HBa.out.size hj
      go_upto_if 131 with fail
      go_cut [] (fun wx => Hid (Trio (w2.heap.size + 1) k N f w3.heap.size (k + 1) (gA l A (ms + (sN : Int)) le (k + 1)) (w3.heap.size + 1) (k + 1) (vB l B m (k + 1)) (fun k => w.heap.size ≤ k) wx) ∧ Hid (Below w.heap.size w wx))
      case first =>
        by_cases hkB : k = B
        · subst hkB
          have ht := HT1.out
          rw [(vB_at l k m).1] at ht
          have hn1 := Now_any ht.clk IM
          rw [HNM.out] at hn1
          have HN1 := Lib.hid hn1
          have HG : Hid (noteG noG 1 (cm : Int) = vB l k m (k + 1)) := by show _ = _; rw [(vB_at _ _ _).2, HCM.out]
          have HTT := Lib.hid ht
          clear ht hn1
          go_wp2_with fail
          refine HN1.out.mono ?_
          rintro e wx ⟨rfl, rfl⟩
          go_wp2_with fail
          refine (HTT.out.note HSa.out (k := 1) (u := (cm : Int)) ⟨by omega, by omega⟩ (by unfold maxLen; omega)).mono ?_
          rintro e w5 ⟨rfl, ht5, k5⟩
          have HT5 := Lib.hid ht5
          have K5 := Lib.hid k5
          clear ht5 k5
          go_wp2
          go_meet
          exact ⟨by rw [← HG.out]; exact HT5.out, HBa.out.trans (K5.out.below HBa.out.size (fun _ h => h))⟩
        · have hne : ¬ (k : Int) = (B : Int) := by omega
          have hne2 : ((k : Int) == (B : Int)) = false := by rw [beq_eq_false_iff_ne]; exact hne
          go_wp2
          go_meet
          exact ⟨by rw [vB_off hkB]; exact Trio.more HT1.out (Nat.le_refl _) (Nat.le_refl _) (Nat.le_succ _), HBa⟩
      obtain ⟨HT2, HBb⟩ := hcut
      obtain ⟨wb, hwb⟩ : ∃ wb, wb = wc := ⟨_, rfl⟩
      subst hwb
      have HSb : Hid (∀ j, wb.heap.size ≤ j → w.heap.size ≤ j) := fun j hj => Nat.le_trans HBb.out.size hj
      have hnj := Now_any HT2.out.clk IJ
      have hnm := Now_any HT2.out.clk IM
      rw [HNJ.out] at hnj
      rw [HNM.out] at hnm
      have HN1 := Lib.hid hnj
      have HN2 := Lib.hid hnm
      have HOV := Lib.hid (Over_any HT2.out.waits (ends_v l B m (k + 1) (by omega)) (k := 1) (now := (cm : Int)) (wait := wt) ⟨by omega, by omega⟩ ⟨by omega, by omega⟩ ⟨by omega, by omega⟩)
      have HVA := Lib.hid (Valid_any HT2.out.leases (k := 1) ⟨by omega, by omega⟩ (cj : Int))
      clear hnj hnm
      go_upto_region 17 with fail
      go_cut [159] (fun t wx => t = .bool false ∧ wx = wb)
      case first =>
        cases b with
        | false =>
          go_wp2
          go_meet
          exact ⟨rfl, rfl⟩
        | true =>
          by_cases hBk : B ≤ k
          · have hBi : (B : Int) ≤ (k : Int) := by omega
            have hln := lemma_leases (HST.out rfl) (A := A) (B := B) (i := k) (m := m) (s := sN) g9 g6 g7 (by omega) hBk (by omega) g13
            rw [← HCJ.out, ← HCM.out] at hln
            generalize hoo : overG (vB l B m (k + 1)) 1 (cm : Int) wt = oo at HOV hln
            generalize hvv : validG (gA l A (ms + (sN : Int)) le (k + 1)) 1 (cj : Int) = vv at HVA hln
            clear hoo hvv
            cases oo with
            | false =>
              clear hln
              go_wp2_with fail
              refine HN2.out.mono ?_
              rintro e wx ⟨rfl, rfl⟩
              go_wp2_with fail
              refine HOV.out.mono ?_
              rintro e wx ⟨rfl, rfl⟩
              go_wp2
              go_meet
              exact ⟨rfl, rfl⟩
            | true =>
              have hv0 := hln rfl
              subst hv0
              clear hln
              go_wp2_with fail
              refine HN2.out.mono ?_
              rintro e wx ⟨rfl, rfl⟩
              go_wp2_with fail
              refine HOV.out.mono ?_
              rintro e wx ⟨rfl, rfl⟩
              go_wp2_with fail
              refine HN1.out.mono ?_
              rintro e wx ⟨rfl, rfl⟩
              go_wp2_with fail
              refine HVA.out.mono ?_
              rintro e wx ⟨rfl, rfl⟩
              go_wp2
              go_meet
              exact ⟨rfl, rfl⟩
          · have hBi : (k : Int) < (B : Int) := by omega
            go_wp2
            go_meet
            exact ⟨rfl, rfl⟩
      obtain ⟨rfl, rfl⟩ := hcut
      obtain ⟨wb, hwb⟩ : ∃ wb, wb = wc := ⟨_, rfl⟩
      subst hwb
      by_cases hkl : k < l.length
      · have hkli : (k : Int) < (l.length : Int) := by omega
        obtain ⟨x, hx⟩ : ∃ x, l[k]? = some x := ⟨_, List.getElem?_eq_getElem hkl⟩
        have hx64 := H64.out x (List.mem_of_getElem? hx)
        obtain ⟨b', off, rfl, hb1, hb2, hb3⟩ := Run.get (j := k) H.out (by omega) (by rw [intsC, List.getElem?_map, hx]; rfl)
        have hcx : wb.cell? ⟨b', off + k, none⟩ = some (.int .i64 x) := (HBb.out.cell (p := ⟨b', off + k, none⟩) hb2).trans hb3
        have HF2 := Lib.hid (shows_tick HF.out hx)
        clear hx hb3
        go_wp2_with fail
        refine (HT2.out.tick HSb.out hx64 (by omega)).mono ?_
        rintro e w6 ⟨rfl, ht6, k6⟩
        have HT6 := Lib.hid ht6
        have HB6 : Hid (Below w.heap.size w w6) := HBb.out.trans (k6.below HBb.out.size (fun _ h => h))
        clear ht6 k6
        go_wp2
        go_roundw
        case rel => exact ⟨k + 1, _, by omega, by go_num, HT6.out, HF2, HB6⟩
        case measure => simp [intOf]; omega
      · have hkli : ¬ (k : Int) < (l.length : Int) := by omega
        have HF2 := Lib.hid (shows_end HF.out (Nat.le_of_not_lt hkl))
        go_wp2
        go_roundw
        case rel => exact ⟨k + 1, f, by omega, by go_num, Trio.more HT2.out (Nat.le_succ _) (Nat.le_refl _) (Nat.le_refl _), HF2, HBb⟩
        case measure => simp [intOf]; omega
    · have hlti : ¬ (k : Int) ≤ (l.length : Int) := by omega
      go_wp2
      go_ret
      exact ⟨rfl, HB.out⟩
end Go.Proofs.Ytckbbakajabhmaa
