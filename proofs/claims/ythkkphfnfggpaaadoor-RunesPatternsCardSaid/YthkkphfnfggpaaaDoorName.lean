/- the reference's Cmp; names. -/
import Derived.Test.YthkkphfnfggpaaaDoorSame
namespace Go.Proofs.YthkkphfnfggpaaaDoor
open Go.RowKit

theorem drop_cons {l : List Int} {k : Nat} (h : k < l.length) : l.drop k = l.getD k 0 :: l.drop (k + 1) := by
  rw [List.drop_eq_getElem_cons h]; simp [List.getD, h]

set_option maxHeartbeats 2000000 in
theorem refCmp_any (a b : ByteArray) (w : World) (ha : a.size ≤ 1099511627776) (hb : b.size ≤ 1099511627776) :
    Calls Tryd.prog 23 #[.string a, .string b] w fun e w' => e = .returned (.int .i64 (cmpL (pts a) (pts b))) ∧ Below w.heap.size w w' := by
  have la := pts_len a
  have lb := pts_len b
  go_enter Tryd.func23, Tryd.ntmps23
  go_wp2_with fail
  refine (refPoints_any a _ ha).mono ?_
  rintro e w1 ⟨v1, rfl, hown1, hb1⟩
  go_wp2_with fail
  refine (refPoints_any b _ hb).mono ?_
  rintro e w2 ⟨v2, rfl, hown2, hb2⟩
  have hl1 := (ListAt.of_own hown1).below hb2
  have hl2 := ListAt.of_own hown2
  have hb3 := bt hb1 hb2
  clear hown1 hown2 hb1 hb2
  obtain ⟨_, aa, capa, rfl, _, hca⟩ := hl1
  obtain ⟨_, ab, capb, rfl, _, hcb⟩ := hl2
  generalize hga : pts a = A at *
  generalize hgb : pts b = B at *
  have HGA := Lib.hid hga
  have HGB := Lib.hid hgb
  clear hga hgb
  have HCA := Lib.hid hca
  have HCB := Lib.hid hcb
  clear hca hcb
  go_wp2
  go_loopw [7] (fun i wr => ∃ k : Nat, k ≤ A.length ∧ k ≤ B.length ∧ i = .int .i64 k ∧ cmpL (A.drop k) (B.drop k) = cmpL A B ∧ Below w2.heap.size w2 wr) (fun i _ => A.length - (intOf i).toNat)
  case atStart => exact ⟨0, by omega, by omega, rfl, rfl, Below.refl _ _⟩
  case round =>
    obtain ⟨k, hk, hkb, rfl, hx, hbw⟩ := hrel
    have HX := Lib.hid hx
    have hb4 := bt hb3 hbw
    clear hx
    by_cases hlt : k < A.length
    · by_cases hltb : k < B.length
      · obtain ⟨ba, offa, rfl, hba, hca⟩ := HCA.out.resolve_left (by omega)
        obtain ⟨bb, offb, rfl, hbb, hcb⟩ := HCB.out.resolve_left (by omega)
        have c1 : wr.cell? ⟨ba, offa + k, none⟩ = some (.int .i32 (A.getD k 0)) := (hbw.cell (p := ⟨ba, offa + k, none⟩) hba).trans (ListAt.i32 hca k hlt)
        have c2 : wr.cell? ⟨bb, offb + k, none⟩ = some (.int .i32 (B.getD k 0)) := (hbw.cell (p := ⟨bb, offb + k, none⟩) hbb).trans (ListAt.i32 hcb k hltb)
        clear hca hcb
        have HS : Hid (cmpL (A.drop k) (B.drop k) = if A.getD k 0 < B.getD k 0 then -1 else if B.getD k 0 < A.getD k 0 then 1 else cmpL (A.drop (k + 1)) (B.drop (k + 1))) := by
          show _ = _
          rw [drop_cons hlt, drop_cons hltb]; rfl
        generalize A.getD k 0 = xa at *
        generalize B.getD k 0 = xb at *
        rcases Int.lt_trichotomy xa xb with h | h | h
        · go_wp2
          go_quiet (fail)
          go_wp2
          go_ret
          exact ⟨ret_int (by rw [HGA.out, HGB.out, ← HX.out, HS.out, if_pos h]), below_drewN hb4 _⟩
        · subst h
          go_wp2
          go_quiet (fail)
          go_wp2
          go_quiet (fail)
          go_wp2
          go_roundw
          case rel => exact ⟨k + 1, by omega, by omega, by go_num, by rw [← HX.out, HS.out]; simp, below_drewN hbw _⟩
          case measure => simp [intOf]; omega
        · go_wp2
          go_quiet (fail)
          go_wp2
          go_quiet (fail)
          go_wp2
          go_ret
          exact ⟨ret_int (by rw [HGA.out, HGB.out, ← HX.out, HS.out, if_neg (by omega), if_pos h]), by first | exact below_drewN hb4 _ | exact below_drewN (below_drewN hb4 _) _⟩
      · have HS : Hid (cmpL (A.drop k) (B.drop k) = 1) := by
          show _ = _
          rw [drop_cons hlt, show B.drop k = [] from List.drop_eq_nil_of_le (by omega)]; rfl
        go_wp2
        go_ret
        exact ⟨ret_int (by rw [HGA.out, HGB.out, ← HX.out, HS.out]), hb4⟩
    · by_cases hltb : k < B.length
      · have HS : Hid (cmpL (A.drop k) (B.drop k) = -1) := by
          show _ = _
          rw [drop_cons hltb, show A.drop k = [] from List.drop_eq_nil_of_le (by omega)]; rfl
        go_wp2
        go_ret
        exact ⟨ret_int (by rw [HGA.out, HGB.out, ← HX.out, HS.out]), hb4⟩
      · have HS : Hid (cmpL (A.drop k) (B.drop k) = 0) := by
          show _ = _
          rw [List.drop_eq_nil_of_le (by omega), List.drop_eq_nil_of_le (by omega)]; rfl
        go_wp2
        go_ret
        exact ⟨ret_int (by rw [HGA.out, HGB.out, ← HX.out, HS.out]), hb4⟩

def inNameB (c : Int) : Bool := decide ((48 ≤ c ∧ c ≤ 57) ∨ (65 ≤ c ∧ c ≤ 90) ∨ (97 ≤ c ∧ c ≤ 122) ∨ c = 46 ∨ c = 45 ∨ c = 95 ∨ (161 ≤ c ∧ c ≠ 65533))
set_option maxHeartbeats 1000000 in
theorem inName_any (c : Int) (w : World) :
    Calls Tryd.prog 36 #[.int .i32 c] w fun e w' => e = .returned (.bool (inNameB c)) ∧ w = w' := by
  go_enter Tryd.func36, Tryd.ntmps36
  go_wp2
  all_goals go_ret
  all_goals refine ⟨ret_bool ?_, rfl⟩
  all_goals (rw [Bool.eq_iff_iff]; simp only [inNameB, Bool.or_eq_true, Bool.and_eq_true, decide_eq_true_eq, beq_iff_eq, bne_iff_ne, beq_eq_false_iff_ne, ne_eq, Bool.false_eq_true, true_iff, false_iff] at *; first | omega | (simp only [or_true, true_or]))
set_option maxHeartbeats 1000000 in
theorem sign_any (c : Int) (w : World) :
    Calls Tryd.prog 37 #[.int .i32 c] w fun e w' => e = .returned (.bool (inNameB c)) ∧ w = w' := by
  go_enter Tryd.func37, Tryd.ntmps37
  go_wp2
  all_goals go_ret
  all_goals refine ⟨ret_bool ?_, rfl⟩
  all_goals (rw [Bool.eq_iff_iff]; simp only [inNameB, Bool.or_eq_true, Bool.and_eq_true, decide_eq_true_eq, beq_iff_eq, bne_iff_ne, beq_eq_false_iff_ne, ne_eq, Bool.false_eq_true, true_iff, false_iff] at *; first | omega | (simp only [or_true, true_or]))

/-- what is wrong with a name, by its code points -/
def nameL (l : List Int) : Int := if l = [] ∨ l.getD 0 0 = 46 ∨ l.getD 0 0 = 45 ∨ l.all inNameB = false then 10 else if 32 < l.length then 11 else 0
theorem bad_of_invalid (s : ByteArray) : ∀ k p, s.size - p ≤ k → valAt s p = false → (65533 : Int) ∈ ptsAt s p := by
  intro k
  induction k with
  | zero => intro p h hv; rw [valAt_end s p (by omega)] at hv; cases hv
  | succ k ih =>
    intro p h hv
    by_cases hp : p < s.size
    · have hw := Lib.decode_width_pos s p hp
      rw [valAt_step s p hp] at hv
      rw [ptsAt_step s p hp]
      cases ho : okAt s p
      · have := okAt_iff s p
        rw [ho] at this
        have h2 : (Utf8.decode s p).1 = 65533 := by
          by_cases e : (Utf8.decode s p).1 = 65533
          · exact e
          · exact absurd (this.2 (fun x => e x.1)) (by simp)
        rw [h2]; simp
      · rw [ho] at hv
        exact List.mem_cons_of_mem _ (ih _ (by omega) (by simpa using hv))
    · rw [valAt_end s p hp] at hv; cases hv
theorem all_of_valid (s : ByteArray) (h : valB s = false) : (pts s).all inNameB = false := by
  have := bad_of_invalid s _ 0 (Nat.le_refl _) h
  rw [List.all_eq_false]
  exact ⟨65533, this, by decide⟩
theorem head_iff (s : ByteArray) (h : 0 < s.size) (c : Int) (hc : 0 ≤ c) (hc2 : c < 128) : (pts s).getD 0 0 = c ↔ byt s 0 = c := by
  have e : (pts s).getD 0 0 = ((Utf8.decode s 0).1 : Int) := by unfold pts; rw [ptsAt_step s 0 h]; rfl
  rw [e]
  have hb := byt_bd s 0
  by_cases h1 : byt s 0 < 128
  · rw [dec_low s 0 h1]; simp only; omega
  · have he := byt_eq s 0 h
    have := (decode_high s 0 h (by omega)).1
    omega
theorem pts_ne (s : ByteArray) (h : 0 < s.size) : pts s ≠ [] := by unfold pts; rw [ptsAt_step s 0 h]; simp
theorem all_drop {l : List Int} {k : Nat} (h : k < l.length) : (l.drop k).all inNameB = (inNameB (l.getD k 0) && (l.drop (k + 1)).all inNameB) := by
  rw [drop_cons h]; rfl

theorem toList_empty {s : ByteArray} (h : s.size = 0) : s.toList.isEmpty = true := by
  rw [Lib.toList_data, List.isEmpty_iff]; apply List.eq_nil_of_length_eq_zero; rw [← Lib.size_eq]; exact h
theorem toList_more {s : ByteArray} (h : 0 < s.size) : s.toList.isEmpty = false := by
  rw [Lib.toList_data, List.isEmpty_eq_false_iff]; intro e
  rw [Lib.size_eq, e] at h; simp at h

set_option maxHeartbeats 4000000 in
theorem name_any (s : ByteArray) (w : World) (hs : s.size ≤ 1099511627776) :
    Calls Tryd.prog 24 #[.string s] w fun e w' => e = .returned (.int .i64 (nameL (pts s))) ∧ Below w.heap.size w w' := by
  by_cases h0 : s.size = 0
  · have HE : Hid (nameL (pts s) = 10) := by
      show _ = _
      unfold nameL pts; rw [if_pos (Or.inl (ptsAt_end s 0 (by omega)))]
    have hl := toList_empty h0
    have hl2 : s.toList = [] := List.isEmpty_iff.1 hl
    clear hl
    go_enter Tryd.func24, Tryd.ntmps24
    go_wp2
    go_ret
    exact ⟨ret_int HE.out.symm, Below.refl _ _⟩
  have hpos : 0 < s.size := by omega
  have hl := toList_more hpos
  have hbe := byt_eq s 0 hpos
  have h46 := head_iff s hpos 46 (by omega) (by omega)
  have h45 := head_iff s hpos 45 (by omega) (by omega)
  have hne := pts_ne s hpos
  by_cases hd : byt s 0 = 46 ∨ byt s 0 = 45
  · have HE : Hid (nameL (pts s) = 10) := by
      show _ = _
      unfold nameL
      rw [if_pos (hd.elim (fun h => Or.inr (Or.inl (h46.2 h))) (fun h => Or.inr (Or.inr (Or.inl (h45.2 h)))))]
    clear h46 h45 hne
    rcases hd with hd | hd
    · have hx : (((s[0]'hpos).toNat : Int) == 46) = true := by rw [beq_iff_eq]; omega
      clear hd hbe
      go_enter Tryd.func24, Tryd.ntmps24
      go_wp2
      go_ret
      exact ⟨ret_int HE.out.symm, Below.refl _ _⟩
    · have hx : (((s[0]'hpos).toNat : Int) == 46) = false := by rw [beq_eq_false_iff_ne]; omega
      have hx2 : (((s[0]'hpos).toNat : Int) == 45) = true := by rw [beq_iff_eq]; omega
      clear hd hbe
      go_enter Tryd.func24, Tryd.ntmps24
      go_wp2
      go_ret
      exact ⟨ret_int HE.out.symm, Below.refl _ _⟩
  · have hx : (((s[0]'hpos).toNat : Int) == 46) = false := by rw [beq_eq_false_iff_ne]; omega
    have hx2 : (((s[0]'hpos).toNat : Int) == 45) = false := by rw [beq_eq_false_iff_ne]; omega
    have HN : Hid (nameL (pts s) = if (pts s).all inNameB = false then 10 else if 32 < (pts s).length then 11 else 0) := by
      show _ = _
      have e1 : ¬ (pts s).getD 0 0 = 46 := fun e => hd (Or.inl (h46.1 e))
      have e2 : ¬ (pts s).getD 0 0 = 45 := fun e => hd (Or.inr (h45.1 e))
      simp only [nameL, hne, e1, e2, false_or]
    clear hd hbe h46 h45 hne
    go_enter Tryd.func24, Tryd.ntmps24
    go_wp2
    go_loopg [] s.size (fun g wr => ∃ (p : Nat), p ≤ s.size ∧ s.size - p ≤ g ∧ (ptsAt s p).all inNameB = (pts s).all inNameB ∧ wr.heap[w.heap.size]? = some (.stringIter s p) ∧ Below w.heap.size w wr)
    case atStart => exact ⟨0, by omega, by omega, rfl, World.iter_heap _ _ _, (Below.refl _ _).alloc (Nat.le_refl _) _⟩
    case round =>
      obtain ⟨p, hp, hg, hx, hit, hbw⟩ := hrel
      have HX := Lib.hid hx
      clear hx
      by_cases hlt : p < s.size
      · have hw := Lib.decode_width_pos s p hlt
        have hz := size_le_dec s p hlt
        have HS := Lib.hid (ptsAt_step s p hlt)
        have hnx := fun ty => Lib.run_next_any_at (P := Tryd.prog) wr w.heap.size s p ty hit hlt
        have hitI := Lib.iterAt_heap wr w.heap.size s p (p + (Utf8.decode s p).2) hit
        have hbI := Lib.below_iterAt hbw (Nat.le_refl _) s (p + (Utf8.decode s p).2)
        have HI := Lib.hid hitI
        clear hitI hbw
        generalize hwi : wr.iterAt w.heap.size s (p + (Utf8.decode s p).2) = wi at *
        clear hit hwi
        cases hin : inNameB (Utf8.decode s p).1
        · have HIN := Lib.hid hin
          clear hin
          go_wp2_with (go_at_call 36; refine (inName_any _ _).mono ?_; rw [HIN.out]; rintro e w' ⟨rfl, rfl⟩)
          go_ret
          exact ⟨ret_int (by rw [HN.out, ← HX.out, HS.out, List.all_cons, HIN.out]; rfl), hbI⟩
        · have HIN := Lib.hid hin
          clear hin
          go_wp2_with (go_at_call 36; refine (inName_any _ _).mono ?_; rw [HIN.out]; rintro e w' ⟨rfl, rfl⟩)
          go_roundg (gk - 1)
          case measure => omega
          case rel => exact ⟨p + (Utf8.decode s p).2, hz, by omega, by rw [← HX.out, HS.out, List.all_cons, HIN.out]; rfl, HI.out, hbI⟩
      · have hnx := fun ty => Lib.run_next_end_at (P := Tryd.prog) wr w.heap.size s p ty hit hlt
        have HS := Lib.hid (ptsAt_end s p hlt)
        have HA : Hid ((pts s).all inNameB = true) := by show _ = _; rw [← HX.out, HS.out]; rfl
        clear hit
        by_cases hlen : 32 < (pts s).length
        · go_wp2_with (go_at_call 17; refine (count_any s _ hs).mono ?_; rintro e w' ⟨rfl, hbc⟩)
          go_ret
          exact ⟨ret_int (by rw [HN.out, HA.out]; simp [hlen]), bt hbw (by assumption)⟩
        · go_wp2_with (go_at_call 17; refine (count_any s _ hs).mono ?_; rintro e w' ⟨rfl, hbc⟩)
          go_ret
          exact ⟨ret_int (by rw [HN.out, HA.out]; simp [hlen]), bt hbw (by assumption)⟩

set_option maxHeartbeats 4000000 in
theorem refName_any (s : ByteArray) (w : World) (hs : s.size ≤ 1099511627776) :
    Calls Tryd.prog 25 #[.string s] w fun e w' => e = .returned (.int .i64 (nameL (pts s))) ∧ Below w.heap.size w w' := by
  have hls := pts_len s
  cases hv : valB s
  · have HE : Hid (nameL (pts s) = 10) := by
      show _ = _
      unfold nameL; rw [if_pos (Or.inr (Or.inr (Or.inr (all_of_valid s hv))))]
    have HV := Lib.hid hv
    clear hv
    go_enter Tryd.func25, Tryd.ntmps25
    go_wp2_with fail
    refine (refPoints_any s _ hs).mono ?_
    rintro e w1 ⟨v1, rfl, hown1, hb1⟩
    go_wp2_with fail
    refine (refValid_any s _ hs).mono ?_
    rw [HV.out]
    rintro e w2 ⟨rfl, rfl⟩
    clear hown1
    go_wp2
    go_ret
    exact ⟨ret_int HE.out.symm, hb1⟩
  · have HV := Lib.hid hv
    clear hv
    go_enter Tryd.func25, Tryd.ntmps25
    go_wp2_with fail
    refine (refPoints_any s _ hs).mono ?_
    rintro e w1 ⟨v1, rfl, hown1, hb1⟩
    go_wp2_with fail
    refine (refValid_any s _ hs).mono ?_
    rw [HV.out]
    rintro e w2 ⟨rfl, rfl⟩
    obtain ⟨_, aa, capa, rfl, _, hca⟩ := ListAt.of_own hown1
    clear hown1
    generalize hl : pts s = l at *
    have HL := Lib.hid hl
    clear hl
    by_cases h0 : l.length = 0
    · have HE : Hid (nameL l = 10) := by
        show _ = _
        unfold nameL; rw [if_pos (Or.inl (List.eq_nil_of_length_eq_zero h0))]
      have h0i : ((l.length : Int) == 0) = true := by rw [beq_iff_eq]; omega
      clear h0 hca
      go_wp2
      go_ret
      exact ⟨ret_int (by rw [HL.out, HE.out]), hb1⟩
    · obtain ⟨ba, offa, rfl, hba, hca⟩ := hca.resolve_left h0
      have c1 : w1.cell? ⟨ba, offa, none⟩ = some (.int .i32 (l.getD 0 0)) := ListAt.i32 hca 0 (by omega)
      have h0p : 0 < l.length := by omega
      have h0i : ((l.length : Int) == 0) = false := by rw [beq_eq_false_iff_ne]; omega
      have HC := Lib.hid hca
      clear hca
      have HN : Hid (nameL l = if l.getD 0 0 = 46 ∨ l.getD 0 0 = 45 ∨ l.all inNameB = false then 10 else if 32 < l.length then 11 else 0) := by
        show _ = _
        have : l ≠ [] := by intro e; rw [e] at h0; exact h0 rfl
        simp only [nameL, this, false_or]
      clear h0
      generalize hx : l.getD 0 0 = x at *
      have HXX := Lib.hid hx
      clear hx
      by_cases h46 : x = 46
      · have hx1 : (x == 46) = true := by rw [beq_iff_eq]; exact h46
        have HE : Hid (nameL l = 10) := by show _ = _; rw [HN.out, if_pos (Or.inl h46)]
        clear h46
        go_wp2
        go_ret
        exact ⟨ret_int (by rw [HL.out, HE.out]), hb1⟩
      have hx1 : (x == 46) = false := by rw [beq_eq_false_iff_ne]; exact h46
      by_cases h45 : x = 45
      · have hx2 : (x == 45) = true := by rw [beq_iff_eq]; exact h45
        have HE : Hid (nameL l = 10) := by show _ = _; rw [HN.out, if_pos (Or.inr (Or.inl h45))]
        clear h45 h46
        go_wp2
        go_ret
        exact ⟨ret_int (by rw [HL.out, HE.out]), hb1⟩
      have hx2 : (x == 45) = false := by rw [beq_eq_false_iff_ne]; exact h45
      have HN2 : Hid (nameL l = if l.all inNameB = false then 10 else if 32 < l.length then 11 else 0) := by
        show _ = _
        rw [HN.out]; simp only [h46, h45, false_or]
      clear h45 h46
      go_wp2
      go_loopw [5] (fun i wr => ∃ k : Nat, k ≤ l.length ∧ i = .int .i64 k ∧ (l.drop k).all inNameB = l.all inNameB ∧ wr = w1) (fun i _ => l.length - (intOf i).toNat)
      case atStart => exact ⟨0, by omega, rfl, rfl, rfl⟩
      case round =>
        obtain ⟨k, hk, rfl, hx, rfl⟩ := hrel
        have HX := Lib.hid hx
        clear hx
        by_cases hlt : k < l.length
        · have c2 : wr.cell? ⟨ba, offa + k, none⟩ = some (.int .i32 (l.getD k 0)) := ListAt.i32 HC.out k hlt
          have HS := Lib.hid (all_drop hlt)
          generalize l.getD k 0 = y at *
          cases hin : inNameB y
          · have HIN := Lib.hid hin
            clear hin
            go_wp2_with (go_at_call 37; refine (sign_any _ _).mono ?_; rw [HIN.out]; rintro e w' ⟨rfl, rfl⟩)
            go_ret
            exact ⟨ret_int (by rw [HL.out, HN2.out, ← HX.out, HS.out, HIN.out]; rfl), hb1⟩
          · have HIN := Lib.hid hin
            clear hin
            go_wp2_with (go_at_call 37; refine (sign_any _ _).mono ?_; rw [HIN.out]; rintro e w' ⟨rfl, rfl⟩)
            go_roundw
            case rel => exact ⟨k + 1, by omega, by go_num, by rw [← HX.out, HS.out, HIN.out]; rfl, trivial⟩
            case measure => simp [intOf]; omega
        · have HA : Hid (l.all inNameB = true) := by show _ = _; rw [← HX.out, List.drop_eq_nil_of_le (by omega)]; rfl
          by_cases hlen : 32 < l.length
          · go_wp2
            go_ret
            exact ⟨ret_int (by rw [HL.out, HN2.out, HA.out]; simp [hlen]), hb1⟩
          · go_wp2
            go_ret
            exact ⟨ret_int (by rw [HL.out, HN2.out, HA.out]; simp [hlen]), hb1⟩
end Go.Proofs.YthkkphfnfggpaaaDoor
