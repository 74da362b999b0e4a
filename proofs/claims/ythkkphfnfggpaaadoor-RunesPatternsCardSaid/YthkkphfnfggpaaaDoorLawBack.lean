/- The law on text and points back: the walk. -/
import Derived.Test.YthkkphfnfggpaaaDoorWorks
import Derived.Test.YthkkphfnfggpaaaDoorBack
namespace Go.Proofs.YthkkphfnfggpaaaDoor
open Go.RowKit

theorem list_cell {w : World} {va : Option Addr} {n vc : Nat} {l : List Int} (h : ListAt w (.slice va n vc) n (i32s l)) {k : Nat} (hk : k < l.length) :
    ∃ b off, va = some ⟨b, off, none⟩ ∧ w.cell? ⟨b, off + k, none⟩ = some (.int .i32 (l.getD k 0)) := by
  obtain ⟨h1, a', c', e, _, h2⟩ := h
  simp only [Value.slice.injEq] at e
  obtain ⟨rfl, _, rfl⟩ := e
  have hlen : (i32s l).length = l.length := by simp [i32s]
  rcases h2 with h2 | ⟨b, off, rfl, hb, hc⟩
  · omega
  · exact ⟨b, off, rfl, ListAt.i32 hc k hk⟩
theorem take_cp {l : List Int} {k : Nat} (h : ∀ c ∈ l.take k, cpB c = true) (hk : k < l.length) : cpB (l.getD k 0) = true → ∀ c ∈ l.take (k + 1), cpB c = true := by
  intro h1 c hc
  rw [List.take_add_one, List.mem_append] at hc
  rcases hc with hc | hc
  · exact h c hc
  · rw [List.getElem?_eq_getElem hk] at hc
    simp only [Option.toList, List.mem_singleton] at hc
    rw [List.getD, List.getElem?_eq_getElem hk] at h1
    rw [hc]; exact h1
theorem textS_size (l : List Int) : (textS l).size ≤ 4 * l.length := by
  have : (textS l).size = (textL l).length := by simp [textS, ByteArray.size]
  rw [this]; exact textL_len l
theorem pts_bound_at (s : ByteArray) : ∀ k q, s.size - q ≤ k → ∀ c ∈ ptsAt s q, -2147483648 ≤ c ∧ c ≤ 2147483647 := by
  intro k
  induction k with
  | zero => intro q hq; rw [ptsAt_end s q (by omega)]; simp
  | succ k ih =>
    intro q hq
    by_cases hlt : q < s.size
    · have hw := Lib.decode_width_pos s q hlt
      rw [ptsAt_step s q hlt]
      intro c hc
      rcases List.mem_cons.1 hc with rfl | hc
      · have hb := byt_bd s q
        rcases dec_cases s q with ⟨h1, h2, _⟩ | ⟨_, h2, _⟩ | ⟨n, base, hi, least, hsh, h1, h2, hwh⟩
        · rw [h2]; simp only; omega
        · rw [h2]; simp only; omega
        · have d := (dec_whole hsh h1 h2 hwh).1
          have hf := hwh.2.2
          unfold fitsB at hf
          rw [d]
          simp only
          have : 128 ≤ least := by rcases hsh with ⟨_, _, _, rfl⟩ | ⟨_, _, _, rfl⟩ | ⟨_, _, _, rfl⟩ <;> omega
          omega
      · exact ih _ (by omega) c hc
    · rw [ptsAt_end s q hlt]; simp
theorem pts_bound (s : ByteArray) : ∀ c ∈ pts s, -2147483648 ≤ c ∧ c ≤ 2147483647 := pts_bound_at s _ 0 (Nat.le_refl _)
set_option maxRecDepth 100000 in
set_option maxHeartbeats 16000000 in
theorem law_back (s : ByteArray) (v : Value) (l : List Int) (n : Int) (w : World) (hs : s.size ≤ 9223372036854775807) (hl : ListAt w v l.length (i32s l)) (hll : l.length ≤ 9223372036854775807)
    (hwf : ∀ c ∈ l, -2147483648 ≤ c ∧ c ≤ 2147483647) (hn : -9223372036854775808 ≤ n ∧ n ≤ 9223372036854775807) (hT : Tabs w) :
    Calls Tryd.prog 4 #[.string s, v, .int .i64 n] w fun e w' => e = .returned (.bool true) ∧ Below w.heap.size w w' := by
  have HT := Lib.hid hT
  have HW := Lib.hid hwf
  have HL := Lib.hid hl
  obtain ⟨_, va, vc, rfl, _, _⟩ := hl
  obtain ⟨hn1, hn2⟩ := hn
  clear hT hwf
  by_cases hb : 4096 < s.size
  · have hbi : (4096 : Int) < (s.size : Int) := by omega
    go_enter Tryd.func4, Tryd.ntmps4
    go_wp2_with fail
    refine (works_any _ HT.out).mono ?_
    rintro e w1 ⟨rfl, b1⟩
    go_wp2
    go_ret
    exact ⟨rfl, b1⟩
  by_cases hb2 : 4096 < l.length
  · have hbi : ¬ (4096 : Int) < (s.size : Int) := by omega
    have hbi2 : (4096 : Int) < (l.length : Int) := by omega
    go_enter Tryd.func4, Tryd.ntmps4
    go_wp2_with fail
    refine (works_any _ HT.out).mono ?_
    rintro e w1 ⟨rfl, b1⟩
    go_wp2
    go_ret
    exact ⟨rfl, b1⟩
  have hps := pts_len s
  have hbi : ¬ (4096 : Int) < (s.size : Int) := by omega
  have hbi2 : ¬ (4096 : Int) < (l.length : Int) := by omega
  have HTS := Lib.hid (textS_size l)
  obtain ⟨Q, hQ, e1, e2, e3, e4⟩ := cut_facts s n
  subst e2
  have E1 := Lib.hid e1
  have E3 := Lib.hid e3
  have E4 := Lib.hid e4
  clear e1 e3 e4
  cases hv : valB s
  · have HV := Lib.hid hv
    clear hv
    go_enter Tryd.func4, Tryd.ntmps4
    go_wp2_with fail
    refine (works_any _ HT.out).mono ?_
    rintro e w1 ⟨rfl, b1⟩
    go_wp2_with fail
    refine (valid_any s _ (by omega) (HT.out.below b1)).mono ?_
    rw [HV.out]
    rintro e w3 ⟨rfl, b3⟩
    have c3 := bt b1 b3
    clear b1 b3
    go_wp2
    go_loopw [9] (fun i wr => ∃ k : Nat, k ≤ l.length ∧ i = .int .i64 k ∧ (∀ c ∈ l.take k, cpB c = true) ∧ wr = w3) (fun i _ => l.length - (intOf i).toNat)
    case atStart => exact ⟨0, by omega, rfl, by simp, rfl⟩
    case round =>
      obtain ⟨k, hk, rfl, hx, rfl⟩ := hrel
      have HX := Lib.hid hx
      clear hx
      by_cases hlt : k < l.length
      · obtain ⟨b, off, rfl, c2⟩ := list_cell (HL.out.below c3) hlt
        have HTK := Lib.hid (take_cp HX.out hlt)
        generalize l.getD k 0 = x at *
        by_cases h1 : x < 0
        · go_wp2
          go_ret
          exact ⟨ret_bool rfl, c3⟩
        by_cases h2 : 1114111 < x
        · go_wp2
          go_ret
          exact ⟨ret_bool rfl, c3⟩
        by_cases h3 : 55296 ≤ x
        · by_cases h4 : x ≤ 57343
          · go_wp2
            go_ret
            exact ⟨ret_bool rfl, c3⟩
          · go_wp2
            go_roundw
            case rel => exact ⟨k + 1, by omega, by go_num, HTK.out (by unfold cpB; simp; omega), trivial⟩
            case measure => simp [intOf]; omega
        · go_wp2
          go_roundw
          case rel => exact ⟨k + 1, by omega, by go_num, HTK.out (by unfold cpB; simp; omega), trivial⟩
          case measure => simp [intOf]; omega
      · have HP : Hid (pts (textS l) = l) := by
          show _ = _
          refine pts_text l ?_
          have := HX.out
          rwa [List.take_of_length_le (by omega)] at this
        go_wp2_with fail
        refine (text_any _ l _ (HL.out.below c3) (by omega) HW.out).mono ?_
        rintro e w4 ⟨rfl, b4⟩
        have c4 := bt c3 b4
        clear c3 b4
        go_wp2_with fail
        refine (points_any (textS l) _ (by have := HTS.out; omega)).mono ?_
        rw [HP.out]
        rintro e w5 ⟨v1, rfl, o1, b5⟩
        have c5 := bt c4 b5
        have L1 := Lib.hid (ListAt.of_own o1)
        obtain ⟨x1, y1, rfl⟩ := slice_of_own o1
        clear c4 b5 o1
        go_wp2_with fail
        refine (same_any _ _ l l _ L1.out (HL.out.below c5) (by omega) (by omega)).mono ?_
        rw [decide_eq_true (rfl : l = l)]
        rintro e w6 ⟨rfl, b6⟩
        have c6 := bt c5 b6
        clear c5 b6 L1
        go_wp2_with fail
        refine (cut_any s n _ (by omega) hn2).mono ?_
        rintro e w7 ⟨rfl, b7⟩
        have c7 := bt c6 b7
        clear c6 b7
        generalize cutS s n = cs at *
        go_wp2_with fail
        refine (count_any s _ (by omega)).mono ?_
        rintro e w8 ⟨rfl, b8⟩
        have c8 := bt c7 b8
        clear c7 b8
        generalize hz : min n.toNat (pts s).length = z at *
        have hmm : (min (max n 0) ((pts s).length : Int)) = (z : Int) := by omega
        generalize hcN : (pts s).length = N at *
        have HCN := Lib.hid hcN
        clear hcN
        have hQi : (cs.size : Int) ≤ (s.size : Int) := by omega
        have hEL : (s.extract 0 cs.size).toList = cs.toList := by rw [← E1.out]
        go_wp2_with fail
        refine (count_any cs _ (by omega)).mono ?_
        rw [E3.out]
        rintro e w9 ⟨rfl, b9⟩
        have c9 := bt c8 b9
        clear c8 b9
        go_wp2_with fail
        refine (count_any (s.extract cs.size s.size) _ (by rw [Lib.tail_size]; omega)).mono ?_
        generalize hr : (pts (s.extract cs.size s.size)).length = r
        have hrn : (r : Int) = (N : Int) - (z : Int) := by have := E4.out; omega
        clear hr
        rintro e w10 ⟨rfl, b10⟩
        have c10 := bt c9 b10
        clear c9 b10
        go_wp2_with fail
        refine (count_any s _ (by omega)).mono ?_
        rw [HCN.out]
        rintro e w11 ⟨rfl, b11⟩
        have c11 := bt c10 b11
        clear c10 b11
        go_wp2
        go_ret
        exact ⟨ret_bool (by simp), c11⟩
  · have HV := Lib.hid hv
    have HB := Lib.hid (text_back s hv)
    clear hv
    go_enter Tryd.func4, Tryd.ntmps4
    go_wp2_with fail
    refine (works_any _ HT.out).mono ?_
    rintro e w1 ⟨rfl, b1⟩
    go_wp2_with fail
    refine (valid_any s _ (by omega) (HT.out.below b1)).mono ?_
    rw [HV.out]
    rintro e w2 ⟨rfl, b2⟩
    have c2 := bt b1 b2
    clear b1 b2
    go_wp2_with fail
    refine (points_any s _ (by omega)).mono ?_
    rintro e w2a ⟨va1, rfl, o0, b2a⟩
    have c2a := bt c2 b2a
    have L0 := Lib.hid (ListAt.of_own o0)
    obtain ⟨x0, y0, rfl⟩ := slice_of_own o0
    clear c2 b2a o0
    go_wp2_with fail
    refine (text_any _ (pts s) _ L0.out (by omega) (pts_bound s)).mono ?_
    rw [HB.out]
    rintro e w3 ⟨rfl, b3⟩
    have c3 := bt c2a b3
    clear c2a b3 L0
    go_wp2
    go_loopw [9] (fun i wr => ∃ k : Nat, k ≤ l.length ∧ i = .int .i64 k ∧ (∀ c ∈ l.take k, cpB c = true) ∧ wr = w3) (fun i _ => l.length - (intOf i).toNat)
    case atStart => exact ⟨0, by omega, rfl, by simp, rfl⟩
    case round =>
      obtain ⟨k, hk, rfl, hx, rfl⟩ := hrel
      have HX := Lib.hid hx
      clear hx
      by_cases hlt : k < l.length
      · obtain ⟨b, off, rfl, c2⟩ := list_cell (HL.out.below c3) hlt
        have HTK := Lib.hid (take_cp HX.out hlt)
        generalize l.getD k 0 = x at *
        by_cases h1 : x < 0
        · go_wp2
          go_ret
          exact ⟨ret_bool rfl, c3⟩
        by_cases h2 : 1114111 < x
        · go_wp2
          go_ret
          exact ⟨ret_bool rfl, c3⟩
        by_cases h3 : 55296 ≤ x
        · by_cases h4 : x ≤ 57343
          · go_wp2
            go_ret
            exact ⟨ret_bool rfl, c3⟩
          · go_wp2
            go_roundw
            case rel => exact ⟨k + 1, by omega, by go_num, HTK.out (by unfold cpB; simp; omega), trivial⟩
            case measure => simp [intOf]; omega
        · go_wp2
          go_roundw
          case rel => exact ⟨k + 1, by omega, by go_num, HTK.out (by unfold cpB; simp; omega), trivial⟩
          case measure => simp [intOf]; omega
      · have HP : Hid (pts (textS l) = l) := by
          show _ = _
          refine pts_text l ?_
          have := HX.out
          rwa [List.take_of_length_le (by omega)] at this
        go_wp2_with fail
        refine (text_any _ l _ (HL.out.below c3) (by omega) HW.out).mono ?_
        rintro e w4 ⟨rfl, b4⟩
        have c4 := bt c3 b4
        clear c3 b4
        go_wp2_with fail
        refine (points_any (textS l) _ (by have := HTS.out; omega)).mono ?_
        rw [HP.out]
        rintro e w5 ⟨v1, rfl, o1, b5⟩
        have c5 := bt c4 b5
        have L1 := Lib.hid (ListAt.of_own o1)
        obtain ⟨x1, y1, rfl⟩ := slice_of_own o1
        clear c4 b5 o1
        go_wp2_with fail
        refine (same_any _ _ l l _ L1.out (HL.out.below c5) (by omega) (by omega)).mono ?_
        rw [decide_eq_true (rfl : l = l)]
        rintro e w6 ⟨rfl, b6⟩
        have c6 := bt c5 b6
        clear c5 b6 L1
        go_wp2_with fail
        refine (cut_any s n _ (by omega) hn2).mono ?_
        rintro e w7 ⟨rfl, b7⟩
        have c7 := bt c6 b7
        clear c6 b7
        generalize cutS s n = cs at *
        go_wp2_with fail
        refine (count_any s _ (by omega)).mono ?_
        rintro e w8 ⟨rfl, b8⟩
        have c8 := bt c7 b8
        clear c7 b8
        generalize hz : min n.toNat (pts s).length = z at *
        have hmm : (min (max n 0) ((pts s).length : Int)) = (z : Int) := by omega
        generalize hcN : (pts s).length = N at *
        have HCN := Lib.hid hcN
        clear hcN
        have hQi : (cs.size : Int) ≤ (s.size : Int) := by omega
        have hEL : (s.extract 0 cs.size).toList = cs.toList := by rw [← E1.out]
        go_wp2_with fail
        refine (count_any cs _ (by omega)).mono ?_
        rw [E3.out]
        rintro e w9 ⟨rfl, b9⟩
        have c9 := bt c8 b9
        clear c8 b9
        go_wp2_with fail
        refine (count_any (s.extract cs.size s.size) _ (by rw [Lib.tail_size]; omega)).mono ?_
        generalize hr : (pts (s.extract cs.size s.size)).length = r
        have hrn : (r : Int) = (N : Int) - (z : Int) := by have := E4.out; omega
        clear hr
        rintro e w10 ⟨rfl, b10⟩
        have c10 := bt c9 b10
        clear c9 b10
        go_wp2_with fail
        refine (count_any s _ (by omega)).mono ?_
        rw [HCN.out]
        rintro e w11 ⟨rfl, b11⟩
        have c11 := bt c10 b11
        clear c10 b11
        go_wp2
        go_ret
        exact ⟨ret_bool (by simp), c11⟩
end Go.Proofs.YthkkphfnfggpaaaDoor
