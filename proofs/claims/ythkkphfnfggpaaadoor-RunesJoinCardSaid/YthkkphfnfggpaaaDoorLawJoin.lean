/- The law on texts put together: the walk. -/
import Derived.Test.YthkkphfnfggpaaaDoorWorks
import Derived.Test.YthkkphfnfggpaaaDoorApp
namespace Go.Proofs.YthkkphfnfggpaaaDoor
open Go.RowKit

theorem skip_app (p a : ByteArray) : ∀ k q, p.size - q ≤ k → q ≤ p.size → valAt p q = true → skipP (p ++ a) (ptsAt p q).length q = p.size := by
  intro k
  induction k with
  | zero => intro q h hq hv; rw [ptsAt_end p q (by omega)]; simp [skipP]; omega
  | succ k ih =>
    intro q h hq hv
    by_cases hlt : q < p.size
    · have hw := Lib.decode_width_pos p q hlt
      have hz := size_le_dec p q hlt
      rw [valAt_step p q hlt, Bool.and_eq_true] at hv
      have hd := dec_grow (s := p ++ a) (t := p) (by rw [app_size]; omega) (fun i hi => app_byt_left p a i hi) hlt hv.1
      rw [ptsAt_step p q hlt, List.length_cons]
      simp only [skipP]
      rw [if_pos (by rw [app_size]; omega), hd.1]
      exact ih _ (by omega) hz hv.2
    · rw [ptsAt_end p q hlt]; simp [skipP]; omega
theorem cut_app (p a : ByteArray) (h : valB p = true) : cutS (p ++ a) ((pts p).length : Int) = p := by
  unfold cutS
  have := skip_app p a _ 0 (Nat.le_refl _) (Nat.zero_le _) h
  rw [Int.toNat_natCast]
  unfold pts
  rw [this]
  apply ByteArray.ext
  apply Array.toList_inj.1
  rw [Lib.extract_data, app_list, List.drop_zero, Nat.sub_zero, Lib.size_eq, List.take_left]
theorem ListAt.front {w : World} {a : Option Addr} {n c : Nat} {xs ys : List Value} (h : ListAt w (.slice a n c) n (xs ++ ys)) : ListAt w (.slice a xs.length c) xs.length xs := by
  obtain ⟨h1, a', c', e, hc, h2⟩ := h
  simp only [Value.slice.injEq] at e
  obtain ⟨rfl, _, rfl⟩ := e
  simp at h1
  refine ⟨rfl, _, _, rfl, by omega, ?_⟩
  by_cases h0 : xs.length = 0
  · exact .inl h0
  · rcases h2 with h2 | ⟨b, off, rfl, hb, hcells⟩
    · omega
    · refine .inr ⟨b, off, rfl, hb, fun j u hu => hcells j u ?_⟩
      rw [List.getElem?_append_left (List.getElem?_eq_some_iff.1 hu).1]; exact hu
theorem ListAt.back {w : World} {b off n c : Nat} {xs ys : List Value} (h : ListAt w (.slice (some ⟨b, off, none⟩) n c) n (xs ++ ys)) (c' : Nat) (hc' : ys.length ≤ c') : ListAt w (.slice (some ⟨b, off + xs.length, none⟩) ys.length c') ys.length ys := by
  obtain ⟨h1, a', c2, e, hc, h2⟩ := h
  simp at h1
  refine ⟨rfl, _, _, rfl, hc', ?_⟩
  by_cases h0 : ys.length = 0
  · exact .inl h0
  · rcases h2 with h2 | ⟨b', off', e2, hb, hcells⟩
    · omega
    · simp only [Value.slice.injEq, e2, Option.some.injEq, Addr.mk.injEq] at e
      obtain ⟨⟨rfl, rfl, _⟩, _, rfl⟩ := e
      refine .inr ⟨_, _, rfl, hb, fun j u hu => ?_⟩
      have := hcells (xs.length + j) u (by rw [List.getElem?_append_right (by omega)]; simpa using hu)
      rw [Nat.add_assoc]; exact this

theorem same_n (va vb : Value) (l : List Int) (n : Nat) (w : World) (ha : ListAt w va n (i32s l)) (hb : ListAt w vb n (i32s l)) (h : l.length = n) (hn : n ≤ 1099511627776) :
    Calls Tryd.prog 14 #[va, vb] w fun e w' => e = .returned (.bool true) ∧ Below w.heap.size w w' := by
  subst h
  refine (same_any va vb l l w ha hb hn hn).mono ?_
  rw [decide_eq_true (rfl : l = l)]
  exact fun e w' h => h
theorem i32s_app (a b : List Int) : i32s (a ++ b) = i32s a ++ i32s b := by simp [i32s]
theorem i32s_len (a : List Int) : (i32s a).length = a.length := by simp [i32s]
theorem front_n {w : World} {a : Option Addr} {n m c : Nat} {p q : List Int} (h : ListAt w (.slice a (n + m) c) (n + m) (i32s (p ++ q))) (hn : p.length = n) : ListAt w (.slice a n c) n (i32s p) := by
  rw [i32s_app] at h
  have := h.front
  rwa [i32s_len, hn] at this
theorem slice_own2 {w : World} {B : Nat} {e : TypeId} {v : Value} {n : Nat} {xs : List Value} (h : w.ownsRow B e 1 v n xs) : ∃ a c, v = .slice a n c ∧ (a = none ∧ c = 0 ∨ ∃ g, a = some ⟨g, 0, none⟩) := by
  rcases h.2 with ⟨rfl, rfl⟩ | ⟨g, cap, cur, rfl, _, hg, hcap, _⟩
  · exact ⟨_, _, rfl, .inl ⟨rfl, rfl⟩⟩
  · exact ⟨_, _, rfl, .inr ⟨_, rfl⟩⟩
theorem back_n {w : World} {b n m c : Nat} {p q : List Int} (h : ListAt w (.slice (some ⟨b, 0, none⟩) (n + m) c) (n + m) (i32s (p ++ q))) (hn : p.length = n) (hm : q.length = m) {c' : Nat} (hc : m ≤ c') : ListAt w (.slice (some ⟨b, n, none⟩) m c') m (i32s q) := by
  rw [i32s_app] at h
  have := h.back c' (by rw [i32s_len]; omega)
  rwa [i32s_len, i32s_len, hn, hm, Nat.zero_add] at this
theorem points_drew (s : ByteArray) (w : World) (hs : s.size ≤ 1099511627776) {n : Nat} (hn : (pts s).length = n) :
    Calls Tryd.prog 12 #[.string s] w.drew fun e w' => ∃ a c, e = .returned (.slice a n c) ∧ ListAt w' (.slice a n c) n (i32s (pts s)) ∧ Below w.heap.size w w' := by
  subst hn
  refine (points_any s w.drew hs).mono ?_
  rintro e w' ⟨v, rfl, o, b⟩
  have L := ListAt.of_own o
  obtain ⟨a, c, rfl⟩ := slice_of_own o
  exact ⟨a, c, rfl, L, bt (show Below w.heap.size w w.drew from (below_drewN (Below.refl w.heap.size w) 1)) b⟩
set_option maxRecDepth 100000 in
set_option maxHeartbeats 8000000 in
theorem law_join (p a b : ByteArray) (w : World) (hp : p.size ≤ 9223372036854775807) (ha : a.size ≤ 9223372036854775807) (hb : b.size ≤ 9223372036854775807) (hT : Tabs w) :
    Calls Tryd.prog 9 #[.string p, .string a, .string b] w fun e w' => e = .returned (.bool true) ∧ Below w.heap.size w w' := by
  have HT := Lib.hid hT
  clear hT
  by_cases h1 : 4096 < p.size
  · have hbi : (4096 : Int) < (p.size : Int) := by omega
    go_enter Tryd.func9, Tryd.ntmps9
    go_wp2_with fail
    refine (works_any _ HT.out).mono ?_
    rintro e w1 ⟨rfl, b1⟩
    go_wp2_with fail
    refine (valid_any p _ hp (HT.out.below b1)).mono ?_
    rintro e w2 ⟨rfl, b2⟩
    have c2 := bt b1 b2
    clear b1 b2
    go_wp2
    go_ret
    exact ⟨ret_bool rfl, c2⟩
  by_cases h2 : 4096 < a.size
  · have hbi : ¬ (4096 : Int) < (p.size : Int) := by omega
    have hbi2 : (4096 : Int) < (a.size : Int) := by omega
    go_enter Tryd.func9, Tryd.ntmps9
    go_wp2_with fail
    refine (works_any _ HT.out).mono ?_
    rintro e w1 ⟨rfl, b1⟩
    go_wp2_with fail
    refine (valid_any p _ hp (HT.out.below b1)).mono ?_
    rintro e w2 ⟨rfl, b2⟩
    have c2 := bt b1 b2
    clear b1 b2
    go_wp2
    go_ret
    exact ⟨ret_bool rfl, c2⟩
  by_cases h3 : 4096 < b.size
  · have hbi : ¬ (4096 : Int) < (p.size : Int) := by omega
    have hbi2 : ¬ (4096 : Int) < (a.size : Int) := by omega
    have hbi3 : (4096 : Int) < (b.size : Int) := by omega
    go_enter Tryd.func9, Tryd.ntmps9
    go_wp2_with fail
    refine (works_any _ HT.out).mono ?_
    rintro e w1 ⟨rfl, b1⟩
    go_wp2_with fail
    refine (valid_any p _ hp (HT.out.below b1)).mono ?_
    rintro e w2 ⟨rfl, b2⟩
    have c2 := bt b1 b2
    clear b1 b2
    go_wp2
    go_ret
    exact ⟨ret_bool rfl, c2⟩
  have hbi : ¬ (4096 : Int) < (p.size : Int) := by omega
  have hbi2 : ¬ (4096 : Int) < (a.size : Int) := by omega
  have hbi3 : ¬ (4096 : Int) < (b.size : Int) := by omega
  cases hv : valB p
  · have HV := Lib.hid hv
    clear hv
    go_enter Tryd.func9, Tryd.ntmps9
    go_wp2_with fail
    refine (works_any _ HT.out).mono ?_
    rintro e w1 ⟨rfl, b1⟩
    go_wp2_with fail
    refine (valid_any p _ hp (HT.out.below b1)).mono ?_
    rw [HV.out]
    rintro e w2 ⟨rfl, b2⟩
    have c2 := bt b1 b2
    clear b1 b2
    go_wp2
    go_ret
    exact ⟨ret_bool rfl, c2⟩
  have HV := Lib.hid hv
  have hpa : (p ++ a).size = p.size + a.size := app_size p a
  have hpb : (p ++ b).size = p.size + b.size := app_size p b
  have HPA : (p ++ a).size ≤ 8192 := by omega
  have HPB : (p ++ b).size ≤ 8192 := by omega
  have EA := Lib.hid (pts_append p a hv)
  have EB := Lib.hid (pts_append p b hv)
  have EC : Hid (cutS (p ++ a) ((pts p).length : Int) = p) := cut_app p a hv
  have ED := Lib.hid (cmpL_app (pts p) (pts a) (pts b))
  have hlp := pts_len p
  have hla := pts_len a
  clear hv hpa hpb
  go_enter Tryd.func9, Tryd.ntmps9
  go_wp2_with fail
  refine (works_any _ HT.out).mono ?_
  rintro e w1 ⟨rfl, b1⟩
  go_wp2_with fail
  refine (valid_any p _ hp (HT.out.below b1)).mono ?_
  rw [HV.out]
  rintro e w2 ⟨rfl, b2⟩
  have c2 := bt b1 b2
  clear b1 b2
  go_wp2_with fail
  refine (points_any (p ++ a) _ (by omega)).mono ?_
  rw [EA.out]
  rintro e w3 ⟨v1, rfl, o1, b3⟩
  have c3 := bt c2 b3
  clear c2 b3
  go_wp2_with fail
  refine (count_any p _ (by omega)).mono ?_
  rintro e w4 ⟨rfl, b4⟩
  have c4 := bt c3 b4
  have L1 := ListAt.of_own (own_below o1 b4)
  obtain ⟨x1, y1, rfl, hx1⟩ := slice_own2 o1
  have hle : (pts p ++ pts a).length = (pts p).length + (pts a).length := List.length_append
  have hcap : (pts p ++ pts a).length ≤ y1 := by
    obtain ⟨_, a', c', e, h, _⟩ := L1
    simp only [Value.slice.injEq] at e
    omega
  rw [hle] at L1 hcap
  have hi1 : ¬ (((pts p).length + (pts a).length : Nat) : Int) < ((pts p).length : Int) := by omega
  clear c3 b4 o1
  rw [hle]
  have hn1 : (((pts p).length : Nat) : Int) ≤ (((pts p).length + (pts a).length : Nat) : Int) := by omega
  have hn2 : (((pts p).length : Nat) : Int) ≤ (y1 : Int) := by omega
  generalize hP : (pts p).length = nP at *
  generalize hA : (pts a).length = nA at *
  have HP := Lib.hid hP
  have HA := Lib.hid hA
  clear hP hA hle
  have F1 := Lib.hid (front_n L1 HP.out)
  have LL := Lib.hid L1
  clear L1
  go_wp2
  go_region_with (
    first
    | (go_at_call 12; refine (points_drew p _ ?_ HP.out).mono ?_; omega; rintro e w5 ⟨x2, y2, rfl, l2, b5⟩; have L2 := Lib.hid l2; have F5 := Lib.hid (F1.out.below b5); have LL5 := Lib.hid (LL.out.below b5); have c5 := bt c4 b5; clear l2 b5)
    | (go_at_call 14; refine (same_n _ _ (pts p) nP _ ?_ ?_ HP.out ?_).mono ?_; exact F5.out; exact L2.out; omega; rintro e w6 ⟨rfl, b6⟩; have LL6 := Lib.hid (LL5.out.below b6); have c6 := bt c5 b6; clear b6 L2 F5 LL5 c5))
  clear LL F1 c4
  have hl6 : ListAt w6 (.slice x1 (nP + nA) y1) (nP + nA) (i32s (pts p ++ pts a)) := LL6.out
  by_cases hcn : y1 = nP
  · obtain rfl : nA = 0 := by omega
    subst hcn
    have he : i32s (pts a) = [] := by rw [List.eq_nil_of_length_eq_zero HA.out]; rfl
    rcases hx1 with ⟨rfl, rfl⟩ | ⟨g, rfl⟩
    · have B1 : Hid (ListAt w6 (.slice none 0 0) 0 (i32s (pts a))) := by
        show ListAt _ _ _ _
        rw [he]; exact ⟨rfl, _, _, rfl, Nat.le_refl _, .inl rfl⟩
      clear hl6 he
      go_wp2
      go_region_with (first
       | (go_at_call 12; refine (points_drew a _ ?_ HA.out).mono ?_; omega; rintro e w7 ⟨x3, y3, rfl, l3, b7⟩; have L7 := Lib.hid l3; have B7 := Lib.hid (B1.out.below b7); have c7 := bt c6 b7; clear l3 b7)
       | (go_at_call 14; refine (same_n _ _ (pts a) _ _ ?_ ?_ HA.out ?_).mono ?_; exact B7.out; exact L7.out; omega; rintro e w8 ⟨rfl, b8⟩; have c8 := bt c7 b8; clear b8 L7 B7 c7))
      clear B1 c6 LL6
      go_wp2_with fail
      refine (cmp_any (p ++ a) (p ++ b) _ (by omega) (by omega) (HT.out.below c8)).mono ?_
      rw [EA.out, EB.out, ED.out]
      rintro e w9 ⟨rfl, b9⟩
      have c9 := bt c8 b9
      clear c8 b9
      go_wp2_with fail
      refine (cmp_any a b _ (by omega) (by omega) (HT.out.below c9)).mono ?_
      rintro e w10 ⟨rfl, b10⟩
      have c10 := bt c9 b10
      clear c9 b10
      generalize cmpL (pts a) (pts b) = z at *
      go_wp2_with fail
      refine (cut_any (p ++ a) _ _ (by omega) (by omega)).mono ?_
      first | rw [EC.out] | rw [show cutS (p ++ a) 0 = p from EC.out]
      rintro e w11 ⟨rfl, b11⟩
      have c11 := bt c10 b11
      clear c10 b11
      go_wp2
      go_ret
      exact ⟨ret_bool (by simp), c11⟩
    · have B1 : Hid (ListAt w6 (.slice (some ⟨g, 0, none⟩) 0 0) 0 (i32s (pts a))) := by
        show ListAt _ _ _ _
        rw [he]; exact ⟨rfl, _, _, rfl, Nat.le_refl _, .inl rfl⟩
      clear hl6 he
      go_wp2
      go_region_with (first
       | (go_at_call 12; refine (points_drew a _ ?_ HA.out).mono ?_; omega; rintro e w7 ⟨x3, y3, rfl, l3, b7⟩; have L7 := Lib.hid l3; have B7 := Lib.hid (B1.out.below b7); have c7 := bt c6 b7; clear l3 b7)
       | (go_at_call 14; refine (same_n _ _ (pts a) _ _ ?_ ?_ HA.out ?_).mono ?_; exact B7.out; exact L7.out; omega; rintro e w8 ⟨rfl, b8⟩; have c8 := bt c7 b8; clear b8 L7 B7 c7))
      clear B1 c6 LL6
      go_wp2_with fail
      refine (cmp_any (p ++ a) (p ++ b) _ (by omega) (by omega) (HT.out.below c8)).mono ?_
      rw [EA.out, EB.out, ED.out]
      rintro e w9 ⟨rfl, b9⟩
      have c9 := bt c8 b9
      clear c8 b9
      go_wp2_with fail
      refine (cmp_any a b _ (by omega) (by omega) (HT.out.below c9)).mono ?_
      rintro e w10 ⟨rfl, b10⟩
      have c10 := bt c9 b10
      clear c9 b10
      generalize cmpL (pts a) (pts b) = z at *
      go_wp2_with fail
      refine (cut_any (p ++ a) _ _ (by omega) (by omega)).mono ?_
      first | rw [EC.out] | rw [show cutS (p ++ a) 0 = p from EC.out]
      rintro e w11 ⟨rfl, b11⟩
      have c11 := bt c10 b11
      clear c10 b11
      go_wp2
      go_ret
      exact ⟨ret_bool (by simp), c11⟩
  · obtain ⟨g, rfl⟩ : ∃ g, x1 = some ⟨g, 0, none⟩ := by
      rcases hx1 with ⟨_, h⟩ | h
      · omega
      · exact h
    have B1 : Hid (ListAt w6 (.slice (some ⟨g, nP, none⟩) nA (y1 - nP)) nA (i32s (pts a))) := back_n LL6.out HP.out HA.out (by omega)
    clear hx1 hl6
    go_wp2
    go_region_with (first
     | (go_at_call 12; refine (points_drew a _ ?_ HA.out).mono ?_; omega; rintro e w7 ⟨x3, y3, rfl, l3, b7⟩; have L7 := Lib.hid l3; have B7 := Lib.hid (B1.out.below b7); have c7 := bt c6 b7; clear l3 b7)
     | (go_at_call 14; refine (same_n _ _ (pts a) _ _ ?_ ?_ HA.out ?_).mono ?_; exact B7.out; exact L7.out; omega; rintro e w8 ⟨rfl, b8⟩; have c8 := bt c7 b8; clear b8 L7 B7 c7))
    clear B1 c6 LL6
    go_wp2_with fail
    refine (cmp_any (p ++ a) (p ++ b) _ (by omega) (by omega) (HT.out.below c8)).mono ?_
    rw [EA.out, EB.out, ED.out]
    rintro e w9 ⟨rfl, b9⟩
    have c9 := bt c8 b9
    clear c8 b9
    go_wp2_with fail
    refine (cmp_any a b _ (by omega) (by omega) (HT.out.below c9)).mono ?_
    rintro e w10 ⟨rfl, b10⟩
    have c10 := bt c9 b10
    clear c9 b10
    generalize cmpL (pts a) (pts b) = z at *
    go_wp2_with fail
    refine (cut_any (p ++ a) _ _ (by omega) (by omega)).mono ?_
    first | rw [EC.out] | rw [show cutS (p ++ a) 0 = p from EC.out]
    rintro e w11 ⟨rfl, b11⟩
    have c11 := bt c10 b11
    clear c10 b11
    go_wp2
    go_ret
    exact ⟨ret_bool (by simp), c11⟩
end Go.Proofs.YthkkphfnfggpaaaDoor
