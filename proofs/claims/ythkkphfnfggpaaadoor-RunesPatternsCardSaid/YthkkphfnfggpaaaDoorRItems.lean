/- The reference's items of a pattern. -/
import Derived.Test.YthkkphfnfggpaaaDoorRClass
import Derived.Test.YthkkphfnfggpaaaDoorParse
namespace Go.Proofs.YthkkphfnfggpaaaDoor
open Go.RowKit

/-- the cells of items -/
def itemCells : List Prt → List (Value × Value) → List Value
  | p :: ps, v :: vs => .bool p.star :: .bool p.neg :: v.1 :: v.2 :: itemCells ps vs
  | _, _ => []
theorem itemCells_snoc : ∀ (ps : List Prt) (vs : List (Value × Value)) (p : Prt) (v : Value × Value), ps.length = vs.length → itemCells (ps ++ [p]) (vs ++ [v]) = itemCells ps vs ++ [.bool p.star, .bool p.neg, v.1, v.2]
  | [], [], p, v, _ => rfl
  | a :: ps, b :: vs, p, v, h => by
    simp only [List.cons_append, itemCells]
    rw [itemCells_snoc ps vs p v (by simpa using h)]
  | [], _ :: _, _, _, h => by simp at h
  | _ :: _, [], _, _, h => by simp at h
/-- an item's two rows -/
def RowsAt (w : World) (B : Nat) (p : Prt) (x : Value × Value) : Prop :=
  w.ownsRow B 21 1 x.1 p.spans.length (i32s (p.spans.map Prod.fst)) ∧ w.ownsRow B 21 1 x.2 p.spans.length (i32s (p.spans.map Prod.snd))
/-- items in memory -/
def ItemsAt (w : World) (B : Nat) (v : Value) (ps : List Prt) (vs : List (Value × Value)) : Prop :=
  ps.length = vs.length ∧ w.ownsRow B 63 4 v ps.length (itemCells ps vs) ∧ ∀ (i : Nat) p x, ps[i]? = some p → vs[i]? = some x → RowsAt w B p x
theorem info_item : (Tryd.prog.info? 63).map (fun i => (i.zero, i.size, i.bytes)) = some (some (.agg #[.bool false, .bool false, .slice none 0 0, .slice none 0 0]), 4, 56) := by kernel_rfl
theorem RowsAt.below {w w' : World} {B : Nat} {p : Prt} {x : Value × Value} (h : RowsAt w B p x) (hb : Below w.heap.size w w') : RowsAt w' B p x := ⟨own_below h.1 hb, own_below h.2 hb⟩
theorem ItemsAt.below {w w' : World} {B : Nat} {v : Value} {ps : List Prt} {vs : List (Value × Value)} (h : ItemsAt w B v ps vs) (hb : Below w.heap.size w w') : ItemsAt w' B v ps vs :=
  ⟨h.1, own_below h.2.1 hb, fun i p x h1 h2 => (h.2.2 i p x h1 h2).below hb⟩
theorem ItemsAt.snoc {W w1 : World} {B : Nat} {v v' : Value} {ps : List Prt} {vs : List (Value × Value)} (h : ItemsAt W B v ps vs) {p : Prt} {x : Value × Value}
    (h1 : W.ownsRow B 21 1 x.1 p.spans.length (i32s (p.spans.map Prod.fst))) (h2 : W.ownsRow B 21 1 x.2 p.spans.length (i32s (p.spans.map Prod.snd)))
    (ho : w1.ownsRow B 63 4 v' (ps.length + 1) (itemCells ps vs ++ [.bool p.star, .bool p.neg, x.1, x.2])) (hg : W.grownBy w1 v.ownBlock) : ItemsAt w1 B v' (ps ++ [p]) (vs ++ [x]) := by
  refine ⟨by simp [h.1], ?_, ?_⟩
  · rw [itemCells_snoc _ _ _ _ h.1]; simpa using ho
  · intro i q y hq hy
    by_cases hi : i < ps.length
    · rw [List.getElem?_append_left hi] at hq
      rw [List.getElem?_append_left (by rw [← h.1]; exact hi)] at hy
      have := h.2.2 i q y hq hy
      exact ⟨own_keep this.1 h.2.1 (by decide) hg, own_keep this.2 h.2.1 (by decide) hg⟩
    · have hi2 : i = ps.length := by
        have := (List.getElem?_eq_some_iff.1 hq).1; simp at this; omega
      subst hi2
      rw [List.getElem?_append_right (Nat.le_refl _)] at hq
      rw [List.getElem?_append_right (by rw [h.1]; exact Nat.le_refl _), h.1] at hy
      simp at hq hy
      subst hq hy
      exact ⟨own_keep h1 h.2.1 (by decide) hg, own_keep h2 h.2.1 (by decide) hg⟩
theorem ones4 (a b : Bool) (p : Option Addr) (n c : Nat) (p2 : Option Addr) (n2 c2 : Nat) : ∀ u ∈ [Value.bool a, .bool b, .slice p n c, .slice p2 n2 c2], u.oneCell' = true := by
  intro u hu; simp at hu; rcases hu with rfl | rfl | rfl | rfl <;> rfl
theorem rows_nil (w : World) (B : Nat) : w.ownsRow B 21 1 (.slice none 0 0) 0 [] := World.ownsRow_nil _ _ _ _
def RItemsPost (s : ByteArray) (w : World) (o : (List Prt) ⊕ Nat) (e : Ending) (w' : World) : Prop :=
  match o with
  | .inl ps => ∃ v vs, e = .returned (.tuple #[v, .int .i64 0, .int .i64 0]) ∧ ItemsAt w' w.heap.size v ps vs ∧ ps.length ≤ s.size ∧ Below w.heap.size w w'
  | .inr k => e = .returned (.tuple #[.slice none 0 0, .int .i64 12, .int .i64 (((plc s).getD k 0 : Nat) : Int)]) ∧ Below w.heap.size w w'

set_option maxRecDepth 100000 in
set_option maxHeartbeats 8000000 in
theorem ritems_any (s : ByteArray) (w : World) (hs : s.size ≤ 1099511627776) :
    Calls Tryd.prog 39 #[.string s] w (RItemsPost s w (parseF s)) := by
  obtain ⟨i0, hi0, hz0, hz1, hz2⟩ := info_parts info_item
  have hl := pts_len s
  have HF : Hid (parseF s = parseGo (pts s) ((pts s).length + 1) 0 []) := rfl
  go_enter Tryd.func39, Tryd.ntmps39
  go_wp2
  go_loopg [5, 6] ((pts s).length + 1) (fun g v a1 wr => ∃ (k q : Nat) (acc : List Prt) (vs : List (Value × Value)), Cur s k q ∧ a1 = .int .i64 q ∧ acc.length ≤ k ∧ k ≤ (pts s).length ∧ (pts s).length + 1 - k ≤ g ∧ parseGo (pts s) g k acc = parseGo (pts s) ((pts s).length + 1) 0 [] ∧ ItemsAt wr w.heap.size v acc vs ∧ Below w.heap.size w wr)
  case atStart => exact ⟨0, 0, [], [], Cur.start s, rfl, by simp, by omega, by omega, rfl, ⟨rfl, World.ownsRow_nil _ _ _ _, fun i p x h => by simp at h⟩, Below.refl _ _⟩
  case round =>
    obtain ⟨k, q, acc, vs, hcur, rfl, hacc, hk, hg, hx, hI, hb⟩ := hrel
    have HX := Lib.hid hx
    have HCU := Lib.hid hcur
    have HI := Lib.hid hI
    have HB := Lib.hid hb
    have hbs := hb.size
    obtain ⟨va0, vc0, hv0⟩ := slice_of_own hI.2.1
    subst hv0
    clear hx hI hb
    by_cases hlt : q < s.size
    · obtain ⟨g, rfl⟩ : ∃ g, gk = g + 1 := ⟨gk - 1, by omega⟩
      obtain ⟨hkl, hxe, hpe, hcn⟩ := hcur.more hlt
      have hqn := hcn.1
      have HPL := Lib.hid hpe
      have HCN := Lib.hid hcn
      have HPC := Lib.hid (fun W => piece_any s q W hs hlt)
      have HC : Hid (parseGo (pts s) (g + 1) k acc = (if (pts s).getD k 0 = 42 then parseGo (pts s) g (k + 1) (acc ++ [starP])
   else if (pts s).getD k 0 = 63 then parseGo (pts s) g (k + 1) (acc ++ [anyP])
   else if (pts s).getD k 0 = 91 then (match classF (pts s) (k + 1) with
     | none => .inr k
     | some (p, k') => parseGo (pts s) g k' (acc ++ [p]))
   else if (pts s).getD k 0 = 92 then (if k + 1 < (pts s).length then parseGo (pts s) g (k + 2) (acc ++ [oneP ((pts s).getD (k + 1) 0)]) else .inr k)
   else parseGo (pts s) g (k + 1) (acc ++ [oneP ((pts s).getD k 0)]))) := by show _ = _; simp only [parseGo, if_pos hkl]; rfl
      generalize hxc : ((Utf8.decode s q).1 : Int) = x at *
      generalize (Utf8.decode s q).2 = n at *
      have HXE := Lib.hid hxe
      rw [hxe] at HC
      clear hcur hxe hpe hcn hxc
      go_wp2_with fail
      refine (HPC.out _).mono ?_
      rintro e w2 ⟨rfl, rfl⟩
      by_cases h42 : x = 42
      · have EQ : Hid (parseGo (pts s) (g + 1) k acc = parseGo (pts s) g (k + 1) (acc ++ [starP])) := by show _ = _; rw [HC.out, if_pos h42]
        have t42 : (x == 42) = true := by first | (rw [beq_iff_eq]; omega) | (rw [beq_eq_false_iff_ne]; omega)
        have CL := Lib.hid (HCU.out.low hlt (by omega) (HXE.out.trans h42))
        clear h42
        go_wp2_with (at_builtin; go_loud (refine wpList_append_own _ rfl _ _ 57 rfl w.heap.size 63 i0 (.agg #[.bool false, .bool false, .slice none 0 0, .slice none 0 0]) 4 56 Tryd.underlying57 hi0 hz0 hz1 hz2 rfl (by decide) _ _ _ rfl (HI.out.2.1.alloc _) ⟨_, 0, none⟩ 1 1 [.bool true, .bool false, .slice none 0 0, .slice none 0 0] rfl rfl (newsAt _ _ [.bool true, .bool false, .slice none 0 0, .slice none 0 0] _ (by simp)) (ones4 _ _ _ _ _ _ _ _) (by unfold maxLen; omega) (by omega) (by simp; omega) ?_))
        intro v' w9 hown' hgrow hne
        have HP9 := Lib.hid ((HI.out.below ((Below.refl _ _).alloc (Nat.le_refl _) _)).snoc (p := starP) (x := (.slice none 0 0, .slice none 0 0)) (own_below (rows_nil wr w.heap.size) ((Below.refl _ _).alloc (Nat.le_refl _) _)) (own_below (rows_nil wr w.heap.size) ((Below.refl _ _).alloc (Nat.le_refl _) _)) hown' hgrow)
        have HB9 : Hid (Below w.heap.size w w9) := (HB.out.alloc HB.out.size _).grown hgrow (by have := HB.out.size; simp; omega) (fun j hj => (HI.out.2.1.lt j hj).1)
        obtain ⟨va, vc, hv'⟩ := slice_of_own hown'
        subst hv'
        clear hown' hgrow hne
        go_wp2
        go_roundg g
        case measure => omega
        case rel => exact ⟨k + 1, q + 1, acc ++ [starP], vs ++ [(.slice none 0 0, .slice none 0 0)], CL.out, by push_cast; rfl, by rw [List.length_append]; simp; omega, by omega, by omega, by rw [← HX.out]; exact EQ.out.symm, HP9.out, HB9.out⟩
      by_cases h63 : x = 63
      · have EQ : Hid (parseGo (pts s) (g + 1) k acc = parseGo (pts s) g (k + 1) (acc ++ [anyP])) := by show _ = _; rw [HC.out, if_neg h42, if_pos h63]
        have t42 : (x == 42) = false := by first | (rw [beq_iff_eq]; omega) | (rw [beq_eq_false_iff_ne]; omega)
        have t63 : (x == 63) = true := by first | (rw [beq_iff_eq]; omega) | (rw [beq_eq_false_iff_ne]; omega)
        have CL := Lib.hid (HCU.out.low hlt (by omega) (HXE.out.trans h63))
        clear h42 h63
        go_wp2_with (at_builtin; go_loud (refine wpList_append_own _ rfl _ _ 57 rfl w.heap.size 63 i0 (.agg #[.bool false, .bool false, .slice none 0 0, .slice none 0 0]) 4 56 Tryd.underlying57 hi0 hz0 hz1 hz2 rfl (by decide) _ _ _ rfl (HI.out.2.1.alloc _) ⟨_, 0, none⟩ 1 1 [.bool false, .bool true, .slice none 0 0, .slice none 0 0] rfl rfl (newsAt _ _ [.bool false, .bool true, .slice none 0 0, .slice none 0 0] _ (by simp)) (ones4 _ _ _ _ _ _ _ _) (by unfold maxLen; omega) (by omega) (by simp; omega) ?_))
        intro v' w9 hown' hgrow hne
        have HP9 := Lib.hid ((HI.out.below ((Below.refl _ _).alloc (Nat.le_refl _) _)).snoc (p := anyP) (x := (.slice none 0 0, .slice none 0 0)) (own_below (rows_nil wr w.heap.size) ((Below.refl _ _).alloc (Nat.le_refl _) _)) (own_below (rows_nil wr w.heap.size) ((Below.refl _ _).alloc (Nat.le_refl _) _)) hown' hgrow)
        have HB9 : Hid (Below w.heap.size w w9) := (HB.out.alloc HB.out.size _).grown hgrow (by have := HB.out.size; simp; omega) (fun j hj => (HI.out.2.1.lt j hj).1)
        obtain ⟨va, vc, hv'⟩ := slice_of_own hown'
        subst hv'
        clear hown' hgrow hne
        go_wp2
        go_roundg g
        case measure => omega
        case rel => exact ⟨k + 1, q + 1, acc ++ [anyP], vs ++ [(.slice none 0 0, .slice none 0 0)], CL.out, by push_cast; rfl, by rw [List.length_append]; simp; omega, by omega, by omega, by rw [← HX.out]; exact EQ.out.symm, HP9.out, HB9.out⟩
      by_cases h91 : x = 91
      · have EQ : Hid (parseGo (pts s) (g + 1) k acc = (match classF (pts s) (k + 1) with | none => .inr k | some (p, k') => parseGo (pts s) g k' (acc ++ [p]))) := by show _ = _; rw [HC.out, if_neg h42, if_neg h63, if_pos h91]
        have t42 : (x == 42) = false := by first | (rw [beq_iff_eq]; omega) | (rw [beq_eq_false_iff_ne]; omega)
        have t63 : (x == 63) = false := by first | (rw [beq_iff_eq]; omega) | (rw [beq_eq_false_iff_ne]; omega)
        have t92 : (x == 92) = false := by first | (rw [beq_iff_eq]; omega) | (rw [beq_eq_false_iff_ne]; omega)
        have t91 : (x == 91) = true := by first | (rw [beq_iff_eq]; omega) | (rw [beq_eq_false_iff_ne]; omega)
        have H91 := Lib.hid (HXE.out.trans h91)
        have HRC := Lib.hid (fun W => rclass_any s k q W hs HCU.out hlt H91.out)
        clear h42 h63 h91
        cases hcf : classF (pts s) (k + 1) with
        | none =>
          have HE : Hid (parseF s = .inr k) := by show _ = _; rw [HF.out, ← HX.out, EQ.out, hcf]
          rw [hcf] at HRC
          clear hcf
          go_wp2_with fail
          refine (HRC.out _).mono ?_
          rintro e w4 ⟨neg, la, ln, lc, ra, rn, rc, a, rfl, b4⟩
          have HB4 := Lib.hid (HB.out.trans (b4.mono hbs))
          clear b4
          go_wp2
          go_ret3
          show RItemsPost s w (parseF s) _ _
          rw [HE.out]
          exact ⟨by rw [HPL.out]; rfl, HB4.out.alloc HB4.out.size _⟩
        | some pk =>
          obtain ⟨pp, k'⟩ := pk
          have hkk := classF_lt hcf
          have EQ2 : Hid (parseGo (pts s) (g + 1) k acc = parseGo (pts s) g k' (acc ++ [pp])) := by show _ = _; rw [EQ.out, hcf]
          rw [hcf] at HRC
          clear hcf
          obtain ⟨star, neg, spans⟩ := pp
          go_wp2_with fail
          refine (HRC.out _).mono ?_
          rintro e w4 ⟨lo, hi, q', rfl, hst, hcu, o1, o2, b4⟩
          simp only at hst
          subst hst
          obtain ⟨la, lc, hlo⟩ := slice_of_own o1
          subst hlo
          obtain ⟨ra, rc, hhi⟩ := slice_of_own o2
          subst hhi
          have hb4 := HB.out.trans (b4.mono hbs)
          have hbs4 : w.heap.size ≤ w4.heap.size := hb4.size
          have HB4 := Lib.hid (hb4.alloc hb4.size (.cells #[.bool false, .bool neg, .slice la spans.length lc, .slice ra spans.length rc] 63))
          have HI4 := Lib.hid ((HI.out.below b4).below ((Below.refl _ _).alloc (Nat.le_refl _) (.cells #[.bool false, .bool neg, .slice la spans.length lc, .slice ra spans.length rc] 63)))
          have O1 := Lib.hid ((own_mono o1 hbs).alloc (.cells #[.bool false, .bool neg, .slice la spans.length lc, .slice ra spans.length rc] 63))
          have O2 := Lib.hid ((own_mono o2 hbs).alloc (.cells #[.bool false, .bool neg, .slice la spans.length lc, .slice ra spans.length rc] 63))
          have HCN2 := Lib.hid hcu
          clear o1 o2 b4 hb4 hcu
          go_wp2_with (at_builtin; go_loud (refine wpList_append_own _ rfl _ _ 57 rfl w.heap.size 63 i0 (.agg #[.bool false, .bool false, .slice none 0 0, .slice none 0 0]) 4 56 Tryd.underlying57 hi0 hz0 hz1 hz2 rfl (by decide) _ _ _ rfl (HI4.out.2.1.alloc _) ⟨_, 0, none⟩ 1 1 [.bool false, .bool neg, .slice la spans.length lc, .slice ra spans.length rc] rfl rfl (newsAt _ _ [.bool false, .bool neg, .slice la spans.length lc, .slice ra spans.length rc] _ (by simp)) (ones4 _ _ _ _ _ _ _ _) (by unfold maxLen; omega) (by omega) (by simp; omega) ?_))
          intro v' w9 hown' hgrow hne
          have HP9 := Lib.hid ((HI4.out.below ((Below.refl _ _).alloc (Nat.le_refl _) _)).snoc (p := ⟨false, neg, spans⟩) (x := (.slice la spans.length lc, .slice ra spans.length rc)) (own_below O1.out ((Below.refl _ _).alloc (Nat.le_refl _) _)) (own_below O2.out ((Below.refl _ _).alloc (Nat.le_refl _) _)) hown' hgrow)
          have HB9 : Hid (Below w.heap.size w w9) := (HB4.out.alloc HB4.out.size _).grown hgrow (by have := HB4.out.size; simp; omega) (fun j hj => (HI4.out.2.1.lt j hj).1)
          obtain ⟨va, vc, hv'⟩ := slice_of_own hown'
          subst hv'
          clear hown' hgrow hne
          go_wp2
          go_roundg g
          case measure => omega
          case rel => exact ⟨k', q', acc ++ [⟨false, neg, spans⟩], vs ++ [(.slice la spans.length lc, .slice ra spans.length rc)], HCN2.out, by push_cast; rfl, by rw [List.length_append]; simp; omega, by omega, by omega, by rw [← HX.out]; exact EQ2.out.symm, HP9.out, HB9.out⟩
      by_cases h92 : x = 92
      · have EQ : Hid (parseGo (pts s) (g + 1) k acc = (if k + 1 < (pts s).length then parseGo (pts s) g (k + 2) (acc ++ [oneP ((pts s).getD (k + 1) 0)]) else .inr k)) := by show _ = _; rw [HC.out, if_neg h42, if_neg h63, if_neg h91, if_pos h92]
        have t42 : (x == 42) = false := by first | (rw [beq_iff_eq]; omega) | (rw [beq_eq_false_iff_ne]; omega)
        have t63 : (x == 63) = false := by first | (rw [beq_iff_eq]; omega) | (rw [beq_eq_false_iff_ne]; omega)
        have t91 : (x == 91) = false := by first | (rw [beq_iff_eq]; omega) | (rw [beq_eq_false_iff_ne]; omega)
        have t92 : (x == 92) = true := by first | (rw [beq_iff_eq]; omega) | (rw [beq_eq_false_iff_ne]; omega)
        have hcl := HCU.out.low hlt (by omega) (HXE.out.trans h92)
        clear h42 h63 h91 h92
        by_cases hq1 : q + 1 < s.size
        · obtain ⟨hkl2, hxe2, _, hcn2⟩ := hcl.more hq1
          have te : (((q : Int) + 1) == (s.size : Int)) = false := by rw [beq_eq_false_iff_ne]; omega
          have HPC2 := Lib.hid (fun W => piece_any s (q + 1) W hs hq1)
          simp only [Int.natCast_add, Int.natCast_one] at HPC2
          have EQ2 : Hid (parseGo (pts s) (g + 1) k acc = parseGo (pts s) g (k + 2) (acc ++ [oneP ((pts s).getD (k + 1) 0)])) := by show _ = _; rw [EQ.out, if_pos hkl2]
          rw [hxe2] at EQ2
          have hqn2 := hcn2.1
          have HCN2 := Lib.hid hcn2
          generalize ((Utf8.decode s (q + 1)).1 : Int) = x2 at *
          generalize (Utf8.decode s (q + 1)).2 = n2 at *
          clear hcl hxe2 hcn2
          go_wp2_with fail
          refine (HPC2.out _).mono ?_
          rintro e w2 ⟨rfl, rfl⟩
          go_wp2_with fail
          refine (one_any x2 _).mono ?_
          rintro e w3 ⟨lo, hi, rfl, o1, o2, b3⟩
          have HI3 := Lib.hid (HI.out.below b3)
          have hb3 := HB.out.trans (b3.mono hbs)
          have hbs3 : w.heap.size ≤ w3.heap.size := hb3.size
          have HB3 := Lib.hid hb3
          have O1 := Lib.hid (own_mono o1 hbs)
          have O2 := Lib.hid (own_mono o2 hbs)
          obtain ⟨la, lc, rfl⟩ := slice_of_own o1
          obtain ⟨ra, rc, rfl⟩ := slice_of_own o2
          clear o1 o2 b3 hb3
          
          go_wp2_with (at_builtin; go_loud (refine wpList_append_own _ rfl _ _ 57 rfl w.heap.size 63 i0 (.agg #[.bool false, .bool false, .slice none 0 0, .slice none 0 0]) 4 56 Tryd.underlying57 hi0 hz0 hz1 hz2 rfl (by decide) _ _ _ rfl (HI3.out.2.1.alloc _) ⟨_, 0, none⟩ 1 1 [.bool false, .bool false, .slice la 1 lc, .slice ra 1 rc] rfl rfl (newsAt _ _ [.bool false, .bool false, .slice la 1 lc, .slice ra 1 rc] _ (by simp)) (ones4 _ _ _ _ _ _ _ _) (by unfold maxLen; omega) (by omega) (by simp; omega) ?_))
          intro v' w9 hown' hgrow hne
          have HP9 := Lib.hid ((HI3.out.below ((Below.refl _ _).alloc (Nat.le_refl _) _)).snoc (p := oneP x2) (x := (.slice la 1 lc, .slice ra 1 rc)) (own_below O1.out ((Below.refl _ _).alloc (Nat.le_refl _) _)) (own_below O2.out ((Below.refl _ _).alloc (Nat.le_refl _) _)) hown' hgrow)
          have HB9 : Hid (Below w.heap.size w w9) := (HB3.out.alloc HB3.out.size _).grown hgrow (by have := HB3.out.size; simp; omega) (fun j hj => (HI3.out.2.1.lt j hj).1)
          obtain ⟨va, vc, hv'⟩ := slice_of_own hown'
          subst hv'
          clear hown' hgrow hne
          go_wp2
          go_roundg g
          case measure => omega
          case rel => exact ⟨k + 2, q + 1 + n2, acc ++ [oneP x2], vs ++ [(.slice la 1 lc, .slice ra 1 rc)], HCN2.out, by push_cast; rfl, by rw [List.length_append]; simp; omega, by omega, by omega, by rw [← HX.out]; exact EQ2.out.symm, HP9.out, HB9.out⟩
        · have te : (((q : Int) + 1) == (s.size : Int)) = true := by rw [beq_iff_eq]; omega
          have HE : Hid (parseF s = .inr k) := by show _ = _; rw [HF.out, ← HX.out, EQ.out, if_neg (hcl.over hq1)]
          clear hcl
          go_wp2
          go_ret3
          show RItemsPost s w (parseF s) _ _
          rw [HE.out]
          exact ⟨by rw [HPL.out]; rfl, HB.out⟩
      have EQ : Hid (parseGo (pts s) (g + 1) k acc = parseGo (pts s) g (k + 1) (acc ++ [oneP x])) := by show _ = _; rw [HC.out, if_neg h42, if_neg h63, if_neg h91, if_neg h92]
      have t42 : (x == 42) = false := by first | (rw [beq_iff_eq]; omega) | (rw [beq_eq_false_iff_ne]; omega)
      have t63 : (x == 63) = false := by first | (rw [beq_iff_eq]; omega) | (rw [beq_eq_false_iff_ne]; omega)
      have t91 : (x == 91) = false := by first | (rw [beq_iff_eq]; omega) | (rw [beq_eq_false_iff_ne]; omega)
      have t92 : (x == 92) = false := by first | (rw [beq_iff_eq]; omega) | (rw [beq_eq_false_iff_ne]; omega)
      clear h42 h63 h91 h92
      go_wp2_with fail
      refine (one_any x _).mono ?_
      rintro e w3 ⟨lo, hi, rfl, o1, o2, b3⟩
      have HI3 := Lib.hid (HI.out.below b3)
      have hb3 := HB.out.trans (b3.mono hbs)
      have hbs3 : w.heap.size ≤ w3.heap.size := hb3.size
      have HB3 := Lib.hid hb3
      have O1 := Lib.hid (own_mono o1 hbs)
      have O2 := Lib.hid (own_mono o2 hbs)
      obtain ⟨la, lc, rfl⟩ := slice_of_own o1
      obtain ⟨ra, rc, rfl⟩ := slice_of_own o2
      clear o1 o2 b3 hb3
      
      go_wp2_with (at_builtin; go_loud (refine wpList_append_own _ rfl _ _ 57 rfl w.heap.size 63 i0 (.agg #[.bool false, .bool false, .slice none 0 0, .slice none 0 0]) 4 56 Tryd.underlying57 hi0 hz0 hz1 hz2 rfl (by decide) _ _ _ rfl (HI3.out.2.1.alloc _) ⟨_, 0, none⟩ 1 1 [.bool false, .bool false, .slice la 1 lc, .slice ra 1 rc] rfl rfl (newsAt _ _ [.bool false, .bool false, .slice la 1 lc, .slice ra 1 rc] _ (by simp)) (ones4 _ _ _ _ _ _ _ _) (by unfold maxLen; omega) (by omega) (by simp; omega) ?_))
      intro v' w9 hown' hgrow hne
      have HP9 := Lib.hid ((HI3.out.below ((Below.refl _ _).alloc (Nat.le_refl _) _)).snoc (p := oneP x) (x := (.slice la 1 lc, .slice ra 1 rc)) (own_below O1.out ((Below.refl _ _).alloc (Nat.le_refl _) _)) (own_below O2.out ((Below.refl _ _).alloc (Nat.le_refl _) _)) hown' hgrow)
      have HB9 : Hid (Below w.heap.size w w9) := (HB3.out.alloc HB3.out.size _).grown hgrow (by have := HB3.out.size; simp; omega) (fun j hj => (HI3.out.2.1.lt j hj).1)
      obtain ⟨va, vc, hv'⟩ := slice_of_own hown'
      subst hv'
      clear hown' hgrow hne
      go_wp2
      go_roundg g
      case measure => omega
      case rel => exact ⟨k + 1, q + n, acc ++ [oneP x], vs ++ [(.slice la 1 lc, .slice ra 1 rc)], HCN.out, by push_cast; rfl, by rw [List.length_append]; simp; omega, by omega, by omega, by rw [← HX.out]; exact EQ.out.symm, HP9.out, HB9.out⟩
    · have hov := hcur.over hlt
      have HE : Hid (parseF s = .inl acc) := by show _ = _; rw [HF.out, ← HX.out]; cases gk <;> simp [parseGo, hov]
      clear hcur hov
      go_wp2
      go_ret3
      show RItemsPost s w (parseF s) _ _
      rw [HE.out]
      exact ⟨_, vs, rfl, HI.out, by omega, HB.out⟩
end Go.Proofs.YthkkphfnfggpaaaDoor
