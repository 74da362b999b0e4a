/- A pattern's parts. -/
import Derived.Test.YthkkphfnfggpaaaDoorRead
namespace Go.Proofs.YthkkphfnfggpaaaDoor
open Go.RowKit

def starP : Prt := ⟨true, false, []⟩
def anyP : Prt := ⟨false, true, []⟩
def oneP (c : Int) : Prt := ⟨false, false, [(c, c)]⟩
/-- a pattern's parts, or where it is wrong -/
def parseGo (L : List Int) : Nat → Nat → List Prt → (List Prt) ⊕ Nat
  | 0, _, acc => .inl acc
  | f + 1, k, acc => if k < L.length then
      (if L.getD k 0 = 42 then parseGo L f (k + 1) (acc ++ [starP])
       else if L.getD k 0 = 63 then parseGo L f (k + 1) (acc ++ [anyP])
       else if L.getD k 0 = 91 then (match classF L (k + 1) with
         | none => .inr k
         | some (p, k') => parseGo L f k' (acc ++ [p]))
       else if L.getD k 0 = 92 then (if k + 1 < L.length then parseGo L f (k + 2) (acc ++ [oneP (L.getD (k + 1) 0)]) else .inr k)
       else parseGo L f (k + 1) (acc ++ [oneP (L.getD k 0)])) else .inl acc
def parseF (s : ByteArray) : (List Prt) ⊕ Nat := parseGo (pts s) ((pts s).length + 1) 0 []

theorem class_lt {L : List Int} : ∀ {f k : Nat} {acc : List (Int × Int)} {s : List (Int × Int)} {k' : Nat}, classGo L f k acc = some (s, k') → k < k' ∧ k' ≤ L.length
  | 0, _, _, _, _, h => by cases h
  | f + 1, k, acc, s, k', h => by
    simp only [classGo] at h
    split at h
    · split at h
      · split at h
        · cases h
        · simp at h; omega
      · split at h
        · cases h
        · rename_i p k1 h1
          have := item_lt h1
          have := class_lt h
          omega
    · cases h
theorem classF_lt {L : List Int} {k : Nat} {p : Prt} {k' : Nat} (h : classF L k = some (p, k')) : k < k' ∧ k' ≤ L.length := by
  unfold classF at h
  split at h
  · cases h
  · rename_i s k1 h1
    have := class_lt h1
    simp at h
    split at this <;> omega

theorem classF_star {L : List Int} {k : Nat} {p : Prt} {k' : Nat} (h : classF L k = some (p, k')) : p.star = false := by
  unfold classF at h
  split at h
  · cases h
  · simp at h; rw [← h.1]

/-- the cells of parts -/
def partCells : List Prt → List Value → List Value
  | p :: ps, sv :: svs => .bool p.star :: .bool p.neg :: sv :: partCells ps svs
  | _, _ => []
theorem partCells_snoc : ∀ (ps : List Prt) (svs : List Value) (p : Prt) (sv : Value), ps.length = svs.length → partCells (ps ++ [p]) (svs ++ [sv]) = partCells ps svs ++ [.bool p.star, .bool p.neg, sv]
  | [], [], p, sv, _ => rfl
  | a :: ps, b :: svs, p, sv, h => by
    simp only [List.cons_append, partCells]
    rw [partCells_snoc ps svs p sv (by simpa using h)]
  | [], _ :: _, _, _, h => by simp at h
  | _ :: _, [], _, _, h => by simp at h
/-- parts in memory -/
def PartsAt (w : World) (B : Nat) (v : Value) (ps : List Prt) (svs : List Value) : Prop :=
  ps.length = svs.length ∧ w.ownsRow B 81 3 v ps.length (partCells ps svs) ∧ ∀ (i : Nat) p sv, ps[i]? = some p → svs[i]? = some sv → SpansAt w B sv p.spans
theorem info_part : (Tryd.prog.info? 81).map (fun i => (i.zero, i.size, i.bytes)) = some (some (.agg #[.bool false, .bool false, .slice none 0 0]), 3, 32) := by kernel_rfl
theorem own_mono {w : World} {B B' : Nat} {e : TypeId} {size : Nat} {v : Value} {n : Nat} {xs : List Value} (h : w.ownsRow B e size v n xs) (hB : B' ≤ B) : w.ownsRow B' e size v n xs := by
  rcases h.2 with hn | ⟨g, cap, cur, rfl, hb, hr⟩
  · exact ⟨h.1, .inl hn⟩
  · exact ⟨h.1, .inr ⟨g, cap, cur, rfl, by omega, hr⟩⟩
theorem PartsAt.below {w w' : World} {B : Nat} {v : Value} {ps : List Prt} {svs : List Value} (h : PartsAt w B v ps svs) (hb : Below w.heap.size w w') : PartsAt w' B v ps svs :=
  ⟨h.1, own_below h.2.1 hb, fun i p sv h1 h2 => own_below (h.2.2 i p sv h1 h2) hb⟩
theorem PartsAt.only {w w' : World} {B : Nat} {v : Value} {ps : List Prt} {svs : List Value} (h : PartsAt w B v ps svs) {r : Nat} (hg : w.grownBy w' (some r)) {cs : Array Value} {fr : Nat × Nat} (hk : w.heap[r]? = some (.cells cs 77 fr)) : PartsAt w' B v ps svs :=
  ⟨h.1, own_only h.2.1 hg hk (by decide), fun i p sv h1 h2 => own_only (h.2.2 i p sv h1 h2) hg hk (by decide)⟩
theorem PartsAt.snoc {W w1 : World} {B : Nat} {v v' : Value} {ps : List Prt} {svs : List Value} (h : PartsAt W B v ps svs) {p : Prt} {sv : Value} (hs : SpansAt W B sv p.spans)
    (ho : w1.ownsRow B 81 3 v' (ps.length + 1) (partCells ps svs ++ [.bool p.star, .bool p.neg, sv])) (hg : W.grownBy w1 v.ownBlock) : PartsAt w1 B v' (ps ++ [p]) (svs ++ [sv]) := by
  refine ⟨by simp [h.1], ?_, ?_⟩
  · rw [partCells_snoc _ _ _ _ h.1]; simpa using ho
  · intro i q x hq hx
    by_cases hi : i < ps.length
    · rw [List.getElem?_append_left hi] at hq
      rw [List.getElem?_append_left (by rw [← h.1]; exact hi)] at hx
      exact own_keep (h.2.2 i q x hq hx) h.2.1 (by decide) hg
    · have hi2 : i = ps.length := by
        have := (List.getElem?_eq_some_iff.1 hq).1; simp at this; omega
      subst hi2
      rw [List.getElem?_append_right (Nat.le_refl _)] at hq
      rw [List.getElem?_append_right (by rw [h.1]; exact Nat.le_refl _), h.1] at hx
      simp at hq hx
      subst hq hx
      exact own_keep hs h.2.1 (by decide) hg
theorem SpansAt.nil (w : World) (B : Nat) : SpansAt w B (.slice none 0 0) [] := World.ownsRow_nil _ _ _ _
theorem SpansAt.one (w : World) (B : Nat) (c : Int) (hB : B ≤ w.heap.size) : SpansAt (w.alloc (.cells #[.int .i32 c, .int .i32 c] 85)) B (.slice (some ⟨w.heap.size, 0, none⟩) 1 1) [(c, c)] :=
  ⟨rfl, .inr ⟨w.heap.size, 1, _, rfl, hB, heap_alloc_new w _, Nat.le_refl _, by unfold maxLen; omega, rfl, rfl⟩⟩
theorem below_only {a w w' : World} {r : Nat} (h : Below a.heap.size a w) (hg : w.grownBy w' (some r)) (hr : a.heap.size ≤ r) : Below a.heap.size a w' :=
  ⟨hg.os.trans h.os, hg.tape.trans h.tape, hg.output.trans h.output, Nat.le_trans h.size hg.size, fun k hk => (hg.block k (Nat.lt_of_lt_of_le hk h.size) (by intro e; simp at e; omega)).trans (h.block k hk)⟩

theorem ones3 (a b : Bool) (p : Option Addr) (n c : Nat) : ∀ u ∈ [Value.bool a, .bool b, .slice p n c], u.oneCell' = true := by
  intro u hu; simp at hu; rcases hu with rfl | rfl | rfl <;> rfl

def ParsePost (s : ByteArray) (w : World) (o : (List Prt) ⊕ Nat) (e : Ending) (w' : World) : Prop :=
  match o with
  | .inl ps => ∃ v svs, e = .returned (.tuple #[v, .int .i64 0, .int .i64 0]) ∧ PartsAt w' w.heap.size v ps svs ∧ Below w.heap.size w w'
  | .inr k => e = .returned (.tuple #[.slice none 0 0, .int .i64 12, .int .i64 (((plc s).getD k 0 : Nat) : Int)]) ∧ Below w.heap.size w w'

set_option maxHeartbeats 8000000 in
theorem parse_any (s : ByteArray) (w : World) (hs : s.size ≤ 1099511627776) :
    Calls Tryd.prog 38 #[.string s] w (ParsePost s w (parseF s)) := by
  obtain ⟨i0, hi, hz0, hz1, hz2⟩ := info_parts info_part
  have hl := pts_len s
  go_enter Tryd.func38, Tryd.ntmps38
  go_wp2_with fail
  refine (read_any s _ hs).mono ?_
  rintro e w0 ⟨rfl, hb0, hR0⟩
  have HR0 := Lib.hid hR0
  clear hR0
  have HF : Hid (parseF s = parseGo (pts s) ((pts s).length + 1) 0 []) := rfl
  generalize hL : pts s = L at *
  generalize hP : plc s = PL at *
  have HL := Lib.hid hL
  have HP := Lib.hid hP
  clear hL hP
  go_wp2
  go_loopg [6] (L.length + 1) (fun g v wr => ∃ (k : Nat) (acc : List Prt) (svs : List Value), k ≤ L.length ∧ acc.length ≤ k ∧ L.length + 1 - k ≤ g ∧ parseGo L g k acc = parseGo L (L.length + 1) 0 [] ∧ Rd wr w.heap.size L PL k ∧ PartsAt wr w.heap.size v acc svs ∧ Below w.heap.size w wr)
  case atStart => exact ⟨0, [], [], by omega, by simp, by omega, rfl, HR0.out, ⟨rfl, World.ownsRow_nil _ _ _ _, fun i p sv h => by simp at h⟩, hb0⟩
  case round =>
    obtain ⟨k, acc, svs, hk, hacc, hg, hx, hR, hPA, hb⟩ := hrel
    have HX := Lib.hid hx
    have HRr := Lib.hid hR
    have HPA := Lib.hid hPA
    clear hx hR hPA hb0 HR0
    by_cases hlt : k < L.length
    · obtain ⟨g, rfl⟩ : ∃ g, gk = g + 1 := ⟨gk - 1, by omega⟩
      have hC : parseGo L (g + 1) k acc = (if L.getD k 0 = 42 then parseGo L g (k + 1) (acc ++ [starP])
       else if L.getD k 0 = 63 then parseGo L g (k + 1) (acc ++ [anyP])
       else if L.getD k 0 = 91 then (match classF L (k + 1) with
         | none => .inr k
         | some (p, k') => parseGo L g k' (acc ++ [p]))
       else if L.getD k 0 = 92 then (if k + 1 < L.length then parseGo L g (k + 2) (acc ++ [oneP (L.getD (k + 1) 0)]) else .inr k)
       else parseGo L g (k + 1) (acc ++ [oneP (L.getD k 0)])) := by simp only [parseGo, if_pos hlt]
      go_wp2_with fail
      refine (more_any _ L PL k _ HRr.out).mono ?_
      rw [decide_eq_true hlt]
      rintro e w2 ⟨rfl, q2⟩
      obtain ⟨n2, rfl⟩ := q2
      obtain ⟨ap, cp, aq, cq, c0, c1, c2, f2, hj⟩ := HRr.out.cells
      obtain ⟨bp, op, bq, oq, rfl, rfl, cc, cd⟩ := hj k hlt
      have hc := cd k hlt
      have hn := HRr.out.2.1
      clear c0 f2 cc cd hj
      generalize hpl : PL.getD k 0 = pl at *
      have HPL := Lib.hid hpl
      clear hpl
      generalize hxc : L.getD k 0 = x at hC
      have HXc := Lib.hid hxc
      have HC := Lib.hid hC
      clear hC hxc
      go_wp2
      go_quiet (fail)
      go_wp2_with fail
      refine (take_at _ L PL k x _ (HRr.out.drewN _) hlt HXc.out).mono ?_
      rintro e w3 ⟨rfl, g3, R3⟩
      obtain ⟨csr, hcsr⟩ := HRr.out.heap
      have hP3 : PartsAt w3 w.heap.size _ acc svs := HPA.out.only (only_trans (only_drewN (only_refl wr _) _) g3) hcsr
      have hb3 : Below w.heap.size w w3 := below_only hb (only_trans (only_drewN (only_refl wr _) _) g3) (Nat.le_refl _)
      have HP3 := Lib.hid hP3
      have HRX := Lib.hid R3
      have HBX := Lib.hid hb3
      have hbs : w.heap.size ≤ w3.heap.size := hb3.size
      clear g3 R3 hP3 hb3 hcsr hb HPA HRr c1 c2 hc
      by_cases h42 : x = 42
      · have EQ : Hid (parseGo L (g + 1) k acc = parseGo L g (k + 1) (acc ++ [starP])) := by show _ = _; rw [HC.out, if_pos h42]
        have t42 : (x == 42) = true := by first | (rw [beq_iff_eq]; omega) | (rw [beq_eq_false_iff_ne]; omega)
        clear h42
        go_wp2_with (at_builtin; go_loud (refine wpList_append_own _ rfl _ _ 54 rfl w.heap.size 81 i0 (.agg #[.bool false, .bool false, .slice none 0 0]) 3 32 Tryd.underlying54 hi hz0 hz1 hz2 rfl (by decide) _ _ _ rfl (HP3.out.2.1.alloc _) ⟨_, 0, none⟩ 1 1 [.bool true, .bool false, .slice none 0 0] rfl rfl (newsAt _ _ [.bool true, .bool false, .slice none 0 0] _ (by simp)) (ones3 _ _ _ _ _) (by unfold maxLen; omega) (by omega) (by simp; omega) ?_))
        intro v' w9 hown' hgrow hne
        have hP9 := (HP3.out.below ((Below.refl _ _).alloc (Nat.le_refl _) _)).snoc (p := starP) (own_below (SpansAt.nil w3 w.heap.size) ((Below.refl _ _).alloc (Nat.le_refl _) _)) hown' hgrow
        have hR9 := (HRX.out.alloc _).grown (HP3.out.2.1.alloc _) (by decide) hgrow
        have hb9 : Below w.heap.size w w9 := (HBX.out.alloc HBX.out.size _).grown hgrow (by have := HBX.out.size; simp; omega) (fun j hj => (HP3.out.2.1.lt j hj).1)
        have HQ : Hid (∃ (k : Nat) (acc : List Prt) (svs : List Value), k ≤ L.length ∧ acc.length ≤ k ∧ L.length + 1 - k ≤ g ∧ parseGo L g k acc = parseGo L (L.length + 1) 0 [] ∧ Rd w9 w.heap.size L PL k ∧ PartsAt w9 w.heap.size v' acc svs ∧ Below w.heap.size w w9) :=
          ⟨k + 1, acc ++ [starP], svs ++ [.slice none 0 0], by omega, by simp; omega, by omega, by rw [← HX.out, EQ.out], hR9, hP9, hb9⟩
        obtain ⟨va, vc, hv'⟩ := slice_of_own hown'
        subst hv'
        clear hown' hgrow hne hP9 hR9 hb9
        go_wp2
        go_roundg g
        case measure => omega
        case rel => exact HQ.out
      by_cases h63 : x = 63
      · have EQ : Hid (parseGo L (g + 1) k acc = parseGo L g (k + 1) (acc ++ [anyP])) := by show _ = _; rw [HC.out, if_neg h42, if_pos h63]
        have t42 : (x == 42) = false := by first | (rw [beq_iff_eq]; omega) | (rw [beq_eq_false_iff_ne]; omega)
        have t63 : (x == 63) = true := by first | (rw [beq_iff_eq]; omega) | (rw [beq_eq_false_iff_ne]; omega)
        clear h42 h63
        go_wp2_with (at_builtin; go_loud (refine wpList_append_own _ rfl _ _ 54 rfl w.heap.size 81 i0 (.agg #[.bool false, .bool false, .slice none 0 0]) 3 32 Tryd.underlying54 hi hz0 hz1 hz2 rfl (by decide) _ _ _ rfl (HP3.out.2.1.alloc _) ⟨_, 0, none⟩ 1 1 [.bool false, .bool true, .slice none 0 0] rfl rfl (newsAt _ _ [.bool false, .bool true, .slice none 0 0] _ (by simp)) (ones3 _ _ _ _ _) (by unfold maxLen; omega) (by omega) (by simp; omega) ?_))
        intro v' w9 hown' hgrow hne
        have hP9 := (HP3.out.below ((Below.refl _ _).alloc (Nat.le_refl _) _)).snoc (p := anyP) (own_below (SpansAt.nil w3 w.heap.size) ((Below.refl _ _).alloc (Nat.le_refl _) _)) hown' hgrow
        have hR9 := (HRX.out.alloc _).grown (HP3.out.2.1.alloc _) (by decide) hgrow
        have hb9 : Below w.heap.size w w9 := (HBX.out.alloc HBX.out.size _).grown hgrow (by have := HBX.out.size; simp; omega) (fun j hj => (HP3.out.2.1.lt j hj).1)
        have HQ : Hid (∃ (k : Nat) (acc : List Prt) (svs : List Value), k ≤ L.length ∧ acc.length ≤ k ∧ L.length + 1 - k ≤ g ∧ parseGo L g k acc = parseGo L (L.length + 1) 0 [] ∧ Rd w9 w.heap.size L PL k ∧ PartsAt w9 w.heap.size v' acc svs ∧ Below w.heap.size w w9) :=
          ⟨k + 1, acc ++ [anyP], svs ++ [.slice none 0 0], by omega, by simp; omega, by omega, by rw [← HX.out, EQ.out], hR9, hP9, hb9⟩
        obtain ⟨va, vc, hv'⟩ := slice_of_own hown'
        subst hv'
        clear hown' hgrow hne hP9 hR9 hb9
        go_wp2
        go_roundg g
        case measure => omega
        case rel => exact HQ.out
      by_cases h91 : x = 91
      · have EQ : Hid (parseGo L (g + 1) k acc = (match classF L (k + 1) with | none => .inr k | some (p, k') => parseGo L g k' (acc ++ [p]))) := by show _ = _; rw [HC.out, if_neg h42, if_neg h63, if_pos h91]
        have t42 : (x == 42) = false := by first | (rw [beq_iff_eq]; omega) | (rw [beq_eq_false_iff_ne]; omega)
        have t63 : (x == 63) = false := by first | (rw [beq_iff_eq]; omega) | (rw [beq_eq_false_iff_ne]; omega)
        have t91 : (x == 91) = true := by first | (rw [beq_iff_eq]; omega) | (rw [beq_eq_false_iff_ne]; omega)
        clear h42 h63 h91
        cases hcf : classF L (k + 1) with
        | none =>
          have HCF := Lib.hid hcf
          have HE : Hid (parseF s = .inr k) := by show _ = _; rw [HF.out, ← HX.out, EQ.out, hcf]
          clear hcf
          go_wp2_with fail
          refine (class_any _ L PL (k + 1) _ HRX.out).mono ?_
          rw [HCF.out]
          rintro e w4 ⟨nb, rfl, g4⟩
          have HB4 := Lib.hid (below_only HBX.out g4 (Nat.le_refl _))
          clear g4
          go_wp2
          go_ret3
          show ParsePost s w (parseF s) _ _
          rw [HE.out]
          exact ⟨by rw [HP.out, HPL.out]; rfl, HB4.out.alloc HB4.out.size _⟩
        | some pk =>
          obtain ⟨pp, k'⟩ := pk
          have hkk := classF_lt hcf
          have hst := classF_star hcf
          have EQ2 : Hid (parseGo L (g + 1) k acc = parseGo L g k' (acc ++ [pp])) := by show _ = _; rw [EQ.out, hcf]
          have HCF := Lib.hid hcf
          obtain ⟨star, neg, spans⟩ := pp
          simp only at hst
          subst hst
          clear hcf
          go_wp2_with fail
          refine (class_any _ L PL (k + 1) _ HRX.out).mono ?_
          rw [HCF.out]
          rintro e w4 ⟨sv, rfl, hsp, g4, R4⟩
          obtain ⟨csr, hcsr⟩ := HRX.out.heap
          have HP4 := Lib.hid ((HP3.out.only g4 hcsr).below ((Below.refl _ _).alloc (Nat.le_refl _) (.cells #[.bool false, .bool neg, sv] 81)))
          have HRX4 := Lib.hid (R4.alloc (.cells #[.bool false, .bool neg, sv] 81))
          have hb4 := below_only HBX.out g4 (Nat.le_refl _)
          have hbs4 : w.heap.size ≤ w4.heap.size := hb4.size
          have HBX4 := Lib.hid (hb4.alloc hb4.size (.cells #[.bool false, .bool neg, sv] 81))
          have HSP := Lib.hid ((own_mono hsp hbs).alloc (.cells #[.bool false, .bool neg, sv] 81))
          obtain ⟨sa, sc, hsv⟩ := slice_of_own hsp
          subst hsv
          clear g4 R4 hb4 hcsr hsp
          go_wp2_with (at_builtin; go_loud (refine wpList_append_own _ rfl _ _ 54 rfl w.heap.size 81 i0 (.agg #[.bool false, .bool false, .slice none 0 0]) 3 32 Tryd.underlying54 hi hz0 hz1 hz2 rfl (by decide) _ _ _ rfl (HP4.out.2.1.alloc _) ⟨_, 0, none⟩ 1 1 [.bool false, .bool neg, .slice sa spans.length sc] rfl rfl (newsAt _ _ [.bool false, .bool neg, .slice sa spans.length sc] _ (by simp)) (ones3 _ _ _ _ _) (by unfold maxLen; omega) (by omega) (by simp; omega) ?_))
          intro v' w9 hown' hgrow hne
          have hP9 := (HP4.out.below ((Below.refl _ _).alloc (Nat.le_refl _) _)).snoc (p := ⟨false, neg, spans⟩) (own_below HSP.out ((Below.refl _ _).alloc (Nat.le_refl _) _)) hown' hgrow
          have hR9 := (HRX4.out.alloc _).grown (HP4.out.2.1.alloc _) (by decide) hgrow
          have hb9 : Below w.heap.size w w9 := (HBX4.out.alloc HBX4.out.size _).grown hgrow (by have := HBX4.out.size; simp; omega) (fun j hj => (HP4.out.2.1.lt j hj).1)
          have HQ : Hid (∃ (k : Nat) (acc : List Prt) (svs : List Value), k ≤ L.length ∧ acc.length ≤ k ∧ L.length + 1 - k ≤ g ∧ parseGo L g k acc = parseGo L (L.length + 1) 0 [] ∧ Rd w9 w.heap.size L PL k ∧ PartsAt w9 w.heap.size v' acc svs ∧ Below w.heap.size w w9) :=
            ⟨k', acc ++ [⟨false, neg, spans⟩], svs ++ [.slice sa spans.length sc], by omega, by simp; omega, by omega, by rw [← HX.out, EQ2.out], hR9, hP9, hb9⟩
          obtain ⟨va, vc, hv'⟩ := slice_of_own hown'
          subst hv'
          clear hown' hgrow hne hP9 hR9 hb9
          go_wp2
          go_roundg g
          case measure => omega
          case rel => exact HQ.out
      by_cases h92 : x = 92
      · have EQ : Hid (parseGo L (g + 1) k acc = (if k + 1 < L.length then parseGo L g (k + 2) (acc ++ [oneP (L.getD (k + 1) 0)]) else .inr k)) := by show _ = _; rw [HC.out, if_neg h42, if_neg h63, if_neg h91, if_pos h92]
        have t42 : (x == 42) = false := by first | (rw [beq_iff_eq]; omega) | (rw [beq_eq_false_iff_ne]; omega)
        have t63 : (x == 63) = false := by first | (rw [beq_iff_eq]; omega) | (rw [beq_eq_false_iff_ne]; omega)
        have t91 : (x == 91) = false := by first | (rw [beq_iff_eq]; omega) | (rw [beq_eq_false_iff_ne]; omega)
        have t92 : (x == 92) = true := by first | (rw [beq_iff_eq]; omega) | (rw [beq_eq_false_iff_ne]; omega)
        clear h42 h63 h91 h92
        by_cases hk1 : k + 1 < L.length
        · generalize hx2 : L.getD (k + 1) 0 = x2 at EQ
          have EQ2 : Hid (parseGo L (g + 1) k acc = parseGo L g (k + 2) (acc ++ [oneP x2])) := by show _ = _; rw [EQ.out, if_pos hk1]
          have HX2 := Lib.hid hx2
          clear hx2
          go_wp2_with fail
          refine (more_any _ L PL (k + 1) _ HRX.out).mono ?_
          rw [decide_eq_true hk1]
          rintro e w4 ⟨rfl, q4⟩
          obtain ⟨n4, rfl⟩ := q4
          go_wp2_with fail
          refine (take_at _ L PL (k + 1) x2 _ (HRX.out.drewN n4) hk1 HX2.out).mono ?_
          rintro e w5 ⟨rfl, g5, R5⟩
          obtain ⟨csr, hcsr⟩ := HRX.out.heap
          have g6 := only_trans (only_drewN (only_refl w3 (some w.heap.size)) n4) g5
          have HP5 := Lib.hid (HP3.out.only g6 hcsr)
          have HRX5 := Lib.hid R5
          have hb5 := below_only HBX.out g6 (Nat.le_refl _)
          have hbs5 : w.heap.size ≤ w5.heap.size := hb5.size
          have HBX5 := Lib.hid hb5
          clear g5 g6 R5 hb5 hcsr
          have HRX2 := Lib.hid (HRX5.out.alloc (.cells #[.int .i32 x2, .int .i32 x2] 85))
          have HBX2 := Lib.hid (HBX5.out.alloc HBX5.out.size (.cells #[.int .i32 x2, .int .i32 x2] 85))
          have HP2 := Lib.hid (HP5.out.below ((Below.refl _ _).alloc (Nat.le_refl _) (.cells #[.int .i32 x2, .int .i32 x2] 85)))
          have HSP := Lib.hid (SpansAt.one w5 w.heap.size x2 HBX5.out.size)
          go_wp2_with (at_builtin; go_loud (refine wpList_append_own _ rfl _ _ 54 rfl w.heap.size 81 i0 (.agg #[.bool false, .bool false, .slice none 0 0]) 3 32 Tryd.underlying54 hi hz0 hz1 hz2 rfl (by decide) _ _ _ rfl (HP2.out.2.1.alloc _) ⟨_, 0, none⟩ 1 1 [.bool false, .bool false, .slice (some ⟨w5.heap.size, 0, none⟩) 1 1] rfl rfl (newsAt _ _ [.bool false, .bool false, .slice (some ⟨w5.heap.size, 0, none⟩) 1 1] _ (by simp)) (ones3 _ _ _ _ _) (by unfold maxLen; omega) (by omega) (by simp; omega) ?_))
          intro v' w9 hown' hgrow hne
          have hP9 := (HP2.out.below ((Below.refl _ _).alloc (Nat.le_refl _) _)).snoc (p := oneP x2) (own_below HSP.out ((Below.refl _ _).alloc (Nat.le_refl _) _)) hown' hgrow
          have hR9 := (HRX2.out.alloc _).grown (HP2.out.2.1.alloc _) (by decide) hgrow
          have hb9 : Below w.heap.size w w9 := (HBX2.out.alloc HBX2.out.size _).grown hgrow (by have := HBX2.out.size; simp; omega) (fun j hj => (HP2.out.2.1.lt j hj).1)
          have HQ : Hid (∃ (k : Nat) (acc : List Prt) (svs : List Value), k ≤ L.length ∧ acc.length ≤ k ∧ L.length + 1 - k ≤ g ∧ parseGo L g k acc = parseGo L (L.length + 1) 0 [] ∧ Rd w9 w.heap.size L PL k ∧ PartsAt w9 w.heap.size v' acc svs ∧ Below w.heap.size w w9) :=
            ⟨k + 2, acc ++ [oneP x2], svs ++ [.slice (some ⟨w5.heap.size, 0, none⟩) 1 1], by omega, by simp; omega, by omega, by rw [← HX.out, EQ2.out], hR9, hP9, hb9⟩
          obtain ⟨va, vc, hv'⟩ := slice_of_own hown'
          subst hv'
          clear hown' hgrow hne hP9 hR9 hb9
          go_wp2
          go_roundg g
          case measure => omega
          case rel => exact HQ.out
        · have HE : Hid (parseF s = .inr k) := by show _ = _; rw [HF.out, ← HX.out, EQ.out, if_neg hk1]
          go_wp2_with fail
          refine (more_any _ L PL (k + 1) _ HRX.out).mono ?_
          rw [decide_eq_false hk1]
          rintro e w4 ⟨rfl, q4⟩
          obtain ⟨n4, rfl⟩ := q4
          go_wp2
          go_ret3
          show ParsePost s w (parseF s) _ _
          rw [HE.out]
          exact ⟨by rw [HP.out, HPL.out]; rfl, below_drewN HBX.out _⟩
      have EQ : Hid (parseGo L (g + 1) k acc = parseGo L g (k + 1) (acc ++ [oneP x])) := by show _ = _; rw [HC.out, if_neg h42, if_neg h63, if_neg h91, if_neg h92]
      have t42 : (x == 42) = false := by first | (rw [beq_iff_eq]; omega) | (rw [beq_eq_false_iff_ne]; omega)
      have t63 : (x == 63) = false := by first | (rw [beq_iff_eq]; omega) | (rw [beq_eq_false_iff_ne]; omega)
      have t91 : (x == 91) = false := by first | (rw [beq_iff_eq]; omega) | (rw [beq_eq_false_iff_ne]; omega)
      have t92 : (x == 92) = false := by first | (rw [beq_iff_eq]; omega) | (rw [beq_eq_false_iff_ne]; omega)
      clear h42 h63 h91 h92
      have HRX2 := Lib.hid (HRX.out.alloc (.cells #[.int .i32 x, .int .i32 x] 85))
      have HBX2 := Lib.hid (HBX.out.alloc HBX.out.size (.cells #[.int .i32 x, .int .i32 x] 85))
      have HP2 := Lib.hid (HP3.out.below ((Below.refl _ _).alloc (Nat.le_refl _) (.cells #[.int .i32 x, .int .i32 x] 85)))
      have HSP := Lib.hid (SpansAt.one w3 w.heap.size x HBX.out.size)
      go_wp2_with (at_builtin; go_loud (refine wpList_append_own _ rfl _ _ 54 rfl w.heap.size 81 i0 (.agg #[.bool false, .bool false, .slice none 0 0]) 3 32 Tryd.underlying54 hi hz0 hz1 hz2 rfl (by decide) _ _ _ rfl (HP2.out.2.1.alloc _) ⟨_, 0, none⟩ 1 1 [.bool false, .bool false, .slice (some ⟨w3.heap.size, 0, none⟩) 1 1] rfl rfl (newsAt _ _ [.bool false, .bool false, .slice (some ⟨w3.heap.size, 0, none⟩) 1 1] _ (by simp)) (ones3 _ _ _ _ _) (by unfold maxLen; omega) (by omega) (by simp; omega) ?_))
      intro v' w9 hown' hgrow hne
      have hP9 := (HP2.out.below ((Below.refl _ _).alloc (Nat.le_refl _) _)).snoc (p := oneP x) (own_below HSP.out ((Below.refl _ _).alloc (Nat.le_refl _) _)) hown' hgrow
      have hR9 := (HRX2.out.alloc _).grown (HP2.out.2.1.alloc _) (by decide) hgrow
      have hb9 : Below w.heap.size w w9 := (HBX2.out.alloc HBX2.out.size _).grown hgrow (by have := HBX2.out.size; simp; omega) (fun j hj => (HP2.out.2.1.lt j hj).1)
      have HQ : Hid (∃ (k : Nat) (acc : List Prt) (svs : List Value), k ≤ L.length ∧ acc.length ≤ k ∧ L.length + 1 - k ≤ g ∧ parseGo L g k acc = parseGo L (L.length + 1) 0 [] ∧ Rd w9 w.heap.size L PL k ∧ PartsAt w9 w.heap.size v' acc svs ∧ Below w.heap.size w w9) :=
        ⟨k + 1, acc ++ [oneP x], svs ++ [.slice (some ⟨w3.heap.size, 0, none⟩) 1 1], by omega, by simp; omega, by omega, by rw [← HX.out, EQ.out], hR9, hP9, hb9⟩
      obtain ⟨va, vc, hv'⟩ := slice_of_own hown'
      subst hv'
      clear hown' hgrow hne hP9 hR9 hb9
      go_wp2
      go_roundg g
      case measure => omega
      case rel => exact HQ.out
    · have hC : parseGo L gk k acc = .inl acc := by cases gk <;> simp [parseGo, hlt]
      have HE : Hid (parseF s = .inl acc) := by show _ = _; rw [HF.out, ← HX.out, hC]
      clear hC
      go_wp2_with fail
      refine (more_any _ L PL k _ HRr.out).mono ?_
      rw [decide_eq_false hlt]
      rintro e w4 ⟨rfl, q4⟩
      obtain ⟨n4, rfl⟩ := q4
      go_wp2
      go_ret3
      show ParsePost s w (parseF s) _ _
      rw [HE.out]
      exact ⟨_, svs, rfl, HPA.out, below_drewN hb _⟩
end Go.Proofs.YthkkphfnfggpaaaDoor
