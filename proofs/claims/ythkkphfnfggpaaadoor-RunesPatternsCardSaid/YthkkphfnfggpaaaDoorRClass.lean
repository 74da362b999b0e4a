/- The reference's class of a pattern. -/
import Derived.Test.YthkkphfnfggpaaaDoorCur
import Derived.Test.YthkkphfnfggpaaaDoorOne
import Derived.Maps.AppendAt
namespace Go.Proofs.YthkkphfnfggpaaaDoor
open Go.RowKit

/-- four stores into an item's block -/
def set4 (w : World) (b : Nat) (t u v x : Value) : World := (((w.setCell ⟨b, 0, none⟩ t).setCell ⟨b, 1, none⟩ u).setCell ⟨b, 2, none⟩ v).setCell ⟨b, 3, none⟩ x
theorem set4_cells {w : World} {b : Nat} {cs : Array Value} {T : TypeId} {fr : Nat × Nat} (h : w.heap[b]? = some (.cells cs T fr)) (hs : cs.size = 4) (t u v x : Value) :
    (set4 w b t u v x).cell? ⟨b, 0, none⟩ = some t ∧ (set4 w b t u v x).cell? ⟨b, 1, none⟩ = some u ∧ (set4 w b t u v x).cell? ⟨b, 2, none⟩ = some v ∧ (set4 w b t u v x).cell? ⟨b, 3, none⟩ = some x := by
  have h4 := cells_set (cells_set (cells_set (cells_set h (j := 0) t) (j := 1) u) (j := 2) v) (j := 3) x
  unfold set4
  rw [Lib.cell_of_heap h4, Lib.cell_of_heap h4, Lib.cell_of_heap h4, Lib.cell_of_heap h4]
  refine ⟨?_, ?_, ?_, ?_⟩ <;> simp [Array.getElem?_setIfInBounds, hs]
theorem own_set4 {w : World} {B : Nat} {e : TypeId} {size : Nat} {v : Value} {n : Nat} {xs : List Value} (h : w.ownsRow B e size v n xs) {b : Nat} {cs : Array Value} {T : TypeId} {fr : Nat × Nat} (hb : w.heap[b]? = some (.cells cs T fr)) (hT : T ≠ e) (t u y x : Value) : (set4 w b t u y x).ownsRow B e size v n xs :=
  own_setCell (own_setCell (own_setCell (own_setCell h hb hT 0 t) (cells_set hb _) hT 1 u) (cells_set (cells_set hb _) _) hT 2 y) (cells_set (cells_set (cells_set hb _) _) _) hT 3 x
theorem below_set4 {B : Nat} {a w : World} (h : Below B a w) {b : Nat} (hb : B ≤ b) (t u y x : Value) : Below B a (set4 w b t u y x) :=
  (((h.setCell (p := ⟨b, 0, none⟩) hb t).setCell (p := ⟨b, 1, none⟩) hb u).setCell (p := ⟨b, 2, none⟩) hb y).setCell (p := ⟨b, 3, none⟩) hb x
def RClassPost (s : ByteArray) (w : World) (o : Option (Prt × Nat)) (e : Ending) (w' : World) : Prop :=
  match o with
  | some (p, k') => ∃ lo hi q', e = .returned (.tuple #[.agg #[.bool false, .bool p.neg, lo, hi], .int .i64 (q' : Nat), .bool true]) ∧ p.star = false ∧ Cur s k' q' ∧ w'.ownsRow w.heap.size 21 1 lo p.spans.length (i32s (p.spans.map Prod.fst)) ∧ w'.ownsRow w.heap.size 21 1 hi p.spans.length (i32s (p.spans.map Prod.snd)) ∧ Below w.heap.size w w'
  | none => ∃ (neg : Bool) (la : Option Addr) (ln lc : Nat) (ra : Option Addr) (rn rc : Nat) (a : Int), e = .returned (.tuple #[.agg #[.bool false, .bool neg, .slice la ln lc, .slice ra rn rc], .int .i64 a, .bool false]) ∧ Below w.heap.size w w'

/-- the item under way, and its two rows -/
structure RCg (w wr : World) (NB : Bool) (lo hi : Value) (nl : Nat) (xs : List Value) (nh : Nat) (ys : List Value) : Prop where
  X : wr.heap[w.heap.size + 1]? = some (.cells #[.bool false, .bool NB, lo, hi] 63 (0, 0))
  oLo : wr.ownsRow w.heap.size 21 1 lo nl xs
  oHi : wr.ownsRow w.heap.size 21 1 hi nh ys
  ne : hi.ownBlock = none ∨ hi.ownBlock ≠ lo.ownBlock
  Z : wr.heap[w.heap.size]? = some (.cells #[.bool false, .bool false, .slice none 0 0, .slice none 0 0] 63 (0, 0))
  B : Below w.heap.size w wr
section
variable {w wr : World} {NB : Bool} {lo hi : Value} {nl nh : Nat} {xs ys : List Value}
theorem RCg.grown (h : RCg w wr NB lo hi nl xs nh ys) {o : Obj} {w1 : World} {v : Value} {n : Nat} {zs : List Value} (hv : wr.ownsRow w.heap.size 21 1 v n zs) (hg : (wr.alloc o).grownBy w1 v.ownBlock) :
    w1.heap[w.heap.size + 1]? = some (.cells #[.bool false, .bool NB, lo, hi] 63 (0, 0)) ∧ w1.heap[w.heap.size]? = some (.cells #[.bool false, .bool false, .slice none 0 0, .slice none 0 0] 63 (0, 0)) ∧ Below w.heap.size w w1 :=
  ⟨cells_grown (hv.alloc o) hg (cells_alloc h.X o) (by decide), cells_grown (hv.alloc o) hg (cells_alloc h.Z o) (by decide),
    (h.B.alloc h.B.size o).grown hg (by rw [alloc_size]; have := h.B.size; omega) (fun k hk => (hv.lt k hk).1)⟩
theorem RCg.putLo (h : RCg w wr NB lo hi nl xs nh ys) {o : Obj} {w1 : World} {v : Value} {n : Nat} {zs : List Value} (hown : w1.ownsRow w.heap.size 21 1 v n zs) (hg : (wr.alloc o).grownBy w1 lo.ownBlock)
    (hat : v.ownBlock = lo.ownBlock ∨ ∃ m, v.ownBlock = some m ∧ wr.heap.size ≤ m) : RCg w (w1.setCell ⟨w.heap.size + 1, 2, none⟩ v) NB v hi n zs nh ys := by
  obtain ⟨h1, h2, h3⟩ := h.grown h.oLo hg
  have hlt := fun k hk => (h.oHi.lt k hk).2
  refine ⟨?_, own_setCell hown h1 (by decide) 2 v, own_setCell ((h.oHi.alloc o).kept hg h.ne) h1 (by decide) 2 v, ?_, ?_, h3.setCell (p := ⟨w.heap.size + 1, 2, none⟩) (by simp) v⟩
  · exact cells_set h1 v
  · rcases hat with e | ⟨m, e, hm⟩
    · rw [e]; exact h.ne
    · rw [e]
      cases hb : hi.ownBlock with
      | none => exact .inl rfl
      | some k => right; have := hlt k hb; intro e2; simp at e2; omega
  · rw [Below.heap_setCell _ _ _ _ (by simp)]; exact h2
theorem RCg.putHi (h : RCg w wr NB lo hi nl xs nh ys) {o : Obj} {w1 : World} {v : Value} {n : Nat} {zs : List Value} (hown : w1.ownsRow w.heap.size 21 1 v n zs) (hg : (wr.alloc o).grownBy w1 hi.ownBlock)
    (hat : v.ownBlock = hi.ownBlock ∨ ∃ m, v.ownBlock = some m ∧ wr.heap.size ≤ m) : RCg w (w1.setCell ⟨w.heap.size + 1, 3, none⟩ v) NB lo v nl xs n zs := by
  obtain ⟨h1, h2, h3⟩ := h.grown h.oHi hg
  have hlt := fun k hk => (h.oLo.lt k hk).2
  have hne : lo.ownBlock = none ∨ lo.ownBlock ≠ hi.ownBlock := by
    rcases h.ne with e | e
    · rw [e]; cases lo.ownBlock <;> simp
    · exact .inr (fun e2 => e e2.symm)
  refine ⟨?_, own_setCell ((h.oLo.alloc o).kept hg hne) h1 (by decide) 3 v, own_setCell hown h1 (by decide) 3 v, ?_, ?_, h3.setCell (p := ⟨w.heap.size + 1, 3, none⟩) (by simp) v⟩
  · exact cells_set h1 v
  · rcases hat with e | ⟨m, e, hm⟩
    · rw [e]; exact h.ne
    · right
      rw [e]
      cases hb : lo.ownBlock with
      | none => simp
      | some k => have := hlt k hb; intro e2; simp at e2; omega
  · rw [Below.heap_setCell _ _ _ _ (by simp)]; exact h2
theorem RCg.c0 (h : RCg w wr NB lo hi nl xs nh ys) : wr.cell? ⟨w.heap.size + 1, 0, none⟩ = some (.bool false) := by rw [Lib.cell_of_heap h.X]; rfl
theorem RCg.c1 (h : RCg w wr NB lo hi nl xs nh ys) : wr.cell? ⟨w.heap.size + 1, 1, none⟩ = some (.bool NB) := by rw [Lib.cell_of_heap h.X]; rfl
theorem RCg.c2 (h : RCg w wr NB lo hi nl xs nh ys) : wr.cell? ⟨w.heap.size + 1, 2, none⟩ = some lo := by rw [Lib.cell_of_heap h.X]; rfl
theorem RCg.c3 (h : RCg w wr NB lo hi nl xs nh ys) : wr.cell? ⟨w.heap.size + 1, 3, none⟩ = some hi := by rw [Lib.cell_of_heap h.X]; rfl
theorem RCg.z (h : RCg w wr NB lo hi nl xs nh ys) : wr.cell? ⟨w.heap.size, 0, none⟩ = some (.bool false) ∧ wr.cell? ⟨w.heap.size, 1, none⟩ = some (.bool false) ∧ wr.cell? ⟨w.heap.size, 2, none⟩ = some (.slice none 0 0) ∧ wr.cell? ⟨w.heap.size, 3, none⟩ = some (.slice none 0 0) := by
  refine ⟨?_, ?_, ?_, ?_⟩ <;> (rw [Lib.cell_of_heap h.Z]; rfl)
theorem RCg.fz (h : RCg w wr NB lo hi nl xs nh ys) (j : Nat) : wr.frozen? ⟨w.heap.size, j, none⟩ = false := Lib.frozen_of_heap h.Z j
theorem RCg.fx (h : RCg w wr NB lo hi nl xs nh ys) (j : Nat) : wr.frozen? ⟨w.heap.size + 1, j, none⟩ = false := Lib.frozen_of_heap h.X j
end
theorem list_fst (acc : List (Int × Int)) (x y : Int) : i32s ((acc ++ [(x, y)]).map Prod.fst) = i32s (acc.map Prod.fst) ++ [.int .i32 x] := by simp [i32s]
theorem list_snd (acc : List (Int × Int)) (x y : Int) : i32s ((acc ++ [(x, y)]).map Prod.snd) = i32s (acc.map Prod.snd) ++ [.int .i32 y] := by simp [i32s]


set_option maxRecDepth 100000 in
set_option maxHeartbeats 16000000 in
theorem rclass_neg (s : ByteArray) (k q : Nat) (w : World) (hs : s.size ≤ 1099511627776) (hc : Cur s k q) (hq : q < s.size) (h91 : (pts s).getD k 0 = 91) (hn : negB (pts s) (k + 1) = true) :
    Calls Tryd.prog 52 #[.string s, .int .i64 q] w (RClassPost s w (classF (pts s) (k + 1))) := by
  obtain ⟨i0, hi0, hz0, hz1, hz2⟩ := info_parts info_i32
  have hc1 := hc.low hq (by omega) h91
  have hps := pts_len s
  have HNG := Lib.hid hn
  have hKS : k + 1 + 1 ≤ (pts s).length := by
    have h1 := (hc.lt_iff.1 hq)
    unfold negB at hn; rw [decide_eq_true_iff] at hn; omega
  have hn2 := hn
  unfold negB at hn2
  rw [decide_eq_true_iff] at hn2
  have hq1 := hc1.lt_iff.2 hn2.1
  have hb := (hc1.byte hq1 94 (by omega) (by omega)).2 hn2.2
  rw [← byt_eq s _ hq1] at hb
  have hc2 := hc1.low hq1 (by omega) hn2.2
  have HC2 := Lib.hid hc2
  have hq1i : (q : Int) + 1 < (s.size : Int) := by omega
  clear hn2 hc hc1 hc2 hn
  go_enter Tryd.func52, Tryd.ntmps52
  go_wp2
  go_loopg [1] ((pts s).length + 1) (fun g a1 wr => ∃ (k0 q0 : Nat) (acc : List (Int × Int)) (lo hi : Value), Cur s k0 q0 ∧ a1 = .int .i64 q0 ∧ acc.length ≤ k0 ∧ k0 ≤ (pts s).length ∧ (pts s).length + 1 - k0 ≤ g ∧ classGo (pts s) g k0 acc = classGo (pts s) ((pts s).length + 1) (k + 1 + 1) [] ∧
      RCg w wr true lo hi acc.length (i32s (acc.map Prod.fst)) acc.length (i32s (acc.map Prod.snd)))
  case atStart =>
    refine ⟨_, _, [], .slice none 0 0, .slice none 0 0, HC2.out, by push_cast; rfl, by simp, hKS, by have := hKS; omega, rfl, ⟨?_, World.ownsRow_nil _ _ _ _, World.ownsRow_nil _ _ _ _, .inl rfl, ?_, ((Below.refl _ _).alloc (Nat.le_refl _) _).alloc (by rw [alloc_size]; omega) _⟩⟩
    · have := heap_alloc_new (w.alloc (Obj.cells #[Value.bool false, Value.bool false, Value.slice none 0 0, Value.slice none 0 0] 63)) (Obj.cells #[Value.bool false, Value.bool true, Value.slice none 0 0, Value.slice none 0 0] 63)
      rw [alloc_size] at this; exact this
    · rw [Below.heap_alloc (w.alloc _) _ _ (by rw [alloc_size]; omega)]; exact heap_alloc_new w _
  case round =>
    obtain ⟨k0, q0, acc, lo, hi, hcur, rfl, hacc, hk0, hg, hx, hG⟩ := hrel
    have HX := Lib.hid hx
    have HCU := Lib.hid hcur
    have G := Lib.hid hG
    obtain ⟨g, rfl⟩ : ∃ g, gk = g + 1 := ⟨gk - 1, by omega⟩
    obtain ⟨la, lc, rfl⟩ := slice_of_own hG.oLo
    obtain ⟨ra, rc, rfl⟩ := slice_of_own hG.oHi
    have b0 : w.heap.size + 1 < wr.heap.size := (Array.getElem?_eq_some_iff.1 hG.X).1
    have x0 := hG.c0
    have x1 := hG.c1
    have x2 := hG.c2
    have x3 := hG.c3
    obtain ⟨z0, z1, z2, z3⟩ := hG.z
    have f0 := hG.fz 0
    have f1 := hG.fz 1
    have f2 := hG.fz 2
    have f3 := hG.fz 3
    have e2 := hG.fx 2
    have e3 := hG.fx 3
    have hbsz := hG.B.size
    clear hG
    by_cases hlt : q0 < s.size
    · have hB := byt_eq s _ hlt
      by_cases h93 : (pts s).getD k0 0 = 93
      · have hb := (hcur.byte hlt 93 (by omega) (by omega)).2 h93
        rw [← hB] at hb
        have H93 := Lib.hid h93
        clear hx hcur hB h93
        go_wp2
        go_region
        go_wp2
        have D := set4_cells G.out.Z rfl (.bool false) (.bool true) (.slice la acc.length lc) (.slice ra acc.length rc)
        refine bodyPost_ret (v := .tuple #[.agg #[.bool false, .bool true, .slice la acc.length lc, .slice ra acc.length rc], .int .i64 ((q0 : Int) + 1), .bool (decide (0 < acc.length))]) ?_ rfl ?_
        · unfold set4 at D
          simp [results, Tryd.results52, go_sem, D.1, D.2.1, D.2.2.1, D.2.2.2]
        · show RClassPost s w (classF (pts s) (k + 1)) _ (set4 wr w.heap.size (.bool false) (.bool true) (.slice la acc.length lc) (.slice ra acc.length rc)).drew
          have hF : classF (pts s) (k + 1) = (match classGo (pts s) (g + 1) k0 acc with | none => none | some (s, k') => some (⟨false, true, s⟩, k')) := by
            unfold classF; rw [HNG.out, if_pos rfl]; rw [HX.out]; rfl
          have hC : classGo (pts s) (g + 1) k0 acc = if acc = [] then none else some (acc, k0 + 1) := by
            simp only [classGo]; rw [if_pos (HCU.out.lt_iff.1 hlt), if_pos H93.out]
          rw [hF, hC]
          by_cases ha : acc = []
          · rw [if_pos ha]
            subst ha
            exact ⟨_, _, _, _, _, _, _, _, rfl, (below_set4 G.out.B (Nat.le_refl _) _ _ _ _).drew⟩
          · rw [if_neg ha]
            have hpos : 0 < acc.length := List.length_pos_iff.2 ha
            refine ⟨_, _, q0 + 1, ?_, rfl, HCU.out.low hlt (by omega) H93.out, (own_set4 G.out.oLo G.out.Z (by decide) _ _ _ _).drew, (own_set4 G.out.oHi G.out.Z (by decide) _ _ _ _).drew, (below_set4 G.out.B (Nat.le_refl _) _ _ _ _).drew⟩
            rw [decide_eq_true hpos]; rfl
      · have hb : ¬ byt s q0 = 93 := fun e => h93 ((hcur.byte hlt 93 (by omega) (by omega)).1 e)
        rw [← hB] at hb
        have gb : ((s[q0].toNat : Int) == 93) = false := by rw [beq_eq_false_iff_ne]; exact hb
        have hso := hcur.sole (fun _ => h93)
        have H93 := Lib.hid h93
        cases hp : pointF (pts s) k0 with
        | none =>
          rw [hp] at hso
          have HSO : Hid (soleF s q0 = (0, q0, false)) := hso
          have HF : Hid (classF (pts s) (k + 1) = none) := by
            show _ = _
            unfold classF; rw [HNG.out, if_pos rfl]; rw [← HX.out]
            simp only [classGo]
            rw [if_pos (HCU.out.lt_iff.1 hlt), if_neg H93.out]
            unfold itemF; rw [hp]
          clear hx hcur hB h93 hb hso hp
          go_wp2_with fail
          refine (sole_any s q0 _ hs (by have := HCU.out.1; omega)).mono ?_
          rw [HSO.out]
          unfold soleV
          rintro e w2 ⟨rfl, rfl⟩
          go_wp2
          have D := set4_cells G.out.Z rfl (.bool false) (.bool true) (.slice la acc.length lc) (.slice ra acc.length rc)
          refine bodyPost_ret (v := .tuple #[.agg #[.bool false, .bool true, .slice la acc.length lc, .slice ra acc.length rc], .int .i64 (q0 : Int), .bool false]) ?_ rfl ?_
          · unfold set4 at D
            simp [results, Tryd.results52, go_sem, D.1, D.2.1, D.2.2.1, D.2.2.2]
          · rw [HF.out]
            exact ⟨_, _, _, _, _, _, _, _, rfl, below_set4 G.out.B (Nat.le_refl _) _ _ _ _⟩
        | some x =>
          obtain ⟨x, k1⟩ := x
          rw [hp] at hso
          obtain ⟨q1, hso, hcu1⟩ := hso
          have HSO := Lib.hid hso
          have HC1 := Lib.hid hcu1
          have hq1s := hcu1.1
          have hC : classGo (pts s) (g + 1) k0 acc = (match itemF (pts s) k0 with | none => none | some (sp, k') => classGo (pts s) g k' (acc ++ [sp])) := by
            simp only [classGo]
            rw [if_pos (HCU.out.lt_iff.1 hlt), if_neg H93.out]
            rfl
          have hFC : classF (pts s) (k + 1) = (match classGo (pts s) (g + 1) k0 acc with | none => none | some (s, k') => some (⟨false, true, s⟩, k')) := by
            unfold classF; rw [HNG.out, if_pos rfl]; rw [HX.out]; rfl
          have hpl1 := point_lt hp
          have hsl := pts_len s
          by_cases hr : rangesB (pts s) k1 = true
          · obtain ⟨r1, r2, r3⟩ := hcu1.ranges.2 hr
            have hl1 := hcu1.low (by omega) (by omega) ((hcu1.byte (by omega) 45 (by omega) (by omega)).1 r2)
            have hso2 := hl1.sole (fun _ e => r3 ((hl1.byte r1 93 (by omega) (by omega)).2 e))
            rw [← byt_eq s _ (show q1 < s.size by omega)] at r2
            rw [← byt_eq s _ r1] at r3
            have r3b : ((s[q1 + 1].toNat : Int) != 93) = true := bne_iff_ne.2 r3
            have r1i : (q1 : Int) + 1 < (s.size : Int) := by omega
            have SA := Lib.hid (fun W => sole_any s (q1 + 1) W hs (by omega))
            cases hp2 : pointF (pts s) (k1 + 1) with
            | none =>
              rw [hp2] at hso2
              have hs2 : soleF s (q1 + 1) = (0, q1 + 1, false) := hso2
              simp only [hs2, soleV, Int.natCast_add, Int.natCast_one] at SA
              have HF : Hid (classF (pts s) (k + 1) = none) := by
                show _ = _
                have hi : itemF (pts s) k0 = none := by
                  unfold itemF; rw [hp]; simp only; rw [if_pos hr, hp2]
                rw [hFC, hC, hi]
              clear hx hcur hB h93 hb hso hp hso2 hp2 hs2 r3 hl1 hC hFC hcu1 hr
              go_wp2_with fail
              refine (sole_any s q0 _ hs (by have := HCU.out.1; omega)).mono ?_
              rw [HSO.out]
              unfold soleV
              rintro e w2 ⟨rfl, rfl⟩
              go_wp2_with fail
              refine (SA.out _).mono ?_
              rintro e w3 ⟨rfl, rfl⟩
              go_wp2
              have D := set4_cells G.out.Z rfl (.bool false) (.bool true) (.slice la acc.length lc) (.slice ra acc.length rc)
              refine bodyPost_ret (v := .tuple #[.agg #[.bool false, .bool true, .slice la acc.length lc, .slice ra acc.length rc], .int .i64 (q1 : Int), .bool false]) ?_ rfl ?_
              · unfold set4 at D
                simp [results, Tryd.results52, go_sem, D.1, D.2.1, D.2.2.1, D.2.2.2]
              · rw [HF.out]
                exact ⟨_, _, _, _, _, _, _, _, rfl, below_set4 G.out.B (Nat.le_refl _) _ _ _ _⟩
            | some y =>
              obtain ⟨y, k2⟩ := y
              have hpl2 := point_lt hp2
              rw [hp2] at hso2
              obtain ⟨q2, hs2, hcu2⟩ := hso2
              simp only [hs2, soleV, Int.natCast_add, Int.natCast_one] at SA
              by_cases hxy : y < x
              · have HF : Hid (classF (pts s) (k + 1) = none) := by
                  show _ = _
                  have hi : itemF (pts s) k0 = none := by
                    unfold itemF; rw [hp]; simp only; rw [if_pos hr, hp2]; simp only; rw [if_neg (by omega)]
                  rw [hFC, hC, hi]
                clear hx hcur hB h93 hb hso hp hp2 hs2 r3 hl1 hC hFC hcu1 hcu2 hr
                go_wp2_with fail
                refine (sole_any s q0 _ hs (by have := HCU.out.1; omega)).mono ?_
                rw [HSO.out]
                unfold soleV
                rintro e w2 ⟨rfl, rfl⟩
                go_wp2_with fail
                refine (SA.out _).mono ?_
                rintro e w3 ⟨rfl, rfl⟩
                go_wp2
                have D := set4_cells G.out.Z rfl (.bool false) (.bool true) (.slice la acc.length lc) (.slice ra acc.length rc)
                refine bodyPost_ret (v := .tuple #[.agg #[.bool false, .bool true, .slice la acc.length lc, .slice ra acc.length rc], .int .i64 (q1 : Int), .bool false]) ?_ rfl ?_
                · unfold set4 at D
                  simp [results, Tryd.results52, go_sem, D.1, D.2.1, D.2.2.1, D.2.2.2]
                · rw [HF.out]
                  exact ⟨_, _, _, _, _, _, _, _, rfl, below_set4 G.out.B (Nat.le_refl _) _ _ _ _⟩
              · have EQ : Hid (classGo (pts s) g k2 (acc ++ [(x, y)]) = classGo (pts s) ((pts s).length + 1) (k + 1 + 1) []) := by
                  show _ = _
                  have hi : itemF (pts s) k0 = some ((x, y), k2) := by
                    unfold itemF; rw [hp]; simp only; rw [if_pos hr, hp2]; simp only; rw [if_pos (by omega)]
                  rw [← HX.out, hC, hi]
                have HC2 := Lib.hid hcu2
                clear hx hcur hB h93 hb hso hp hp2 hs2 r3 hl1 hC hFC hcu1 hcu2 hr
                go_wp2_with fail
                refine (sole_any s q0 _ hs (by have := HCU.out.1; omega)).mono ?_
                rw [HSO.out]
                unfold soleV
                rintro e w2 ⟨rfl, rfl⟩
                go_wp2_with fail
                refine (SA.out _).mono ?_
                rintro e w3 ⟨rfl, rfl⟩
                go_wp2_with (at_builtin; refine wpList_append_own_at _ rfl _ _ 22 rfl w.heap.size 21 i0 (.int .i32 0) 1 4 Tryd.underlying22 hi0 hz0 hz1 hz2 rfl (by decide) _ _ _ rfl (G.out.oLo.alloc _) ⟨wr.heap.size, 0, none⟩ 1 1 [.int .i32 x] rfl rfl (newsL _ _ [.int .i32 x]) (ones .i32 [x]) (by unfold maxLen; omega) (by omega) (by rw [alloc_size]; omega) ?_)
                intro v1 w1 hown1 hgrow1 _ hat1
                obtain ⟨va1, vc1, rfl⟩ := slice_of_own hown1
                obtain ⟨X1, Z1, B1⟩ := G.out.grown G.out.oLo hgrow1
                have y2 : w1.cell? ⟨w.heap.size + 1, 2, none⟩ = some (.slice la acc.length lc) := by rw [Lib.cell_of_heap X1]; rfl
                have y3 : w1.cell? ⟨w.heap.size + 1, 3, none⟩ = some (.slice ra acc.length rc) := by rw [Lib.cell_of_heap X1]; rfl
                have g2 : w1.frozen? ⟨w.heap.size + 1, 2, none⟩ = false := Lib.frozen_of_heap X1 2
                have G1 := Lib.hid (G.out.putLo hown1 hgrow1 (hat1.imp id (fun e => ⟨_, e, by simp⟩)))
                have hb1 := G1.out.B.size
                clear hown1 hgrow1 hat1 X1 Z1 B1
                go_wp2_with (at_builtin; go_loud (refine wpList_append_own_at _ rfl _ _ 22 rfl w.heap.size 21 i0 (.int .i32 0) 1 4 Tryd.underlying22 hi0 hz0 hz1 hz2 rfl (by decide) _ _ _ rfl (G1.out.oHi.alloc _) ⟨_, 0, none⟩ 1 1 [.int .i32 y] rfl rfl (newsAt _ _ [.int .i32 y] _ (by simp [World.setCell])) (ones .i32 [y]) (by unfold maxLen; omega) (by omega) (by rw [alloc_size]; omega) ?_))
                intro v2 w2 hown2 hgrow2 _ hat2
                obtain ⟨va2, vc2, rfl⟩ := slice_of_own hown2
                obtain ⟨X2, Z2, B2⟩ := G1.out.grown G1.out.oHi hgrow2
                have y4 : w2.cell? ⟨w.heap.size + 1, 3, none⟩ = some (.slice ra acc.length rc) := by rw [Lib.cell_of_heap X2]; rfl
                have g4 : w2.frozen? ⟨w.heap.size + 1, 3, none⟩ = false := Lib.frozen_of_heap X2 3
                have G2 := Lib.hid (G1.out.putHi hown2 hgrow2 (hat2.imp id (fun e => ⟨_, e, by simp [World.setCell]⟩)))
                clear hown2 hgrow2 hat2 X2 Z2 B2 G1
                go_wp2
                go_roundg g
                case measure => omega
                case rel => exact ⟨k2, q2, acc ++ [(x, y)], _, _, HC2.out, rfl, by rw [List.length_append]; simp; omega, by omega, by omega, EQ.out, by simpa [i32s, Function.comp_def] using G2.out⟩
          · have EQ : Hid (classGo (pts s) g k1 (acc ++ [(x, x)]) = classGo (pts s) ((pts s).length + 1) (k + 1 + 1) []) := by
              show _ = _
              have hi : itemF (pts s) k0 = some ((x, x), k1) := by
                unfold itemF; rw [hp]; simp only; rw [if_neg hr]
              rw [← HX.out, hC, hi]
            have hnr : ¬ (q1 + 1 < s.size ∧ byt s q1 = 45 ∧ byt s (q1 + 1) ≠ 93) := fun e => hr (hcu1.ranges.1 e)
            clear hx hcur hB h93 hb hso hp hC hFC hcu1 hr
            by_cases t1 : q1 + 1 < s.size
            · have t1i : (q1 : Int) + 1 < (s.size : Int) := by omega
              by_cases t2 : byt s q1 = 45
              · have t3 : byt s (q1 + 1) = 93 := Decidable.byContradiction fun e => hnr ⟨t1, t2, e⟩
                rw [← byt_eq s _ (show q1 < s.size by omega)] at t2
                rw [← byt_eq s _ t1] at t3
                clear hnr
                go_wp2_with fail
                refine (sole_any s q0 _ hs (by have := HCU.out.1; omega)).mono ?_
                rw [HSO.out]
                unfold soleV
                rintro e w2 ⟨rfl, rfl⟩
                go_wp2_with (at_builtin; refine wpList_append_own_at _ rfl _ _ 22 rfl w.heap.size 21 i0 (.int .i32 0) 1 4 Tryd.underlying22 hi0 hz0 hz1 hz2 rfl (by decide) _ _ _ rfl (G.out.oLo.alloc _) ⟨wr.heap.size, 0, none⟩ 1 1 [.int .i32 x] rfl rfl (newsL _ _ [.int .i32 x]) (ones .i32 [x]) (by unfold maxLen; omega) (by omega) (by rw [alloc_size]; omega) ?_)
                intro v1 w1 hown1 hgrow1 _ hat1
                obtain ⟨va1, vc1, rfl⟩ := slice_of_own hown1
                obtain ⟨X1, Z1, B1⟩ := G.out.grown G.out.oLo hgrow1
                have y2 : w1.cell? ⟨w.heap.size + 1, 2, none⟩ = some (.slice la acc.length lc) := by rw [Lib.cell_of_heap X1]; rfl
                have y3 : w1.cell? ⟨w.heap.size + 1, 3, none⟩ = some (.slice ra acc.length rc) := by rw [Lib.cell_of_heap X1]; rfl
                have g2 : w1.frozen? ⟨w.heap.size + 1, 2, none⟩ = false := Lib.frozen_of_heap X1 2
                have G1 := Lib.hid (G.out.putLo hown1 hgrow1 (hat1.imp id (fun e => ⟨_, e, by simp⟩)))
                have hb1 := G1.out.B.size
                clear hown1 hgrow1 hat1 X1 Z1 B1
                go_wp2_with (at_builtin; go_loud (refine wpList_append_own_at _ rfl _ _ 22 rfl w.heap.size 21 i0 (.int .i32 0) 1 4 Tryd.underlying22 hi0 hz0 hz1 hz2 rfl (by decide) _ _ _ rfl (G1.out.oHi.alloc _) ⟨_, 0, none⟩ 1 1 [.int .i32 x] rfl rfl (newsAt _ _ [.int .i32 x] _ (by simp [World.setCell])) (ones .i32 [x]) (by unfold maxLen; omega) (by omega) (by rw [alloc_size]; omega) ?_))
                intro v2 w2 hown2 hgrow2 _ hat2
                obtain ⟨va2, vc2, rfl⟩ := slice_of_own hown2
                obtain ⟨X2, Z2, B2⟩ := G1.out.grown G1.out.oHi hgrow2
                have y4 : w2.cell? ⟨w.heap.size + 1, 3, none⟩ = some (.slice ra acc.length rc) := by rw [Lib.cell_of_heap X2]; rfl
                have g4 : w2.frozen? ⟨w.heap.size + 1, 3, none⟩ = false := Lib.frozen_of_heap X2 3
                have G2 := Lib.hid (G1.out.putHi hown2 hgrow2 (hat2.imp id (fun e => ⟨_, e, by simp [World.setCell]⟩)))
                clear hown2 hgrow2 hat2 X2 Z2 B2 G1
                go_wp2
                go_roundg g
                case measure => omega
                case rel => exact ⟨k1, q1, acc ++ [(x, x)], _, _, HC1.out, rfl, by rw [List.length_append]; simp; omega, by omega, by omega, EQ.out, by simpa [i32s, Function.comp_def] using G2.out⟩
              · rw [← byt_eq s _ (show q1 < s.size by omega)] at t2
                have t2b : ((s[q1].toNat : Int) == 45) = false := by rw [beq_eq_false_iff_ne]; exact t2
                clear hnr t2
                go_wp2_with fail
                refine (sole_any s q0 _ hs (by have := HCU.out.1; omega)).mono ?_
                rw [HSO.out]
                unfold soleV
                rintro e w2 ⟨rfl, rfl⟩
                go_wp2_with (at_builtin; refine wpList_append_own_at _ rfl _ _ 22 rfl w.heap.size 21 i0 (.int .i32 0) 1 4 Tryd.underlying22 hi0 hz0 hz1 hz2 rfl (by decide) _ _ _ rfl (G.out.oLo.alloc _) ⟨wr.heap.size, 0, none⟩ 1 1 [.int .i32 x] rfl rfl (newsL _ _ [.int .i32 x]) (ones .i32 [x]) (by unfold maxLen; omega) (by omega) (by rw [alloc_size]; omega) ?_)
                intro v1 w1 hown1 hgrow1 _ hat1
                obtain ⟨va1, vc1, rfl⟩ := slice_of_own hown1
                obtain ⟨X1, Z1, B1⟩ := G.out.grown G.out.oLo hgrow1
                have y2 : w1.cell? ⟨w.heap.size + 1, 2, none⟩ = some (.slice la acc.length lc) := by rw [Lib.cell_of_heap X1]; rfl
                have y3 : w1.cell? ⟨w.heap.size + 1, 3, none⟩ = some (.slice ra acc.length rc) := by rw [Lib.cell_of_heap X1]; rfl
                have g2 : w1.frozen? ⟨w.heap.size + 1, 2, none⟩ = false := Lib.frozen_of_heap X1 2
                have G1 := Lib.hid (G.out.putLo hown1 hgrow1 (hat1.imp id (fun e => ⟨_, e, by simp⟩)))
                have hb1 := G1.out.B.size
                clear hown1 hgrow1 hat1 X1 Z1 B1
                go_wp2_with (at_builtin; go_loud (refine wpList_append_own_at _ rfl _ _ 22 rfl w.heap.size 21 i0 (.int .i32 0) 1 4 Tryd.underlying22 hi0 hz0 hz1 hz2 rfl (by decide) _ _ _ rfl (G1.out.oHi.alloc _) ⟨_, 0, none⟩ 1 1 [.int .i32 x] rfl rfl (newsAt _ _ [.int .i32 x] _ (by simp [World.setCell])) (ones .i32 [x]) (by unfold maxLen; omega) (by omega) (by rw [alloc_size]; omega) ?_))
                intro v2 w2 hown2 hgrow2 _ hat2
                obtain ⟨va2, vc2, rfl⟩ := slice_of_own hown2
                obtain ⟨X2, Z2, B2⟩ := G1.out.grown G1.out.oHi hgrow2
                have y4 : w2.cell? ⟨w.heap.size + 1, 3, none⟩ = some (.slice ra acc.length rc) := by rw [Lib.cell_of_heap X2]; rfl
                have g4 : w2.frozen? ⟨w.heap.size + 1, 3, none⟩ = false := Lib.frozen_of_heap X2 3
                have G2 := Lib.hid (G1.out.putHi hown2 hgrow2 (hat2.imp id (fun e => ⟨_, e, by simp [World.setCell]⟩)))
                clear hown2 hgrow2 hat2 X2 Z2 B2 G1
                go_wp2
                go_roundg g
                case measure => omega
                case rel => exact ⟨k1, q1, acc ++ [(x, x)], _, _, HC1.out, rfl, by rw [List.length_append]; simp; omega, by omega, by omega, EQ.out, by simpa [i32s, Function.comp_def] using G2.out⟩
            · have t1i : ¬ (q1 : Int) + 1 < (s.size : Int) := by omega
              clear hnr
              go_wp2_with fail
              refine (sole_any s q0 _ hs (by have := HCU.out.1; omega)).mono ?_
              rw [HSO.out]
              unfold soleV
              rintro e w2 ⟨rfl, rfl⟩
              go_wp2_with (at_builtin; refine wpList_append_own_at _ rfl _ _ 22 rfl w.heap.size 21 i0 (.int .i32 0) 1 4 Tryd.underlying22 hi0 hz0 hz1 hz2 rfl (by decide) _ _ _ rfl (G.out.oLo.alloc _) ⟨wr.heap.size, 0, none⟩ 1 1 [.int .i32 x] rfl rfl (newsL _ _ [.int .i32 x]) (ones .i32 [x]) (by unfold maxLen; omega) (by omega) (by rw [alloc_size]; omega) ?_)
              intro v1 w1 hown1 hgrow1 _ hat1
              obtain ⟨va1, vc1, rfl⟩ := slice_of_own hown1
              obtain ⟨X1, Z1, B1⟩ := G.out.grown G.out.oLo hgrow1
              have y2 : w1.cell? ⟨w.heap.size + 1, 2, none⟩ = some (.slice la acc.length lc) := by rw [Lib.cell_of_heap X1]; rfl
              have y3 : w1.cell? ⟨w.heap.size + 1, 3, none⟩ = some (.slice ra acc.length rc) := by rw [Lib.cell_of_heap X1]; rfl
              have g2 : w1.frozen? ⟨w.heap.size + 1, 2, none⟩ = false := Lib.frozen_of_heap X1 2
              have G1 := Lib.hid (G.out.putLo hown1 hgrow1 (hat1.imp id (fun e => ⟨_, e, by simp⟩)))
              have hb1 := G1.out.B.size
              clear hown1 hgrow1 hat1 X1 Z1 B1
              go_wp2_with (at_builtin; go_loud (refine wpList_append_own_at _ rfl _ _ 22 rfl w.heap.size 21 i0 (.int .i32 0) 1 4 Tryd.underlying22 hi0 hz0 hz1 hz2 rfl (by decide) _ _ _ rfl (G1.out.oHi.alloc _) ⟨_, 0, none⟩ 1 1 [.int .i32 x] rfl rfl (newsAt _ _ [.int .i32 x] _ (by simp [World.setCell])) (ones .i32 [x]) (by unfold maxLen; omega) (by omega) (by rw [alloc_size]; omega) ?_))
              intro v2 w2 hown2 hgrow2 _ hat2
              obtain ⟨va2, vc2, rfl⟩ := slice_of_own hown2
              obtain ⟨X2, Z2, B2⟩ := G1.out.grown G1.out.oHi hgrow2
              have y4 : w2.cell? ⟨w.heap.size + 1, 3, none⟩ = some (.slice ra acc.length rc) := by rw [Lib.cell_of_heap X2]; rfl
              have g4 : w2.frozen? ⟨w.heap.size + 1, 3, none⟩ = false := Lib.frozen_of_heap X2 3
              have G2 := Lib.hid (G1.out.putHi hown2 hgrow2 (hat2.imp id (fun e => ⟨_, e, by simp [World.setCell]⟩)))
              clear hown2 hgrow2 hat2 X2 Z2 B2 G1
              go_wp2
              go_roundg g
              case measure => omega
              case rel => exact ⟨k1, q1, acc ++ [(x, x)], _, _, HC1.out, rfl, by rw [List.length_append]; simp; omega, by omega, by omega, EQ.out, by simpa [i32s, Function.comp_def] using G2.out⟩
    · have hso := hcur.sole (fun h => absurd h (hcur.over hlt))
      have hov := hcur.over hlt
      have hp : pointF (pts s) k0 = none := by unfold pointF; rw [if_neg hov]
      rw [hp] at hso
      have HSO : Hid (soleF s q0 = (0, q0, false)) := hso
      have HF : Hid (classF (pts s) (k + 1) = none) := by
        show _ = _
        unfold classF; rw [HNG.out, if_pos rfl]; rw [← HX.out]
        simp only [classGo]
        rw [if_neg hov]
      have hlti : ¬ (q0 : Int) < (s.size : Int) := by omega
      clear hx hcur hso hp hov
      go_wp2_with fail
      refine (sole_any s q0 _ hs (by have := HCU.out.1; omega)).mono ?_
      rw [HSO.out]
      unfold soleV
      rintro e w2 ⟨rfl, rfl⟩
      go_wp2
      have D := set4_cells G.out.Z rfl (.bool false) (.bool true) (.slice la acc.length lc) (.slice ra acc.length rc)
      refine bodyPost_ret (v := .tuple #[.agg #[.bool false, .bool true, .slice la acc.length lc, .slice ra acc.length rc], .int .i64 (q0 : Int), .bool false]) ?_ rfl ?_
      · unfold set4 at D
        simp [results, Tryd.results52, go_sem, D.1, D.2.1, D.2.2.1, D.2.2.2]
      · rw [HF.out]
        exact ⟨_, _, _, _, _, _, _, _, rfl, below_set4 G.out.B (Nat.le_refl _) _ _ _ _⟩


set_option maxRecDepth 100000 in
set_option maxHeartbeats 16000000 in
theorem rclass_pos (s : ByteArray) (k q : Nat) (w : World) (hs : s.size ≤ 1099511627776) (hc : Cur s k q) (hq : q < s.size) (h91 : (pts s).getD k 0 = 91) (hn : negB (pts s) (k + 1) = false) :
    Calls Tryd.prog 52 #[.string s, .int .i64 q] w (RClassPost s w (classF (pts s) (k + 1))) := by
  obtain ⟨i0, hi0, hz0, hz1, hz2⟩ := info_parts info_i32
  have hc1 := hc.low hq (by omega) h91
  have hps := pts_len s
  have HNG := Lib.hid hn
  have hKS : k + 1 ≤ (pts s).length := by
    have h1 := (hc.lt_iff.1 hq)
    omega
  have HC2 := Lib.hid hc1
  have hcd : ¬ q + 1 < s.size ∨ (∃ h : q + 1 < s.size, ((s[q + 1]'h).toNat : Int) ≠ 94) := by
    by_cases hq1 : q + 1 < s.size
    · right
      refine ⟨hq1, fun e => ?_⟩
      rw [byt_eq s _ hq1] at e
      have h94 := (hc1.byte hq1 94 (by omega) (by omega)).1 e
      have : negB (pts s) (k + 1) = true := by unfold negB; rw [decide_eq_true_iff]; exact ⟨hc1.lt_iff.1 hq1, h94⟩
      rw [this] at hn; cases hn
    · exact .inl hq1
  clear hn hc hc1
  rcases hcd with hcd | ⟨hq1, hcd⟩
  · have hq1i : ¬ (q : Int) + 1 < (s.size : Int) := by omega
    go_enter Tryd.func52, Tryd.ntmps52
    go_wp2
    go_loopg [1] ((pts s).length + 1) (fun g a1 wr => ∃ (k0 q0 : Nat) (acc : List (Int × Int)) (lo hi : Value), Cur s k0 q0 ∧ a1 = .int .i64 q0 ∧ acc.length ≤ k0 ∧ k0 ≤ (pts s).length ∧ (pts s).length + 1 - k0 ≤ g ∧ classGo (pts s) g k0 acc = classGo (pts s) ((pts s).length + 1) (k + 1) [] ∧
        RCg w wr false lo hi acc.length (i32s (acc.map Prod.fst)) acc.length (i32s (acc.map Prod.snd)))
    case atStart =>
      refine ⟨_, _, [], .slice none 0 0, .slice none 0 0, HC2.out, by push_cast; rfl, by simp, hKS, by have := hKS; omega, rfl, ⟨?_, World.ownsRow_nil _ _ _ _, World.ownsRow_nil _ _ _ _, .inl rfl, ?_, ((Below.refl _ _).alloc (Nat.le_refl _) _).alloc (by rw [alloc_size]; omega) _⟩⟩
      · have := heap_alloc_new (w.alloc (Obj.cells #[Value.bool false, Value.bool false, Value.slice none 0 0, Value.slice none 0 0] 63)) (Obj.cells #[Value.bool false, Value.bool false, Value.slice none 0 0, Value.slice none 0 0] 63)
        rw [alloc_size] at this; exact this
      · rw [Below.heap_alloc (w.alloc _) _ _ (by rw [alloc_size]; omega)]; exact heap_alloc_new w _
    case round =>
      obtain ⟨k0, q0, acc, lo, hi, hcur, rfl, hacc, hk0, hg, hx, hG⟩ := hrel
      have HX := Lib.hid hx
      have HCU := Lib.hid hcur
      have G := Lib.hid hG
      obtain ⟨g, rfl⟩ : ∃ g, gk = g + 1 := ⟨gk - 1, by omega⟩
      obtain ⟨la, lc, rfl⟩ := slice_of_own hG.oLo
      obtain ⟨ra, rc, rfl⟩ := slice_of_own hG.oHi
      have b0 : w.heap.size + 1 < wr.heap.size := (Array.getElem?_eq_some_iff.1 hG.X).1
      have x0 := hG.c0
      have x1 := hG.c1
      have x2 := hG.c2
      have x3 := hG.c3
      obtain ⟨z0, z1, z2, z3⟩ := hG.z
      have f0 := hG.fz 0
      have f1 := hG.fz 1
      have f2 := hG.fz 2
      have f3 := hG.fz 3
      have e2 := hG.fx 2
      have e3 := hG.fx 3
      have hbsz := hG.B.size
      clear hG
      by_cases hlt : q0 < s.size
      · have hB := byt_eq s _ hlt
        by_cases h93 : (pts s).getD k0 0 = 93
        · have hb := (hcur.byte hlt 93 (by omega) (by omega)).2 h93
          rw [← hB] at hb
          have H93 := Lib.hid h93
          clear hx hcur hB h93
          go_wp2
          go_region
          go_wp2
          have D := set4_cells G.out.Z rfl (.bool false) (.bool false) (.slice la acc.length lc) (.slice ra acc.length rc)
          refine bodyPost_ret (v := .tuple #[.agg #[.bool false, .bool false, .slice la acc.length lc, .slice ra acc.length rc], .int .i64 ((q0 : Int) + 1), .bool (decide (0 < acc.length))]) ?_ rfl ?_
          · unfold set4 at D
            simp [results, Tryd.results52, go_sem, D.1, D.2.1, D.2.2.1, D.2.2.2]
          · show RClassPost s w (classF (pts s) (k + 1)) _ (set4 wr w.heap.size (.bool false) (.bool false) (.slice la acc.length lc) (.slice ra acc.length rc)).drew
            have hF : classF (pts s) (k + 1) = (match classGo (pts s) (g + 1) k0 acc with | none => none | some (s, k') => some (⟨false, false, s⟩, k')) := by
              unfold classF; rw [HNG.out, if_neg Bool.false_ne_true]; rw [HX.out]; rfl
            have hC : classGo (pts s) (g + 1) k0 acc = if acc = [] then none else some (acc, k0 + 1) := by
              simp only [classGo]; rw [if_pos (HCU.out.lt_iff.1 hlt), if_pos H93.out]
            rw [hF, hC]
            by_cases ha : acc = []
            · rw [if_pos ha]
              subst ha
              exact ⟨_, _, _, _, _, _, _, _, rfl, (below_set4 G.out.B (Nat.le_refl _) _ _ _ _).drew⟩
            · rw [if_neg ha]
              have hpos : 0 < acc.length := List.length_pos_iff.2 ha
              refine ⟨_, _, q0 + 1, ?_, rfl, HCU.out.low hlt (by omega) H93.out, (own_set4 G.out.oLo G.out.Z (by decide) _ _ _ _).drew, (own_set4 G.out.oHi G.out.Z (by decide) _ _ _ _).drew, (below_set4 G.out.B (Nat.le_refl _) _ _ _ _).drew⟩
              rw [decide_eq_true hpos]; rfl
        · have hb : ¬ byt s q0 = 93 := fun e => h93 ((hcur.byte hlt 93 (by omega) (by omega)).1 e)
          rw [← hB] at hb
          have gb : ((s[q0].toNat : Int) == 93) = false := by rw [beq_eq_false_iff_ne]; exact hb
          have hso := hcur.sole (fun _ => h93)
          have H93 := Lib.hid h93
          cases hp : pointF (pts s) k0 with
          | none =>
            rw [hp] at hso
            have HSO : Hid (soleF s q0 = (0, q0, false)) := hso
            have HF : Hid (classF (pts s) (k + 1) = none) := by
              show _ = _
              unfold classF; rw [HNG.out, if_neg Bool.false_ne_true]; rw [← HX.out]
              simp only [classGo]
              rw [if_pos (HCU.out.lt_iff.1 hlt), if_neg H93.out]
              unfold itemF; rw [hp]
            clear hx hcur hB h93 hb hso hp
            go_wp2_with fail
            refine (sole_any s q0 _ hs (by have := HCU.out.1; omega)).mono ?_
            rw [HSO.out]
            unfold soleV
            rintro e w2 ⟨rfl, rfl⟩
            go_wp2
            have D := set4_cells G.out.Z rfl (.bool false) (.bool false) (.slice la acc.length lc) (.slice ra acc.length rc)
            refine bodyPost_ret (v := .tuple #[.agg #[.bool false, .bool false, .slice la acc.length lc, .slice ra acc.length rc], .int .i64 (q0 : Int), .bool false]) ?_ rfl ?_
            · unfold set4 at D
              simp [results, Tryd.results52, go_sem, D.1, D.2.1, D.2.2.1, D.2.2.2]
            · rw [HF.out]
              exact ⟨_, _, _, _, _, _, _, _, rfl, below_set4 G.out.B (Nat.le_refl _) _ _ _ _⟩
          | some x =>
            obtain ⟨x, k1⟩ := x
            rw [hp] at hso
            obtain ⟨q1, hso, hcu1⟩ := hso
            have HSO := Lib.hid hso
            have HC1 := Lib.hid hcu1
            have hq1s := hcu1.1
            have hC : classGo (pts s) (g + 1) k0 acc = (match itemF (pts s) k0 with | none => none | some (sp, k') => classGo (pts s) g k' (acc ++ [sp])) := by
              simp only [classGo]
              rw [if_pos (HCU.out.lt_iff.1 hlt), if_neg H93.out]
              rfl
            have hFC : classF (pts s) (k + 1) = (match classGo (pts s) (g + 1) k0 acc with | none => none | some (s, k') => some (⟨false, false, s⟩, k')) := by
              unfold classF; rw [HNG.out, if_neg Bool.false_ne_true]; rw [HX.out]; rfl
            have hpl1 := point_lt hp
            have hsl := pts_len s
            by_cases hr : rangesB (pts s) k1 = true
            · obtain ⟨r1, r2, r3⟩ := hcu1.ranges.2 hr
              have hl1 := hcu1.low (by omega) (by omega) ((hcu1.byte (by omega) 45 (by omega) (by omega)).1 r2)
              have hso2 := hl1.sole (fun _ e => r3 ((hl1.byte r1 93 (by omega) (by omega)).2 e))
              rw [← byt_eq s _ (show q1 < s.size by omega)] at r2
              rw [← byt_eq s _ r1] at r3
              have r3b : ((s[q1 + 1].toNat : Int) != 93) = true := bne_iff_ne.2 r3
              have r1i : (q1 : Int) + 1 < (s.size : Int) := by omega
              have SA := Lib.hid (fun W => sole_any s (q1 + 1) W hs (by omega))
              cases hp2 : pointF (pts s) (k1 + 1) with
              | none =>
                rw [hp2] at hso2
                have hs2 : soleF s (q1 + 1) = (0, q1 + 1, false) := hso2
                simp only [hs2, soleV, Int.natCast_add, Int.natCast_one] at SA
                have HF : Hid (classF (pts s) (k + 1) = none) := by
                  show _ = _
                  have hi : itemF (pts s) k0 = none := by
                    unfold itemF; rw [hp]; simp only; rw [if_pos hr, hp2]
                  rw [hFC, hC, hi]
                clear hx hcur hB h93 hb hso hp hso2 hp2 hs2 r3 hl1 hC hFC hcu1 hr
                go_wp2_with fail
                refine (sole_any s q0 _ hs (by have := HCU.out.1; omega)).mono ?_
                rw [HSO.out]
                unfold soleV
                rintro e w2 ⟨rfl, rfl⟩
                go_wp2_with fail
                refine (SA.out _).mono ?_
                rintro e w3 ⟨rfl, rfl⟩
                go_wp2
                have D := set4_cells G.out.Z rfl (.bool false) (.bool false) (.slice la acc.length lc) (.slice ra acc.length rc)
                refine bodyPost_ret (v := .tuple #[.agg #[.bool false, .bool false, .slice la acc.length lc, .slice ra acc.length rc], .int .i64 (q1 : Int), .bool false]) ?_ rfl ?_
                · unfold set4 at D
                  simp [results, Tryd.results52, go_sem, D.1, D.2.1, D.2.2.1, D.2.2.2]
                · rw [HF.out]
                  exact ⟨_, _, _, _, _, _, _, _, rfl, below_set4 G.out.B (Nat.le_refl _) _ _ _ _⟩
              | some y =>
                obtain ⟨y, k2⟩ := y
                have hpl2 := point_lt hp2
                rw [hp2] at hso2
                obtain ⟨q2, hs2, hcu2⟩ := hso2
                simp only [hs2, soleV, Int.natCast_add, Int.natCast_one] at SA
                by_cases hxy : y < x
                · have HF : Hid (classF (pts s) (k + 1) = none) := by
                    show _ = _
                    have hi : itemF (pts s) k0 = none := by
                      unfold itemF; rw [hp]; simp only; rw [if_pos hr, hp2]; simp only; rw [if_neg (by omega)]
                    rw [hFC, hC, hi]
                  clear hx hcur hB h93 hb hso hp hp2 hs2 r3 hl1 hC hFC hcu1 hcu2 hr
                  go_wp2_with fail
                  refine (sole_any s q0 _ hs (by have := HCU.out.1; omega)).mono ?_
                  rw [HSO.out]
                  unfold soleV
                  rintro e w2 ⟨rfl, rfl⟩
                  go_wp2_with fail
                  refine (SA.out _).mono ?_
                  rintro e w3 ⟨rfl, rfl⟩
                  go_wp2
                  have D := set4_cells G.out.Z rfl (.bool false) (.bool false) (.slice la acc.length lc) (.slice ra acc.length rc)
                  refine bodyPost_ret (v := .tuple #[.agg #[.bool false, .bool false, .slice la acc.length lc, .slice ra acc.length rc], .int .i64 (q1 : Int), .bool false]) ?_ rfl ?_
                  · unfold set4 at D
                    simp [results, Tryd.results52, go_sem, D.1, D.2.1, D.2.2.1, D.2.2.2]
                  · rw [HF.out]
                    exact ⟨_, _, _, _, _, _, _, _, rfl, below_set4 G.out.B (Nat.le_refl _) _ _ _ _⟩
                · have EQ : Hid (classGo (pts s) g k2 (acc ++ [(x, y)]) = classGo (pts s) ((pts s).length + 1) (k + 1) []) := by
                    show _ = _
                    have hi : itemF (pts s) k0 = some ((x, y), k2) := by
                      unfold itemF; rw [hp]; simp only; rw [if_pos hr, hp2]; simp only; rw [if_pos (by omega)]
                    rw [← HX.out, hC, hi]
                  have HC2 := Lib.hid hcu2
                  clear hx hcur hB h93 hb hso hp hp2 hs2 r3 hl1 hC hFC hcu1 hcu2 hr
                  go_wp2_with fail
                  refine (sole_any s q0 _ hs (by have := HCU.out.1; omega)).mono ?_
                  rw [HSO.out]
                  unfold soleV
                  rintro e w2 ⟨rfl, rfl⟩
                  go_wp2_with fail
                  refine (SA.out _).mono ?_
                  rintro e w3 ⟨rfl, rfl⟩
                  go_wp2_with (at_builtin; refine wpList_append_own_at _ rfl _ _ 22 rfl w.heap.size 21 i0 (.int .i32 0) 1 4 Tryd.underlying22 hi0 hz0 hz1 hz2 rfl (by decide) _ _ _ rfl (G.out.oLo.alloc _) ⟨wr.heap.size, 0, none⟩ 1 1 [.int .i32 x] rfl rfl (newsL _ _ [.int .i32 x]) (ones .i32 [x]) (by unfold maxLen; omega) (by omega) (by rw [alloc_size]; omega) ?_)
                  intro v1 w1 hown1 hgrow1 _ hat1
                  obtain ⟨va1, vc1, rfl⟩ := slice_of_own hown1
                  obtain ⟨X1, Z1, B1⟩ := G.out.grown G.out.oLo hgrow1
                  have y2 : w1.cell? ⟨w.heap.size + 1, 2, none⟩ = some (.slice la acc.length lc) := by rw [Lib.cell_of_heap X1]; rfl
                  have y3 : w1.cell? ⟨w.heap.size + 1, 3, none⟩ = some (.slice ra acc.length rc) := by rw [Lib.cell_of_heap X1]; rfl
                  have g2 : w1.frozen? ⟨w.heap.size + 1, 2, none⟩ = false := Lib.frozen_of_heap X1 2
                  have G1 := Lib.hid (G.out.putLo hown1 hgrow1 (hat1.imp id (fun e => ⟨_, e, by simp⟩)))
                  have hb1 := G1.out.B.size
                  clear hown1 hgrow1 hat1 X1 Z1 B1
                  go_wp2_with (at_builtin; go_loud (refine wpList_append_own_at _ rfl _ _ 22 rfl w.heap.size 21 i0 (.int .i32 0) 1 4 Tryd.underlying22 hi0 hz0 hz1 hz2 rfl (by decide) _ _ _ rfl (G1.out.oHi.alloc _) ⟨_, 0, none⟩ 1 1 [.int .i32 y] rfl rfl (newsAt _ _ [.int .i32 y] _ (by simp [World.setCell])) (ones .i32 [y]) (by unfold maxLen; omega) (by omega) (by rw [alloc_size]; omega) ?_))
                  intro v2 w2 hown2 hgrow2 _ hat2
                  obtain ⟨va2, vc2, rfl⟩ := slice_of_own hown2
                  obtain ⟨X2, Z2, B2⟩ := G1.out.grown G1.out.oHi hgrow2
                  have y4 : w2.cell? ⟨w.heap.size + 1, 3, none⟩ = some (.slice ra acc.length rc) := by rw [Lib.cell_of_heap X2]; rfl
                  have g4 : w2.frozen? ⟨w.heap.size + 1, 3, none⟩ = false := Lib.frozen_of_heap X2 3
                  have G2 := Lib.hid (G1.out.putHi hown2 hgrow2 (hat2.imp id (fun e => ⟨_, e, by simp [World.setCell]⟩)))
                  clear hown2 hgrow2 hat2 X2 Z2 B2 G1
                  go_wp2
                  go_roundg g
                  case measure => omega
                  case rel => exact ⟨k2, q2, acc ++ [(x, y)], _, _, HC2.out, rfl, by rw [List.length_append]; simp; omega, by omega, by omega, EQ.out, by simpa [i32s, Function.comp_def] using G2.out⟩
            · have EQ : Hid (classGo (pts s) g k1 (acc ++ [(x, x)]) = classGo (pts s) ((pts s).length + 1) (k + 1) []) := by
                show _ = _
                have hi : itemF (pts s) k0 = some ((x, x), k1) := by
                  unfold itemF; rw [hp]; simp only; rw [if_neg hr]
                rw [← HX.out, hC, hi]
              have hnr : ¬ (q1 + 1 < s.size ∧ byt s q1 = 45 ∧ byt s (q1 + 1) ≠ 93) := fun e => hr (hcu1.ranges.1 e)
              clear hx hcur hB h93 hb hso hp hC hFC hcu1 hr
              by_cases t1 : q1 + 1 < s.size
              · have t1i : (q1 : Int) + 1 < (s.size : Int) := by omega
                by_cases t2 : byt s q1 = 45
                · have t3 : byt s (q1 + 1) = 93 := Decidable.byContradiction fun e => hnr ⟨t1, t2, e⟩
                  rw [← byt_eq s _ (show q1 < s.size by omega)] at t2
                  rw [← byt_eq s _ t1] at t3
                  clear hnr
                  go_wp2_with fail
                  refine (sole_any s q0 _ hs (by have := HCU.out.1; omega)).mono ?_
                  rw [HSO.out]
                  unfold soleV
                  rintro e w2 ⟨rfl, rfl⟩
                  go_wp2_with (at_builtin; refine wpList_append_own_at _ rfl _ _ 22 rfl w.heap.size 21 i0 (.int .i32 0) 1 4 Tryd.underlying22 hi0 hz0 hz1 hz2 rfl (by decide) _ _ _ rfl (G.out.oLo.alloc _) ⟨wr.heap.size, 0, none⟩ 1 1 [.int .i32 x] rfl rfl (newsL _ _ [.int .i32 x]) (ones .i32 [x]) (by unfold maxLen; omega) (by omega) (by rw [alloc_size]; omega) ?_)
                  intro v1 w1 hown1 hgrow1 _ hat1
                  obtain ⟨va1, vc1, rfl⟩ := slice_of_own hown1
                  obtain ⟨X1, Z1, B1⟩ := G.out.grown G.out.oLo hgrow1
                  have y2 : w1.cell? ⟨w.heap.size + 1, 2, none⟩ = some (.slice la acc.length lc) := by rw [Lib.cell_of_heap X1]; rfl
                  have y3 : w1.cell? ⟨w.heap.size + 1, 3, none⟩ = some (.slice ra acc.length rc) := by rw [Lib.cell_of_heap X1]; rfl
                  have g2 : w1.frozen? ⟨w.heap.size + 1, 2, none⟩ = false := Lib.frozen_of_heap X1 2
                  have G1 := Lib.hid (G.out.putLo hown1 hgrow1 (hat1.imp id (fun e => ⟨_, e, by simp⟩)))
                  have hb1 := G1.out.B.size
                  clear hown1 hgrow1 hat1 X1 Z1 B1
                  go_wp2_with (at_builtin; go_loud (refine wpList_append_own_at _ rfl _ _ 22 rfl w.heap.size 21 i0 (.int .i32 0) 1 4 Tryd.underlying22 hi0 hz0 hz1 hz2 rfl (by decide) _ _ _ rfl (G1.out.oHi.alloc _) ⟨_, 0, none⟩ 1 1 [.int .i32 x] rfl rfl (newsAt _ _ [.int .i32 x] _ (by simp [World.setCell])) (ones .i32 [x]) (by unfold maxLen; omega) (by omega) (by rw [alloc_size]; omega) ?_))
                  intro v2 w2 hown2 hgrow2 _ hat2
                  obtain ⟨va2, vc2, rfl⟩ := slice_of_own hown2
                  obtain ⟨X2, Z2, B2⟩ := G1.out.grown G1.out.oHi hgrow2
                  have y4 : w2.cell? ⟨w.heap.size + 1, 3, none⟩ = some (.slice ra acc.length rc) := by rw [Lib.cell_of_heap X2]; rfl
                  have g4 : w2.frozen? ⟨w.heap.size + 1, 3, none⟩ = false := Lib.frozen_of_heap X2 3
                  have G2 := Lib.hid (G1.out.putHi hown2 hgrow2 (hat2.imp id (fun e => ⟨_, e, by simp [World.setCell]⟩)))
                  clear hown2 hgrow2 hat2 X2 Z2 B2 G1
                  go_wp2
                  go_roundg g
                  case measure => omega
                  case rel => exact ⟨k1, q1, acc ++ [(x, x)], _, _, HC1.out, rfl, by rw [List.length_append]; simp; omega, by omega, by omega, EQ.out, by simpa [i32s, Function.comp_def] using G2.out⟩
                · rw [← byt_eq s _ (show q1 < s.size by omega)] at t2
                  have t2b : ((s[q1].toNat : Int) == 45) = false := by rw [beq_eq_false_iff_ne]; exact t2
                  clear hnr t2
                  go_wp2_with fail
                  refine (sole_any s q0 _ hs (by have := HCU.out.1; omega)).mono ?_
                  rw [HSO.out]
                  unfold soleV
                  rintro e w2 ⟨rfl, rfl⟩
                  go_wp2_with (at_builtin; refine wpList_append_own_at _ rfl _ _ 22 rfl w.heap.size 21 i0 (.int .i32 0) 1 4 Tryd.underlying22 hi0 hz0 hz1 hz2 rfl (by decide) _ _ _ rfl (G.out.oLo.alloc _) ⟨wr.heap.size, 0, none⟩ 1 1 [.int .i32 x] rfl rfl (newsL _ _ [.int .i32 x]) (ones .i32 [x]) (by unfold maxLen; omega) (by omega) (by rw [alloc_size]; omega) ?_)
                  intro v1 w1 hown1 hgrow1 _ hat1
                  obtain ⟨va1, vc1, rfl⟩ := slice_of_own hown1
                  obtain ⟨X1, Z1, B1⟩ := G.out.grown G.out.oLo hgrow1
                  have y2 : w1.cell? ⟨w.heap.size + 1, 2, none⟩ = some (.slice la acc.length lc) := by rw [Lib.cell_of_heap X1]; rfl
                  have y3 : w1.cell? ⟨w.heap.size + 1, 3, none⟩ = some (.slice ra acc.length rc) := by rw [Lib.cell_of_heap X1]; rfl
                  have g2 : w1.frozen? ⟨w.heap.size + 1, 2, none⟩ = false := Lib.frozen_of_heap X1 2
                  have G1 := Lib.hid (G.out.putLo hown1 hgrow1 (hat1.imp id (fun e => ⟨_, e, by simp⟩)))
                  have hb1 := G1.out.B.size
                  clear hown1 hgrow1 hat1 X1 Z1 B1
                  go_wp2_with (at_builtin; go_loud (refine wpList_append_own_at _ rfl _ _ 22 rfl w.heap.size 21 i0 (.int .i32 0) 1 4 Tryd.underlying22 hi0 hz0 hz1 hz2 rfl (by decide) _ _ _ rfl (G1.out.oHi.alloc _) ⟨_, 0, none⟩ 1 1 [.int .i32 x] rfl rfl (newsAt _ _ [.int .i32 x] _ (by simp [World.setCell])) (ones .i32 [x]) (by unfold maxLen; omega) (by omega) (by rw [alloc_size]; omega) ?_))
                  intro v2 w2 hown2 hgrow2 _ hat2
                  obtain ⟨va2, vc2, rfl⟩ := slice_of_own hown2
                  obtain ⟨X2, Z2, B2⟩ := G1.out.grown G1.out.oHi hgrow2
                  have y4 : w2.cell? ⟨w.heap.size + 1, 3, none⟩ = some (.slice ra acc.length rc) := by rw [Lib.cell_of_heap X2]; rfl
                  have g4 : w2.frozen? ⟨w.heap.size + 1, 3, none⟩ = false := Lib.frozen_of_heap X2 3
                  have G2 := Lib.hid (G1.out.putHi hown2 hgrow2 (hat2.imp id (fun e => ⟨_, e, by simp [World.setCell]⟩)))
                  clear hown2 hgrow2 hat2 X2 Z2 B2 G1
                  go_wp2
                  go_roundg g
                  case measure => omega
                  case rel => exact ⟨k1, q1, acc ++ [(x, x)], _, _, HC1.out, rfl, by rw [List.length_append]; simp; omega, by omega, by omega, EQ.out, by simpa [i32s, Function.comp_def] using G2.out⟩
              · have t1i : ¬ (q1 : Int) + 1 < (s.size : Int) := by omega
                clear hnr
                go_wp2_with fail
                refine (sole_any s q0 _ hs (by have := HCU.out.1; omega)).mono ?_
                rw [HSO.out]
                unfold soleV
                rintro e w2 ⟨rfl, rfl⟩
                go_wp2_with (at_builtin; refine wpList_append_own_at _ rfl _ _ 22 rfl w.heap.size 21 i0 (.int .i32 0) 1 4 Tryd.underlying22 hi0 hz0 hz1 hz2 rfl (by decide) _ _ _ rfl (G.out.oLo.alloc _) ⟨wr.heap.size, 0, none⟩ 1 1 [.int .i32 x] rfl rfl (newsL _ _ [.int .i32 x]) (ones .i32 [x]) (by unfold maxLen; omega) (by omega) (by rw [alloc_size]; omega) ?_)
                intro v1 w1 hown1 hgrow1 _ hat1
                obtain ⟨va1, vc1, rfl⟩ := slice_of_own hown1
                obtain ⟨X1, Z1, B1⟩ := G.out.grown G.out.oLo hgrow1
                have y2 : w1.cell? ⟨w.heap.size + 1, 2, none⟩ = some (.slice la acc.length lc) := by rw [Lib.cell_of_heap X1]; rfl
                have y3 : w1.cell? ⟨w.heap.size + 1, 3, none⟩ = some (.slice ra acc.length rc) := by rw [Lib.cell_of_heap X1]; rfl
                have g2 : w1.frozen? ⟨w.heap.size + 1, 2, none⟩ = false := Lib.frozen_of_heap X1 2
                have G1 := Lib.hid (G.out.putLo hown1 hgrow1 (hat1.imp id (fun e => ⟨_, e, by simp⟩)))
                have hb1 := G1.out.B.size
                clear hown1 hgrow1 hat1 X1 Z1 B1
                go_wp2_with (at_builtin; go_loud (refine wpList_append_own_at _ rfl _ _ 22 rfl w.heap.size 21 i0 (.int .i32 0) 1 4 Tryd.underlying22 hi0 hz0 hz1 hz2 rfl (by decide) _ _ _ rfl (G1.out.oHi.alloc _) ⟨_, 0, none⟩ 1 1 [.int .i32 x] rfl rfl (newsAt _ _ [.int .i32 x] _ (by simp [World.setCell])) (ones .i32 [x]) (by unfold maxLen; omega) (by omega) (by rw [alloc_size]; omega) ?_))
                intro v2 w2 hown2 hgrow2 _ hat2
                obtain ⟨va2, vc2, rfl⟩ := slice_of_own hown2
                obtain ⟨X2, Z2, B2⟩ := G1.out.grown G1.out.oHi hgrow2
                have y4 : w2.cell? ⟨w.heap.size + 1, 3, none⟩ = some (.slice ra acc.length rc) := by rw [Lib.cell_of_heap X2]; rfl
                have g4 : w2.frozen? ⟨w.heap.size + 1, 3, none⟩ = false := Lib.frozen_of_heap X2 3
                have G2 := Lib.hid (G1.out.putHi hown2 hgrow2 (hat2.imp id (fun e => ⟨_, e, by simp [World.setCell]⟩)))
                clear hown2 hgrow2 hat2 X2 Z2 B2 G1
                go_wp2
                go_roundg g
                case measure => omega
                case rel => exact ⟨k1, q1, acc ++ [(x, x)], _, _, HC1.out, rfl, by rw [List.length_append]; simp; omega, by omega, by omega, EQ.out, by simpa [i32s, Function.comp_def] using G2.out⟩
      · have hso := hcur.sole (fun h => absurd h (hcur.over hlt))
        have hov := hcur.over hlt
        have hp : pointF (pts s) k0 = none := by unfold pointF; rw [if_neg hov]
        rw [hp] at hso
        have HSO : Hid (soleF s q0 = (0, q0, false)) := hso
        have HF : Hid (classF (pts s) (k + 1) = none) := by
          show _ = _
          unfold classF; rw [HNG.out, if_neg Bool.false_ne_true]; rw [← HX.out]
          simp only [classGo]
          rw [if_neg hov]
        have hlti : ¬ (q0 : Int) < (s.size : Int) := by omega
        clear hx hcur hso hp hov
        go_wp2_with fail
        refine (sole_any s q0 _ hs (by have := HCU.out.1; omega)).mono ?_
        rw [HSO.out]
        unfold soleV
        rintro e w2 ⟨rfl, rfl⟩
        go_wp2
        have D := set4_cells G.out.Z rfl (.bool false) (.bool false) (.slice la acc.length lc) (.slice ra acc.length rc)
        refine bodyPost_ret (v := .tuple #[.agg #[.bool false, .bool false, .slice la acc.length lc, .slice ra acc.length rc], .int .i64 (q0 : Int), .bool false]) ?_ rfl ?_
        · unfold set4 at D
          simp [results, Tryd.results52, go_sem, D.1, D.2.1, D.2.2.1, D.2.2.2]
        · rw [HF.out]
          exact ⟨_, _, _, _, _, _, _, _, rfl, below_set4 G.out.B (Nat.le_refl _) _ _ _ _⟩
  · have hq1i : (q : Int) + 1 < (s.size : Int) := by omega
    have hcb : (((s[q + 1]).toNat : Int) == 94) = false := by rw [beq_eq_false_iff_ne]; exact hcd
    clear hcd
    go_enter Tryd.func52, Tryd.ntmps52
    go_wp2
    go_loopg [1] ((pts s).length + 1) (fun g a1 wr => ∃ (k0 q0 : Nat) (acc : List (Int × Int)) (lo hi : Value), Cur s k0 q0 ∧ a1 = .int .i64 q0 ∧ acc.length ≤ k0 ∧ k0 ≤ (pts s).length ∧ (pts s).length + 1 - k0 ≤ g ∧ classGo (pts s) g k0 acc = classGo (pts s) ((pts s).length + 1) (k + 1) [] ∧
        RCg w wr false lo hi acc.length (i32s (acc.map Prod.fst)) acc.length (i32s (acc.map Prod.snd)))
    case atStart =>
      refine ⟨_, _, [], .slice none 0 0, .slice none 0 0, HC2.out, by push_cast; rfl, by simp, hKS, by have := hKS; omega, rfl, ⟨?_, World.ownsRow_nil _ _ _ _, World.ownsRow_nil _ _ _ _, .inl rfl, ?_, ((Below.refl _ _).alloc (Nat.le_refl _) _).alloc (by rw [alloc_size]; omega) _⟩⟩
      · have := heap_alloc_new (w.alloc (Obj.cells #[Value.bool false, Value.bool false, Value.slice none 0 0, Value.slice none 0 0] 63)) (Obj.cells #[Value.bool false, Value.bool false, Value.slice none 0 0, Value.slice none 0 0] 63)
        rw [alloc_size] at this; exact this
      · rw [Below.heap_alloc (w.alloc _) _ _ (by rw [alloc_size]; omega)]; exact heap_alloc_new w _
    case round =>
      obtain ⟨k0, q0, acc, lo, hi, hcur, rfl, hacc, hk0, hg, hx, hG⟩ := hrel
      have HX := Lib.hid hx
      have HCU := Lib.hid hcur
      have G := Lib.hid hG
      obtain ⟨g, rfl⟩ : ∃ g, gk = g + 1 := ⟨gk - 1, by omega⟩
      obtain ⟨la, lc, rfl⟩ := slice_of_own hG.oLo
      obtain ⟨ra, rc, rfl⟩ := slice_of_own hG.oHi
      have b0 : w.heap.size + 1 < wr.heap.size := (Array.getElem?_eq_some_iff.1 hG.X).1
      have x0 := hG.c0
      have x1 := hG.c1
      have x2 := hG.c2
      have x3 := hG.c3
      obtain ⟨z0, z1, z2, z3⟩ := hG.z
      have f0 := hG.fz 0
      have f1 := hG.fz 1
      have f2 := hG.fz 2
      have f3 := hG.fz 3
      have e2 := hG.fx 2
      have e3 := hG.fx 3
      have hbsz := hG.B.size
      clear hG
      by_cases hlt : q0 < s.size
      · have hB := byt_eq s _ hlt
        by_cases h93 : (pts s).getD k0 0 = 93
        · have hb := (hcur.byte hlt 93 (by omega) (by omega)).2 h93
          rw [← hB] at hb
          have H93 := Lib.hid h93
          clear hx hcur hB h93
          go_wp2
          go_region
          go_wp2
          have D := set4_cells G.out.Z rfl (.bool false) (.bool false) (.slice la acc.length lc) (.slice ra acc.length rc)
          refine bodyPost_ret (v := .tuple #[.agg #[.bool false, .bool false, .slice la acc.length lc, .slice ra acc.length rc], .int .i64 ((q0 : Int) + 1), .bool (decide (0 < acc.length))]) ?_ rfl ?_
          · unfold set4 at D
            simp [results, Tryd.results52, go_sem, D.1, D.2.1, D.2.2.1, D.2.2.2]
          · show RClassPost s w (classF (pts s) (k + 1)) _ (set4 wr w.heap.size (.bool false) (.bool false) (.slice la acc.length lc) (.slice ra acc.length rc)).drew
            have hF : classF (pts s) (k + 1) = (match classGo (pts s) (g + 1) k0 acc with | none => none | some (s, k') => some (⟨false, false, s⟩, k')) := by
              unfold classF; rw [HNG.out, if_neg Bool.false_ne_true]; rw [HX.out]; rfl
            have hC : classGo (pts s) (g + 1) k0 acc = if acc = [] then none else some (acc, k0 + 1) := by
              simp only [classGo]; rw [if_pos (HCU.out.lt_iff.1 hlt), if_pos H93.out]
            rw [hF, hC]
            by_cases ha : acc = []
            · rw [if_pos ha]
              subst ha
              exact ⟨_, _, _, _, _, _, _, _, rfl, (below_set4 G.out.B (Nat.le_refl _) _ _ _ _).drew⟩
            · rw [if_neg ha]
              have hpos : 0 < acc.length := List.length_pos_iff.2 ha
              refine ⟨_, _, q0 + 1, ?_, rfl, HCU.out.low hlt (by omega) H93.out, (own_set4 G.out.oLo G.out.Z (by decide) _ _ _ _).drew, (own_set4 G.out.oHi G.out.Z (by decide) _ _ _ _).drew, (below_set4 G.out.B (Nat.le_refl _) _ _ _ _).drew⟩
              rw [decide_eq_true hpos]; rfl
        · have hb : ¬ byt s q0 = 93 := fun e => h93 ((hcur.byte hlt 93 (by omega) (by omega)).1 e)
          rw [← hB] at hb
          have gb : ((s[q0].toNat : Int) == 93) = false := by rw [beq_eq_false_iff_ne]; exact hb
          have hso := hcur.sole (fun _ => h93)
          have H93 := Lib.hid h93
          cases hp : pointF (pts s) k0 with
          | none =>
            rw [hp] at hso
            have HSO : Hid (soleF s q0 = (0, q0, false)) := hso
            have HF : Hid (classF (pts s) (k + 1) = none) := by
              show _ = _
              unfold classF; rw [HNG.out, if_neg Bool.false_ne_true]; rw [← HX.out]
              simp only [classGo]
              rw [if_pos (HCU.out.lt_iff.1 hlt), if_neg H93.out]
              unfold itemF; rw [hp]
            clear hx hcur hB h93 hb hso hp
            go_wp2_with fail
            refine (sole_any s q0 _ hs (by have := HCU.out.1; omega)).mono ?_
            rw [HSO.out]
            unfold soleV
            rintro e w2 ⟨rfl, rfl⟩
            go_wp2
            have D := set4_cells G.out.Z rfl (.bool false) (.bool false) (.slice la acc.length lc) (.slice ra acc.length rc)
            refine bodyPost_ret (v := .tuple #[.agg #[.bool false, .bool false, .slice la acc.length lc, .slice ra acc.length rc], .int .i64 (q0 : Int), .bool false]) ?_ rfl ?_
            · unfold set4 at D
              simp [results, Tryd.results52, go_sem, D.1, D.2.1, D.2.2.1, D.2.2.2]
            · rw [HF.out]
              exact ⟨_, _, _, _, _, _, _, _, rfl, below_set4 G.out.B (Nat.le_refl _) _ _ _ _⟩
          | some x =>
            obtain ⟨x, k1⟩ := x
            rw [hp] at hso
            obtain ⟨q1, hso, hcu1⟩ := hso
            have HSO := Lib.hid hso
            have HC1 := Lib.hid hcu1
            have hq1s := hcu1.1
            have hC : classGo (pts s) (g + 1) k0 acc = (match itemF (pts s) k0 with | none => none | some (sp, k') => classGo (pts s) g k' (acc ++ [sp])) := by
              simp only [classGo]
              rw [if_pos (HCU.out.lt_iff.1 hlt), if_neg H93.out]
              rfl
            have hFC : classF (pts s) (k + 1) = (match classGo (pts s) (g + 1) k0 acc with | none => none | some (s, k') => some (⟨false, false, s⟩, k')) := by
              unfold classF; rw [HNG.out, if_neg Bool.false_ne_true]; rw [HX.out]; rfl
            have hpl1 := point_lt hp
            have hsl := pts_len s
            by_cases hr : rangesB (pts s) k1 = true
            · obtain ⟨r1, r2, r3⟩ := hcu1.ranges.2 hr
              have hl1 := hcu1.low (by omega) (by omega) ((hcu1.byte (by omega) 45 (by omega) (by omega)).1 r2)
              have hso2 := hl1.sole (fun _ e => r3 ((hl1.byte r1 93 (by omega) (by omega)).2 e))
              rw [← byt_eq s _ (show q1 < s.size by omega)] at r2
              rw [← byt_eq s _ r1] at r3
              have r3b : ((s[q1 + 1].toNat : Int) != 93) = true := bne_iff_ne.2 r3
              have r1i : (q1 : Int) + 1 < (s.size : Int) := by omega
              have SA := Lib.hid (fun W => sole_any s (q1 + 1) W hs (by omega))
              cases hp2 : pointF (pts s) (k1 + 1) with
              | none =>
                rw [hp2] at hso2
                have hs2 : soleF s (q1 + 1) = (0, q1 + 1, false) := hso2
                simp only [hs2, soleV, Int.natCast_add, Int.natCast_one] at SA
                have HF : Hid (classF (pts s) (k + 1) = none) := by
                  show _ = _
                  have hi : itemF (pts s) k0 = none := by
                    unfold itemF; rw [hp]; simp only; rw [if_pos hr, hp2]
                  rw [hFC, hC, hi]
                clear hx hcur hB h93 hb hso hp hso2 hp2 hs2 r3 hl1 hC hFC hcu1 hr
                go_wp2_with fail
                refine (sole_any s q0 _ hs (by have := HCU.out.1; omega)).mono ?_
                rw [HSO.out]
                unfold soleV
                rintro e w2 ⟨rfl, rfl⟩
                go_wp2_with fail
                refine (SA.out _).mono ?_
                rintro e w3 ⟨rfl, rfl⟩
                go_wp2
                have D := set4_cells G.out.Z rfl (.bool false) (.bool false) (.slice la acc.length lc) (.slice ra acc.length rc)
                refine bodyPost_ret (v := .tuple #[.agg #[.bool false, .bool false, .slice la acc.length lc, .slice ra acc.length rc], .int .i64 (q1 : Int), .bool false]) ?_ rfl ?_
                · unfold set4 at D
                  simp [results, Tryd.results52, go_sem, D.1, D.2.1, D.2.2.1, D.2.2.2]
                · rw [HF.out]
                  exact ⟨_, _, _, _, _, _, _, _, rfl, below_set4 G.out.B (Nat.le_refl _) _ _ _ _⟩
              | some y =>
                obtain ⟨y, k2⟩ := y
                have hpl2 := point_lt hp2
                rw [hp2] at hso2
                obtain ⟨q2, hs2, hcu2⟩ := hso2
                simp only [hs2, soleV, Int.natCast_add, Int.natCast_one] at SA
                by_cases hxy : y < x
                · have HF : Hid (classF (pts s) (k + 1) = none) := by
                    show _ = _
                    have hi : itemF (pts s) k0 = none := by
                      unfold itemF; rw [hp]; simp only; rw [if_pos hr, hp2]; simp only; rw [if_neg (by omega)]
                    rw [hFC, hC, hi]
                  clear hx hcur hB h93 hb hso hp hp2 hs2 r3 hl1 hC hFC hcu1 hcu2 hr
                  go_wp2_with fail
                  refine (sole_any s q0 _ hs (by have := HCU.out.1; omega)).mono ?_
                  rw [HSO.out]
                  unfold soleV
                  rintro e w2 ⟨rfl, rfl⟩
                  go_wp2_with fail
                  refine (SA.out _).mono ?_
                  rintro e w3 ⟨rfl, rfl⟩
                  go_wp2
                  have D := set4_cells G.out.Z rfl (.bool false) (.bool false) (.slice la acc.length lc) (.slice ra acc.length rc)
                  refine bodyPost_ret (v := .tuple #[.agg #[.bool false, .bool false, .slice la acc.length lc, .slice ra acc.length rc], .int .i64 (q1 : Int), .bool false]) ?_ rfl ?_
                  · unfold set4 at D
                    simp [results, Tryd.results52, go_sem, D.1, D.2.1, D.2.2.1, D.2.2.2]
                  · rw [HF.out]
                    exact ⟨_, _, _, _, _, _, _, _, rfl, below_set4 G.out.B (Nat.le_refl _) _ _ _ _⟩
                · have EQ : Hid (classGo (pts s) g k2 (acc ++ [(x, y)]) = classGo (pts s) ((pts s).length + 1) (k + 1) []) := by
                    show _ = _
                    have hi : itemF (pts s) k0 = some ((x, y), k2) := by
                      unfold itemF; rw [hp]; simp only; rw [if_pos hr, hp2]; simp only; rw [if_pos (by omega)]
                    rw [← HX.out, hC, hi]
                  have HC2 := Lib.hid hcu2
                  clear hx hcur hB h93 hb hso hp hp2 hs2 r3 hl1 hC hFC hcu1 hcu2 hr
                  go_wp2_with fail
                  refine (sole_any s q0 _ hs (by have := HCU.out.1; omega)).mono ?_
                  rw [HSO.out]
                  unfold soleV
                  rintro e w2 ⟨rfl, rfl⟩
                  go_wp2_with fail
                  refine (SA.out _).mono ?_
                  rintro e w3 ⟨rfl, rfl⟩
                  go_wp2_with (at_builtin; refine wpList_append_own_at _ rfl _ _ 22 rfl w.heap.size 21 i0 (.int .i32 0) 1 4 Tryd.underlying22 hi0 hz0 hz1 hz2 rfl (by decide) _ _ _ rfl (G.out.oLo.alloc _) ⟨wr.heap.size, 0, none⟩ 1 1 [.int .i32 x] rfl rfl (newsL _ _ [.int .i32 x]) (ones .i32 [x]) (by unfold maxLen; omega) (by omega) (by rw [alloc_size]; omega) ?_)
                  intro v1 w1 hown1 hgrow1 _ hat1
                  obtain ⟨va1, vc1, rfl⟩ := slice_of_own hown1
                  obtain ⟨X1, Z1, B1⟩ := G.out.grown G.out.oLo hgrow1
                  have y2 : w1.cell? ⟨w.heap.size + 1, 2, none⟩ = some (.slice la acc.length lc) := by rw [Lib.cell_of_heap X1]; rfl
                  have y3 : w1.cell? ⟨w.heap.size + 1, 3, none⟩ = some (.slice ra acc.length rc) := by rw [Lib.cell_of_heap X1]; rfl
                  have g2 : w1.frozen? ⟨w.heap.size + 1, 2, none⟩ = false := Lib.frozen_of_heap X1 2
                  have G1 := Lib.hid (G.out.putLo hown1 hgrow1 (hat1.imp id (fun e => ⟨_, e, by simp⟩)))
                  have hb1 := G1.out.B.size
                  clear hown1 hgrow1 hat1 X1 Z1 B1
                  go_wp2_with (at_builtin; go_loud (refine wpList_append_own_at _ rfl _ _ 22 rfl w.heap.size 21 i0 (.int .i32 0) 1 4 Tryd.underlying22 hi0 hz0 hz1 hz2 rfl (by decide) _ _ _ rfl (G1.out.oHi.alloc _) ⟨_, 0, none⟩ 1 1 [.int .i32 y] rfl rfl (newsAt _ _ [.int .i32 y] _ (by simp [World.setCell])) (ones .i32 [y]) (by unfold maxLen; omega) (by omega) (by rw [alloc_size]; omega) ?_))
                  intro v2 w2 hown2 hgrow2 _ hat2
                  obtain ⟨va2, vc2, rfl⟩ := slice_of_own hown2
                  obtain ⟨X2, Z2, B2⟩ := G1.out.grown G1.out.oHi hgrow2
                  have y4 : w2.cell? ⟨w.heap.size + 1, 3, none⟩ = some (.slice ra acc.length rc) := by rw [Lib.cell_of_heap X2]; rfl
                  have g4 : w2.frozen? ⟨w.heap.size + 1, 3, none⟩ = false := Lib.frozen_of_heap X2 3
                  have G2 := Lib.hid (G1.out.putHi hown2 hgrow2 (hat2.imp id (fun e => ⟨_, e, by simp [World.setCell]⟩)))
                  clear hown2 hgrow2 hat2 X2 Z2 B2 G1
                  go_wp2
                  go_roundg g
                  case measure => omega
                  case rel => exact ⟨k2, q2, acc ++ [(x, y)], _, _, HC2.out, rfl, by rw [List.length_append]; simp; omega, by omega, by omega, EQ.out, by simpa [i32s, Function.comp_def] using G2.out⟩
            · have EQ : Hid (classGo (pts s) g k1 (acc ++ [(x, x)]) = classGo (pts s) ((pts s).length + 1) (k + 1) []) := by
                show _ = _
                have hi : itemF (pts s) k0 = some ((x, x), k1) := by
                  unfold itemF; rw [hp]; simp only; rw [if_neg hr]
                rw [← HX.out, hC, hi]
              have hnr : ¬ (q1 + 1 < s.size ∧ byt s q1 = 45 ∧ byt s (q1 + 1) ≠ 93) := fun e => hr (hcu1.ranges.1 e)
              clear hx hcur hB h93 hb hso hp hC hFC hcu1 hr
              by_cases t1 : q1 + 1 < s.size
              · have t1i : (q1 : Int) + 1 < (s.size : Int) := by omega
                by_cases t2 : byt s q1 = 45
                · have t3 : byt s (q1 + 1) = 93 := Decidable.byContradiction fun e => hnr ⟨t1, t2, e⟩
                  rw [← byt_eq s _ (show q1 < s.size by omega)] at t2
                  rw [← byt_eq s _ t1] at t3
                  clear hnr
                  go_wp2_with fail
                  refine (sole_any s q0 _ hs (by have := HCU.out.1; omega)).mono ?_
                  rw [HSO.out]
                  unfold soleV
                  rintro e w2 ⟨rfl, rfl⟩
                  go_wp2_with (at_builtin; refine wpList_append_own_at _ rfl _ _ 22 rfl w.heap.size 21 i0 (.int .i32 0) 1 4 Tryd.underlying22 hi0 hz0 hz1 hz2 rfl (by decide) _ _ _ rfl (G.out.oLo.alloc _) ⟨wr.heap.size, 0, none⟩ 1 1 [.int .i32 x] rfl rfl (newsL _ _ [.int .i32 x]) (ones .i32 [x]) (by unfold maxLen; omega) (by omega) (by rw [alloc_size]; omega) ?_)
                  intro v1 w1 hown1 hgrow1 _ hat1
                  obtain ⟨va1, vc1, rfl⟩ := slice_of_own hown1
                  obtain ⟨X1, Z1, B1⟩ := G.out.grown G.out.oLo hgrow1
                  have y2 : w1.cell? ⟨w.heap.size + 1, 2, none⟩ = some (.slice la acc.length lc) := by rw [Lib.cell_of_heap X1]; rfl
                  have y3 : w1.cell? ⟨w.heap.size + 1, 3, none⟩ = some (.slice ra acc.length rc) := by rw [Lib.cell_of_heap X1]; rfl
                  have g2 : w1.frozen? ⟨w.heap.size + 1, 2, none⟩ = false := Lib.frozen_of_heap X1 2
                  have G1 := Lib.hid (G.out.putLo hown1 hgrow1 (hat1.imp id (fun e => ⟨_, e, by simp⟩)))
                  have hb1 := G1.out.B.size
                  clear hown1 hgrow1 hat1 X1 Z1 B1
                  go_wp2_with (at_builtin; go_loud (refine wpList_append_own_at _ rfl _ _ 22 rfl w.heap.size 21 i0 (.int .i32 0) 1 4 Tryd.underlying22 hi0 hz0 hz1 hz2 rfl (by decide) _ _ _ rfl (G1.out.oHi.alloc _) ⟨_, 0, none⟩ 1 1 [.int .i32 x] rfl rfl (newsAt _ _ [.int .i32 x] _ (by simp [World.setCell])) (ones .i32 [x]) (by unfold maxLen; omega) (by omega) (by rw [alloc_size]; omega) ?_))
                  intro v2 w2 hown2 hgrow2 _ hat2
                  obtain ⟨va2, vc2, rfl⟩ := slice_of_own hown2
                  obtain ⟨X2, Z2, B2⟩ := G1.out.grown G1.out.oHi hgrow2
                  have y4 : w2.cell? ⟨w.heap.size + 1, 3, none⟩ = some (.slice ra acc.length rc) := by rw [Lib.cell_of_heap X2]; rfl
                  have g4 : w2.frozen? ⟨w.heap.size + 1, 3, none⟩ = false := Lib.frozen_of_heap X2 3
                  have G2 := Lib.hid (G1.out.putHi hown2 hgrow2 (hat2.imp id (fun e => ⟨_, e, by simp [World.setCell]⟩)))
                  clear hown2 hgrow2 hat2 X2 Z2 B2 G1
                  go_wp2
                  go_roundg g
                  case measure => omega
                  case rel => exact ⟨k1, q1, acc ++ [(x, x)], _, _, HC1.out, rfl, by rw [List.length_append]; simp; omega, by omega, by omega, EQ.out, by simpa [i32s, Function.comp_def] using G2.out⟩
                · rw [← byt_eq s _ (show q1 < s.size by omega)] at t2
                  have t2b : ((s[q1].toNat : Int) == 45) = false := by rw [beq_eq_false_iff_ne]; exact t2
                  clear hnr t2
                  go_wp2_with fail
                  refine (sole_any s q0 _ hs (by have := HCU.out.1; omega)).mono ?_
                  rw [HSO.out]
                  unfold soleV
                  rintro e w2 ⟨rfl, rfl⟩
                  go_wp2_with (at_builtin; refine wpList_append_own_at _ rfl _ _ 22 rfl w.heap.size 21 i0 (.int .i32 0) 1 4 Tryd.underlying22 hi0 hz0 hz1 hz2 rfl (by decide) _ _ _ rfl (G.out.oLo.alloc _) ⟨wr.heap.size, 0, none⟩ 1 1 [.int .i32 x] rfl rfl (newsL _ _ [.int .i32 x]) (ones .i32 [x]) (by unfold maxLen; omega) (by omega) (by rw [alloc_size]; omega) ?_)
                  intro v1 w1 hown1 hgrow1 _ hat1
                  obtain ⟨va1, vc1, rfl⟩ := slice_of_own hown1
                  obtain ⟨X1, Z1, B1⟩ := G.out.grown G.out.oLo hgrow1
                  have y2 : w1.cell? ⟨w.heap.size + 1, 2, none⟩ = some (.slice la acc.length lc) := by rw [Lib.cell_of_heap X1]; rfl
                  have y3 : w1.cell? ⟨w.heap.size + 1, 3, none⟩ = some (.slice ra acc.length rc) := by rw [Lib.cell_of_heap X1]; rfl
                  have g2 : w1.frozen? ⟨w.heap.size + 1, 2, none⟩ = false := Lib.frozen_of_heap X1 2
                  have G1 := Lib.hid (G.out.putLo hown1 hgrow1 (hat1.imp id (fun e => ⟨_, e, by simp⟩)))
                  have hb1 := G1.out.B.size
                  clear hown1 hgrow1 hat1 X1 Z1 B1
                  go_wp2_with (at_builtin; go_loud (refine wpList_append_own_at _ rfl _ _ 22 rfl w.heap.size 21 i0 (.int .i32 0) 1 4 Tryd.underlying22 hi0 hz0 hz1 hz2 rfl (by decide) _ _ _ rfl (G1.out.oHi.alloc _) ⟨_, 0, none⟩ 1 1 [.int .i32 x] rfl rfl (newsAt _ _ [.int .i32 x] _ (by simp [World.setCell])) (ones .i32 [x]) (by unfold maxLen; omega) (by omega) (by rw [alloc_size]; omega) ?_))
                  intro v2 w2 hown2 hgrow2 _ hat2
                  obtain ⟨va2, vc2, rfl⟩ := slice_of_own hown2
                  obtain ⟨X2, Z2, B2⟩ := G1.out.grown G1.out.oHi hgrow2
                  have y4 : w2.cell? ⟨w.heap.size + 1, 3, none⟩ = some (.slice ra acc.length rc) := by rw [Lib.cell_of_heap X2]; rfl
                  have g4 : w2.frozen? ⟨w.heap.size + 1, 3, none⟩ = false := Lib.frozen_of_heap X2 3
                  have G2 := Lib.hid (G1.out.putHi hown2 hgrow2 (hat2.imp id (fun e => ⟨_, e, by simp [World.setCell]⟩)))
                  clear hown2 hgrow2 hat2 X2 Z2 B2 G1
                  go_wp2
                  go_roundg g
                  case measure => omega
                  case rel => exact ⟨k1, q1, acc ++ [(x, x)], _, _, HC1.out, rfl, by rw [List.length_append]; simp; omega, by omega, by omega, EQ.out, by simpa [i32s, Function.comp_def] using G2.out⟩
              · have t1i : ¬ (q1 : Int) + 1 < (s.size : Int) := by omega
                clear hnr
                go_wp2_with fail
                refine (sole_any s q0 _ hs (by have := HCU.out.1; omega)).mono ?_
                rw [HSO.out]
                unfold soleV
                rintro e w2 ⟨rfl, rfl⟩
                go_wp2_with (at_builtin; refine wpList_append_own_at _ rfl _ _ 22 rfl w.heap.size 21 i0 (.int .i32 0) 1 4 Tryd.underlying22 hi0 hz0 hz1 hz2 rfl (by decide) _ _ _ rfl (G.out.oLo.alloc _) ⟨wr.heap.size, 0, none⟩ 1 1 [.int .i32 x] rfl rfl (newsL _ _ [.int .i32 x]) (ones .i32 [x]) (by unfold maxLen; omega) (by omega) (by rw [alloc_size]; omega) ?_)
                intro v1 w1 hown1 hgrow1 _ hat1
                obtain ⟨va1, vc1, rfl⟩ := slice_of_own hown1
                obtain ⟨X1, Z1, B1⟩ := G.out.grown G.out.oLo hgrow1
                have y2 : w1.cell? ⟨w.heap.size + 1, 2, none⟩ = some (.slice la acc.length lc) := by rw [Lib.cell_of_heap X1]; rfl
                have y3 : w1.cell? ⟨w.heap.size + 1, 3, none⟩ = some (.slice ra acc.length rc) := by rw [Lib.cell_of_heap X1]; rfl
                have g2 : w1.frozen? ⟨w.heap.size + 1, 2, none⟩ = false := Lib.frozen_of_heap X1 2
                have G1 := Lib.hid (G.out.putLo hown1 hgrow1 (hat1.imp id (fun e => ⟨_, e, by simp⟩)))
                have hb1 := G1.out.B.size
                clear hown1 hgrow1 hat1 X1 Z1 B1
                go_wp2_with (at_builtin; go_loud (refine wpList_append_own_at _ rfl _ _ 22 rfl w.heap.size 21 i0 (.int .i32 0) 1 4 Tryd.underlying22 hi0 hz0 hz1 hz2 rfl (by decide) _ _ _ rfl (G1.out.oHi.alloc _) ⟨_, 0, none⟩ 1 1 [.int .i32 x] rfl rfl (newsAt _ _ [.int .i32 x] _ (by simp [World.setCell])) (ones .i32 [x]) (by unfold maxLen; omega) (by omega) (by rw [alloc_size]; omega) ?_))
                intro v2 w2 hown2 hgrow2 _ hat2
                obtain ⟨va2, vc2, rfl⟩ := slice_of_own hown2
                obtain ⟨X2, Z2, B2⟩ := G1.out.grown G1.out.oHi hgrow2
                have y4 : w2.cell? ⟨w.heap.size + 1, 3, none⟩ = some (.slice ra acc.length rc) := by rw [Lib.cell_of_heap X2]; rfl
                have g4 : w2.frozen? ⟨w.heap.size + 1, 3, none⟩ = false := Lib.frozen_of_heap X2 3
                have G2 := Lib.hid (G1.out.putHi hown2 hgrow2 (hat2.imp id (fun e => ⟨_, e, by simp [World.setCell]⟩)))
                clear hown2 hgrow2 hat2 X2 Z2 B2 G1
                go_wp2
                go_roundg g
                case measure => omega
                case rel => exact ⟨k1, q1, acc ++ [(x, x)], _, _, HC1.out, rfl, by rw [List.length_append]; simp; omega, by omega, by omega, EQ.out, by simpa [i32s, Function.comp_def] using G2.out⟩
      · have hso := hcur.sole (fun h => absurd h (hcur.over hlt))
        have hov := hcur.over hlt
        have hp : pointF (pts s) k0 = none := by unfold pointF; rw [if_neg hov]
        rw [hp] at hso
        have HSO : Hid (soleF s q0 = (0, q0, false)) := hso
        have HF : Hid (classF (pts s) (k + 1) = none) := by
          show _ = _
          unfold classF; rw [HNG.out, if_neg Bool.false_ne_true]; rw [← HX.out]
          simp only [classGo]
          rw [if_neg hov]
        have hlti : ¬ (q0 : Int) < (s.size : Int) := by omega
        clear hx hcur hso hp hov
        go_wp2_with fail
        refine (sole_any s q0 _ hs (by have := HCU.out.1; omega)).mono ?_
        rw [HSO.out]
        unfold soleV
        rintro e w2 ⟨rfl, rfl⟩
        go_wp2
        have D := set4_cells G.out.Z rfl (.bool false) (.bool false) (.slice la acc.length lc) (.slice ra acc.length rc)
        refine bodyPost_ret (v := .tuple #[.agg #[.bool false, .bool false, .slice la acc.length lc, .slice ra acc.length rc], .int .i64 (q0 : Int), .bool false]) ?_ rfl ?_
        · unfold set4 at D
          simp [results, Tryd.results52, go_sem, D.1, D.2.1, D.2.2.1, D.2.2.2]
        · rw [HF.out]
          exact ⟨_, _, _, _, _, _, _, _, rfl, below_set4 G.out.B (Nat.le_refl _) _ _ _ _⟩


theorem rclass_any (s : ByteArray) (k q : Nat) (w : World) (hs : s.size ≤ 1099511627776) (hc : Cur s k q) (hq : q < s.size) (h91 : (pts s).getD k 0 = 91) :
    Calls Tryd.prog 52 #[.string s, .int .i64 q] w (RClassPost s w (classF (pts s) (k + 1))) := by
  cases hn : negB (pts s) (k + 1) with
  | true => exact rclass_neg s k q w hs hc hq h91 hn
  | false => exact rclass_pos s k q w hs hc hq h91 hn
end Go.Proofs.YthkkphfnfggpaaaDoor
