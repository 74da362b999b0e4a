/- The reader over a pattern. -/
import Derived.Test.YthkkphfnfggpaaaDoorClass
namespace Go.Proofs.YthkkphfnfggpaaaDoor
open Go.RowKit

/-- the places of a text's pieces, from a place on -/
def plFrom (s : ByteArray) : Nat → Nat → List Nat
  | 0, _ => []
  | f + 1, pos => if pos < s.size then pos :: plFrom s f (pos + (Utf8.decode s pos).2) else []
def plAt (s : ByteArray) (pos : Nat) : List Nat := plFrom s (s.size - pos) pos
def plc (s : ByteArray) : List Nat := plAt s 0
theorem plFrom_eq (s : ByteArray) : ∀ f g pos, s.size - pos ≤ f → s.size - pos ≤ g → plFrom s f pos = plFrom s g pos := by
  intro f
  induction f with
  | zero =>
    intro g pos h _
    cases g with
    | zero => rfl
    | succ g => simp only [plFrom]; rw [if_neg (by omega)]
  | succ f ih =>
    intro g pos h1 h2
    cases g with
    | zero => simp only [plFrom]; rw [if_neg (by omega)]
    | succ g =>
      simp only [plFrom]
      by_cases hp : pos < s.size
      · have hw := Lib.decode_width_pos s pos hp
        rw [if_pos hp, if_pos hp, ih g _ (by omega) (by omega)]
      · rw [if_neg hp, if_neg hp]
theorem plAt_end (s : ByteArray) (pos : Nat) (h : ¬ pos < s.size) : plAt s pos = [] := by
  unfold plAt; rw [show s.size - pos = 0 from by omega]; rfl
theorem plAt_step (s : ByteArray) (pos : Nat) (h : pos < s.size) : plAt s pos = pos :: plAt s (pos + (Utf8.decode s pos).2) := by
  have hw := Lib.decode_width_pos s pos h
  have e : plAt s pos = plFrom s (s.size - pos - 1 + 1) pos := plFrom_eq s _ _ _ (by omega) (by omega)
  rw [e]
  simp only [plFrom, if_pos h]
  congr 1
  exact plFrom_eq s _ _ _ (by omega) (by omega)
theorem plAt_len (s : ByteArray) : ∀ k pos, s.size - pos ≤ k → (plAt s pos).length = (ptsAt s pos).length := by
  intro k
  induction k with
  | zero => intro pos h; rw [ptsAt_end s pos (by omega), plAt_end s pos (by omega)]; rfl
  | succ k ih =>
    intro pos h
    by_cases hp : pos < s.size
    · have hw := Lib.decode_width_pos s pos hp
      rw [ptsAt_step s pos hp, plAt_step s pos hp, List.length_cons, List.length_cons, ih _ (by omega)]
    · rw [ptsAt_end s pos hp, plAt_end s pos hp]; rfl
theorem info_int : (Tryd.prog.info? 3).map (fun i => (i.zero, i.size, i.bytes)) = some (some (.int .i64 0), 1, 8) := by kernel_rfl

/-- two rows in a reader's block make a reader -/
theorem Rd.make {w : World} {B r : Nat} {vp vq : Value} {L : List Int} {PL : List Nat} {k : Nat} (hr : w.heap[r]? = some (.cells #[vp, vq, .int .i64 k] 77 (0, 0)))
    (hp : w.ownsRow B 21 1 vp L.length (i32s L)) (hq : w.ownsRow B 3 1 vq L.length (i64s PL)) (hl : PL.length = L.length) (hn : L.length ≤ 1099511627776) (hk : k ≤ L.length) : Rd w r L PL k := by
  have n1 := own_ne_cells hp hr (by decide)
  have n2 := own_ne_cells hq hr (by decide)
  have l1 := hp.lt
  have l2 := hq.lt
  have c1 := fun g hg => hp.cells (g := g) hg
  have c2 := fun g hg => hq.cells (g := g) hg
  have ad : ∀ (g j : Nat), (⟨g, 0, none⟩ : Addr).add j = ⟨g, 0 + j, none⟩ := fun g j => by unfold Addr.add; split <;> simp_all
  refine ⟨hl, hn, hk, (Array.getElem?_eq_some_iff.1 hr).1, ?_⟩
  by_cases h0 : L.length = 0
  · obtain ⟨a, c, rfl⟩ := slice_of_own hp
    obtain ⟨a', c', rfl⟩ := slice_of_own hq
    exact ⟨a, c, a', c', hr, by omega, by omega, .inl h0⟩
  rcases hp.2 with ⟨_, e0⟩ | ⟨g, cap, cur, rfl, _, hg, hcap, _⟩
  · exact absurd e0 h0
  rcases hq.2 with ⟨_, e0⟩ | ⟨g', cap', cur', rfl, _, hg', hcap', _⟩
  · exact absurd e0 h0
  refine ⟨_, _, _, _, hr, hcap, hcap', .inr ⟨g, 0, g', 0, rfl, rfl, ?_, ?_, (l1 g rfl).2, (l2 g' rfl).2, ⟨_, _, hg⟩, ⟨_, _, hg'⟩, fun j u hu => ?_, fun j u hu => ?_⟩⟩
  · intro e; exact n1 (by rw [e]; rfl)
  · intro e; exact n2 (by rw [e]; rfl)
  · have := c1 g rfl j u hu; rw [ad] at this; exact this
  · have := c2 g' rfl j u hu; rw [ad] at this; exact this

theorem own_keep {w w' : World} {B : Nat} {e : TypeId} {size : Nat} {v : Value} {n : Nat} {xs : List Value} (h : w.ownsRow B e size v n xs)
    {B2 : Nat} {e2 : TypeId} {size2 : Nat} {v2 : Value} {n2 : Nat} {xs2 : List Value} (h2 : w.ownsRow B2 e2 size2 v2 n2 xs2) (hT : e ≠ e2) (hg : w.grownBy w' v2.ownBlock) : w'.ownsRow B e size v n xs := by
  rcases h.2 with ⟨rfl, hn⟩ | ⟨g, cap, cur, rfl, hb, hgg, hr⟩
  · exact ⟨h.1, .inl ⟨rfl, hn⟩⟩
  · exact ⟨h.1, .inr ⟨g, cap, cur, rfl, hb, cells_grown h2 hg hgg hT, hr⟩⟩

set_option maxHeartbeats 4000000 in
theorem read_any (s : ByteArray) (w : World) (hs : s.size ≤ 1099511627776) :
    Calls Tryd.prog 47 #[.string s] w fun e w' => e = .returned (.pointer (some ⟨w.heap.size, 0, none⟩)) ∧ Below w.heap.size w w' ∧ Rd w' w.heap.size (pts s) (plc s) 0 := by
  obtain ⟨i0, hi, hz0, hz1, hz2⟩ := info_parts info_i32
  obtain ⟨j0, hj, jz0, jz1, jz2⟩ := info_parts info_int
  have hl := pts_len s
  go_enter Tryd.func47, Tryd.ntmps47
  go_wp2
  go_loopg [] s.size (fun g wr => ∃ (p : Nat) (xs : List Int) (ps : List Nat) (vp vq : Value), p ≤ s.size ∧ s.size - p ≤ g ∧ ps.length = xs.length ∧ xs ++ ptsAt s p = pts s ∧ ps ++ plAt s p = plc s ∧
      wr.heap[w.heap.size]? = some (.cells #[vp, vq, .int .i64 0] 77 (0, 0)) ∧ wr.heap[w.heap.size + 1]? = some (.stringIter s p) ∧
      wr.ownsRow w.heap.size 21 1 vp xs.length (i32s xs) ∧ wr.ownsRow w.heap.size 3 1 vq xs.length (i64s ps) ∧ Below w.heap.size w wr)
  case atStart =>
    refine ⟨0, [], [], .slice none 0 0, .slice none 0 0, by omega, by omega, rfl, rfl, rfl, ?_, ?_, World.ownsRow_nil _ _ _ _, World.ownsRow_nil _ _ _ _, ((Below.refl _ _).alloc (Nat.le_refl _) _).alloc (by simp) _⟩
    · unfold World.iter; rw [Below.heap_alloc _ _ _ (by simp)]; exact heap_alloc_new w _
    · have := World.iter_heap (w.alloc (.cells #[.slice none 0 0, .slice none 0 0, .int .i64 0] 77)) s 0
      rw [show (w.alloc (.cells #[.slice none 0 0, .slice none 0 0, .int .i64 0] 77)).heap.size = w.heap.size + 1 from by simp] at this
      exact this
  case round =>
    obtain ⟨p, xs, ps, vp, vq, hp, hg, hpl, hx, hy, hr, hit, ho1, ho2, hb⟩ := hrel
    have hxl : xs.length ≤ s.size := by rw [← hx] at hl; simp at hl; omega
    have HX := Lib.hid hx
    have HY := Lib.hid hy
    have HL := Lib.hid hpl
    clear hx hl hy hpl
    by_cases hlt : p < s.size
    · have hw := Lib.decode_width_pos s p hlt
      have hz := size_le_dec s p hlt
      have HS := Lib.hid (ptsAt_step s p hlt)
      have HS2 := Lib.hid (plAt_step s p hlt)
      have hxl2 : xs.length + 1 ≤ s.size := by
        have := HX.out; rw [HS.out] at this; have l := pts_len s; rw [← this] at l; simp at l; omega
      have hnx := fun ty => Lib.run_next_any_at (P := Tryd.prog) wr (w.heap.size + 1) s p ty hit hlt
      have hit1 := Lib.iterAt_heap wr (w.heap.size + 1) s p (p + (Utf8.decode s p).2) hit
      have hb1 := Lib.below_iterAt hb (Nat.le_succ _) s (p + (Utf8.decode s p).2)
      have hr1 : (wr.iterAt (w.heap.size + 1) s (p + (Utf8.decode s p).2)).heap[w.heap.size]? = some (.cells #[vp, vq, .int .i64 0] 77 (0, 0)) := by
        rw [Lib.iterAt_other _ _ _ _ _ (by omega)]; exact hr
      have ho1i := own_iterAt ho1 hit (p + (Utf8.decode s p).2)
      have ho2i := own_iterAt ho2 hit (p + (Utf8.decode s p).2)
      have H1 := Lib.hid hit1
      clear hit1 hb ho1 ho2 hr
      generalize hwi : wr.iterAt (w.heap.size + 1) s (p + (Utf8.decode s p).2) = wi at *
      clear hit hwi
      have c0 : wi.cell? ⟨w.heap.size, 0, none⟩ = some vp := by rw [Lib.cell_of_heap hr1]; rfl
      have HR1 := Lib.hid hr1
      clear hr1
      obtain ⟨a1, d1, hvp⟩ := slice_of_own ho1i
      subst hvp
      go_wp2_with (at_builtin; go_loud (refine wpList_append_own _ rfl _ _ 22 rfl w.heap.size 21 i0 (.int .i32 0) 1 4 Tryd.underlying22 hi hz0 hz1 hz2 rfl (by decide) _ _ _ rfl (ho1i.alloc _) ⟨wi.heap.size, 0, none⟩ 1 1 [.int .i32 (Utf8.decode s p).1] rfl rfl (newsAt _ _ [.int .i32 (Utf8.decode s p).1] _ rfl) (ones .i32 [_]) (by unfold maxLen; omega) (by omega) (by have := hb1.size; simp; omega) ?_))
      intro v1 w2 hown1 hgrow1 hne1
      have oa := ho1i.alloc (.cells #[.int .i32 (Utf8.decode s p).1] 21)
      have hr2 := cells_grown oa hgrow1 (cells_alloc HR1.out _) (by decide)
      have it2 : w2.heap[w.heap.size + 1]? = some (.stringIter s (p + (Utf8.decode s p).2)) := iter_grown ho1i H1.out hgrow1
      have ho2a := own_keep (ho2i.alloc (.cells #[.int .i32 (Utf8.decode s p).1] 21)) oa (by decide) hgrow1
      have hb2 : Below w.heap.size w w2 := (hb1.alloc hb1.size _).grown hgrow1 (by have := hb1.size; simp; omega) (fun k hk => (ho1i.lt k hk).1)
      have hr3 := cells_set hr2 (j := 0) v1
      have it3 : (w2.setCell ⟨w.heap.size, 0, none⟩ v1).heap[w.heap.size + 1]? = some (.stringIter s (p + (Utf8.decode s p).2)) := by
        rw [Below.heap_setCell _ _ _ _ (by show w.heap.size + 1 ≠ w.heap.size; omega)]; exact it2
      have o1 := own_setCell hown1 hr2 (by decide) 0 v1
      have o2 := own_setCell ho2a hr2 (by decide) 0 v1
      have hb3 := hb2.setCell (p := ⟨w.heap.size, 0, none⟩) (Nat.le_refl _) v1
      have z0 : w2.cell? ⟨w.heap.size, 0, none⟩ = some (.slice a1 xs.length d1) := by rw [Lib.cell_of_heap hr2]; rfl
      have fz : w2.frozen? ⟨w.heap.size, 0, none⟩ = false := Lib.frozen_of_heap hr2 0
      have z1 : (w2.setCell ⟨w.heap.size, 0, none⟩ v1).cell? ⟨w.heap.size, 1, none⟩ = some vq := by rw [Lib.cell_of_heap hr3]; rfl
      have HR3 := Lib.hid hr3
      have IT3 := Lib.hid it3
      obtain ⟨a3, d3, hv1⟩ := slice_of_own hown1
      obtain ⟨a2, d2, hvq⟩ := slice_of_own ho2i
      subst hv1 hvq
      clear hown1 hgrow1 hne1 oa hr2 it2 ho2a hb2 hr3 it3 ho1i ho2i hnx hb1
      have e1 : w2.heap.size = (w2.setCell ⟨w.heap.size, 0, none⟩ (.slice a3 (xs.length + 1) d3)).heap.size := by simp [World.setCell]
      have HSZ := Lib.hid e1
      clear e1
      go_wp2_with (at_builtin; go_loud (refine wpList_append_own _ rfl _ _ 75 rfl w.heap.size 3 j0 (.int .i64 0) 1 8 Tryd.underlying75 hj jz0 jz1 jz2 rfl (by decide) _ _ _ rfl (o2.alloc _) ⟨w2.heap.size, 0, none⟩ 1 1 [.int .i64 p] rfl rfl (newsAt _ _ [.int .i64 p] _ HSZ.out) (ones .i64 [_]) (by unfold maxLen; omega) (by omega) (by have := hb3.size; rw [← HSZ.out] at this; simp; omega) ?_))
      intro v2 w4 hown2 hgrow2 hne2
      have oa := o2.alloc (.cells #[.int .i64 p] 3)
      have hr4 := cells_grown oa hgrow2 (cells_alloc HR3.out _) (by decide)
      have it4 : w4.heap[w.heap.size + 1]? = some (.stringIter s (p + (Utf8.decode s p).2)) := iter_grown o2 IT3.out hgrow2
      have o1b := own_keep (o1.alloc (.cells #[.int .i64 p] 3)) oa (by decide) hgrow2
      have hb4 : Below w.heap.size w w4 := (hb3.alloc hb3.size _).grown hgrow2 (by have := hb3.size; rw [← HSZ.out] at this; simp; omega) (fun k hk => (o2.lt k hk).1)
      have hr5 := cells_set hr4 (j := 1) v2
      have it5 : (w4.setCell ⟨w.heap.size, 1, none⟩ v2).heap[w.heap.size + 1]? = some (.stringIter s (p + (Utf8.decode s p).2)) := by
        rw [Below.heap_setCell _ _ _ _ (by show w.heap.size + 1 ≠ w.heap.size; omega)]; exact it4
      have o1c := own_setCell o1b hr4 (by decide) 1 v2
      have o2c := own_setCell hown2 hr4 (by decide) 1 v2
      have hb5 := hb4.setCell (p := ⟨w.heap.size, 1, none⟩) (Nat.le_refl _) v2
      have y1 : w4.cell? ⟨w.heap.size, 1, none⟩ = some (.slice a2 xs.length d2) := by rw [Lib.cell_of_heap hr4]; rfl
      have fy : w4.frozen? ⟨w.heap.size, 1, none⟩ = false := Lib.frozen_of_heap hr4 1
      have HP : Hid (∃ (p : Nat) (xs : List Int) (ps : List Nat) (vp vq : Value), p ≤ s.size ∧ s.size - p ≤ gk - 1 ∧ ps.length = xs.length ∧ xs ++ ptsAt s p = pts s ∧ ps ++ plAt s p = plc s ∧
          (w4.setCell ⟨w.heap.size, 1, none⟩ v2).heap[w.heap.size]? = some (.cells #[vp, vq, .int .i64 0] 77 (0, 0)) ∧ (w4.setCell ⟨w.heap.size, 1, none⟩ v2).heap[w.heap.size + 1]? = some (.stringIter s p) ∧
          (w4.setCell ⟨w.heap.size, 1, none⟩ v2).ownsRow w.heap.size 21 1 vp xs.length (i32s xs) ∧ (w4.setCell ⟨w.heap.size, 1, none⟩ v2).ownsRow w.heap.size 3 1 vq xs.length (i64s ps) ∧ Below w.heap.size w (w4.setCell ⟨w.heap.size, 1, none⟩ v2)) := by
        refine ⟨p + (Utf8.decode s p).2, xs ++ [((Utf8.decode s p).1 : Int)], ps ++ [p], _, v2, by omega, by omega, by simp [HL.out], ?_, ?_, hr5, it5, by simpa using o1c, by simpa using o2c, hb5⟩
        · rw [List.append_assoc, List.singleton_append, ← HS.out]; exact HX.out
        · rw [List.append_assoc, List.singleton_append, ← HS2.out]; exact HY.out
      obtain ⟨a4, d4, hv2⟩ := slice_of_own hown2
      subst hv2
      clear hown2 hgrow2 hne2 oa hr4 it4 o1b hb4 hr5 it5 o1c o2c hb5 o1 o2 hb3
      go_wp2
      go_roundg (gk - 1)
      case measure => omega
      case rel => exact HP.out
    · have hnx := fun ty => Lib.run_next_end_at (P := Tryd.prog) wr (w.heap.size + 1) s p ty hit hlt
      have e1 : xs = pts s := by rw [← HX.out, ptsAt_end s p hlt]; simp
      have e2 : ps = plc s := by rw [← HY.out, plAt_end s p hlt]; simp
      have HR : Hid (Rd wr w.heap.size (pts s) (plc s) 0) := by
        rw [← e1, ← e2]
        exact Rd.make hr ho1 ho2 HL.out (by omega) (by omega)
      clear hit e1 e2 hr ho1 ho2
      go_wp2
      go_ret
      exact ⟨rfl, hb, HR.out⟩
end Go.Proofs.YthkkphfnfggpaaaDoor
