/- The reference: is a code point one of an item's? -/
import Derived.Test.YthkkphfnfggpaaaDoorOne
import Derived.Test.YthkkphfnfggpaaaDoorLawBack
namespace Go.Proofs.YthkkphfnfggpaaaDoor
open Go.RowKit

theorem list_cellN {w : World} {va : Option Addr} {n vc : Nat} {l : List Int} (h : ListAt w (.slice va n vc) n (i32s l)) (hn : l.length = n) {k : Nat} (hk : k < n) :
    ∃ b off, va = some ⟨b, off, none⟩ ∧ w.cell? ⟨b, off + k, none⟩ = some (.int .i32 (l.getD k 0)) ∧ b < w.heap.size := by
  subst hn
  obtain ⟨h1, a', c', e, _, h2⟩ := h
  simp only [Value.slice.injEq] at e
  obtain ⟨rfl, _, rfl⟩ := e
  have hlen : (i32s l).length = l.length := by simp [i32s]
  rcases h2 with h2 | ⟨b, off, rfl, hb, hc⟩
  · omega
  · exact ⟨b, off, rfl, ListAt.i32 hc k hk, hb⟩
theorem len_of_listN {w : World} {v : Value} {n : Nat} {xs : List Value} (h : ListAt w v n xs) : ∃ a c, v = .slice a n c := by
  obtain ⟨_, a, c, rfl, _⟩ := h; exact ⟨a, c, rfl⟩
set_option maxRecDepth 100000 in
set_option maxHeartbeats 4000000 in
theorem in_any (lo hi : Value) (p : Prt) (c : Int) (w : World) (h1 : ListAt w lo p.spans.length (i32s (p.spans.map Prod.fst))) (h2 : ListAt w hi p.spans.length (i32s (p.spans.map Prod.snd))) (hn : p.spans.length ≤ 1099511627776) :
    Calls Tryd.prog 41 #[.agg #[.bool p.star, .bool p.neg, lo, hi], .int .i32 c] w fun e w' => e = .returned (.bool (takesB p c)) ∧ Below w.heap.size w w' := by
  obtain ⟨star, neg, l⟩ := p
  simp only at h1 h2 hn
  have H1 := Lib.hid h1
  have H2 := Lib.hid h2
  obtain ⟨la, lc, rfl⟩ := len_of_listN h1
  obtain ⟨ra, rc, rfl⟩ := len_of_listN h2
  clear h1 h2
  have HV : ∀ b, l.any (inSpan c) = b → takesB ⟨star, neg, l⟩ c = (if b then !neg else neg) := by
    intro b hb; unfold takesB; rw [hb]
  have HVH := Lib.hid HV
  clear HV
  go_enter Tryd.func41, Tryd.ntmps41
  go_wp2
  go_loopw [5] (fun i wr => ∃ k : Nat, k ≤ l.length ∧ i = .int .i64 k ∧ (l.drop k).any (inSpan c) = l.any (inSpan c) ∧ Below (w.heap.size + 1) (w.alloc (.cells #[.bool star, .bool neg, .slice la l.length lc, .slice ra l.length rc] 63)) wr) (fun i _ => l.length - (intOf i).toNat)
  case atStart => exact ⟨0, by omega, rfl, rfl, Below.refl _ _⟩
  case round =>
    obtain ⟨k, hk, rfl, hx, hb⟩ := hrel
    have HX := Lib.hid hx
    clear hx
    have c1 : wr.cell? ⟨w.heap.size, 1, none⟩ = some (.bool neg) := by
      rw [hb.cell (p := ⟨w.heap.size, 1, none⟩) (by simp), Lib.cell_of_heap (heap_alloc_new w _)]; rfl
    have c2 : wr.cell? ⟨w.heap.size, 2, none⟩ = some (.slice la l.length lc) := by
      rw [hb.cell (p := ⟨w.heap.size, 2, none⟩) (by simp), Lib.cell_of_heap (heap_alloc_new w _)]; rfl
    have c3 : wr.cell? ⟨w.heap.size, 3, none⟩ = some (.slice ra l.length rc) := by
      rw [hb.cell (p := ⟨w.heap.size, 3, none⟩) (by simp), Lib.cell_of_heap (heap_alloc_new w _)]; rfl
    have hbw : Below w.heap.size w wr := ((Below.refl _ _).alloc (Nat.le_refl _) _).trans (hb.mono (by omega))
    by_cases hlt : k < l.length
    · obtain ⟨b1, o1, rfl, d1, _⟩ := list_cellN (H1.out.below hbw) (by simp) hlt
      obtain ⟨b2, o2, rfl, d2, _⟩ := list_cellN (H2.out.below hbw) (by simp) hlt
      have g1 : (l.map Prod.fst).getD k 0 = (l.getD k (0, 0)).1 := by simp [List.getD, hlt]
      have g2 : (l.map Prod.snd).getD k 0 = (l.getD k (0, 0)).2 := by simp [List.getD, hlt]
      rw [g1] at d1
      rw [g2] at d2
      have HS := Lib.hid (any_drop (f := inSpan c) hlt)
      have HI : Hid (inSpan c (l.getD k (0, 0)) = (decide ((l.getD k (0, 0)).1 ≤ c) && decide (c ≤ (l.getD k (0, 0)).2))) := by show _ = _; rfl
      clear g1 g2
      generalize (l.getD k (0, 0)).1 = x at *
      generalize (l.getD k (0, 0)).2 = y at *
      by_cases e1 : x ≤ c
      · by_cases e2 : c ≤ y
        · go_wp2
          go_ret
          have : l.any (inSpan c) = true := by rw [← HX.out, HS.out, HI.out, decide_eq_true e1, decide_eq_true e2]; simp
          exact ⟨ret_bool (by rw [HVH.out _ this]; rfl), hbw⟩
        · go_wp2
          go_roundw
          case rel => exact ⟨k + 1, by omega, by go_num, by rw [← HX.out, HS.out, HI.out, decide_eq_false e2]; simp, hb⟩
          case measure => simp [intOf]; omega
      · go_wp2
        go_roundw
        case rel => exact ⟨k + 1, by omega, by go_num, by rw [← HX.out, HS.out, HI.out, decide_eq_false e1]; simp, hb⟩
        case measure => simp [intOf]; omega
    · have : l.any (inSpan c) = false := by rw [← HX.out, List.drop_eq_nil_of_le (by omega)]; rfl
      have HR := Lib.hid (HVH.out _ this)
      go_wp2
      go_ret
      exact ⟨ret_bool (by rw [HR.out]; rfl), hbw⟩
end Go.Proofs.YthkkphfnfggpaaaDoor
