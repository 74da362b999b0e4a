/- What a part takes. -/
import Derived.Test.YthkkphfnfggpaaaDoorParse
namespace Go.Proofs.YthkkphfnfggpaaaDoor
open Go.RowKit

def inSpan (c : Int) (s : Int × Int) : Bool := decide (s.1 ≤ c) && decide (c ≤ s.2)
def takesB (p : Prt) (c : Int) : Bool := if p.spans.any (inSpan c) then !p.neg else p.neg
theorem spanCells_get (l : List (Int × Int)) (j : Nat) (h : j < l.length) : (spanCells l)[j * 2]? = some (.int .i32 (l.getD j (0, 0)).1) ∧ (spanCells l)[j * 2 + 1]? = some (.int .i32 (l.getD j (0, 0)).2) := by
  induction l generalizing j with
  | nil => simp at h
  | cons a l ih =>
    cases j with
    | zero => exact ⟨rfl, rfl⟩
    | succ j =>
      have := ih j (by simpa using h)
      have e : spanCells (a :: l) = .int .i32 a.1 :: .int .i32 a.2 :: spanCells l := rfl
      rw [e, show (j + 1) * 2 = j * 2 + 1 + 1 from by omega]
      exact this
theorem any_drop {l : List (Int × Int)} {f : Int × Int → Bool} {k : Nat} (h : k < l.length) : (l.drop k).any f = (f (l.getD k (0, 0)) || (l.drop (k + 1)).any f) := by
  rw [List.drop_eq_getElem_cons h, List.any_cons]; simp [List.getD, h]

set_option maxHeartbeats 4000000 in
theorem takes_any (B : Nat) (p : Prt) (sv : Value) (c : Int) (w : World) (hs : SpansAt w B sv p.spans) (hn : p.spans.length ≤ 1099511627776) :
    Calls Tryd.prog 53 #[.agg #[.bool p.star, .bool p.neg, sv], .int .i32 c] w fun e w' => e = .returned (.bool (takesB p c)) ∧ Below w.heap.size w w' := by
  obtain ⟨star, neg, l⟩ := p
  have hcl := fun g hg => hs.cells (g := g) hg
  have hlt := hs.lt
  obtain ⟨sa, sc, rfl⟩ := slice_of_own hs
  have hsa : l.length = 0 ∨ ∃ g, sa = some ⟨g, 0, none⟩ := by
    rcases hs.2 with ⟨_, h0⟩ | ⟨g, cap, cur, h, _⟩
    · exact .inl h0
    · right; simp at h; exact ⟨g, h.1⟩
  have HSA := Lib.hid hsa
  have HCL := Lib.hid hcl
  have HLT := Lib.hid hlt
  simp only at hn
  clear hs hsa hcl hlt
  have HV : ∀ b, l.any (inSpan c) = b → takesB ⟨star, neg, l⟩ c = (if b then !neg else neg) := by
    intro b hb; unfold takesB; rw [hb]
  have HVH := Lib.hid HV
  clear HV
  go_enter Tryd.func53, Tryd.ntmps53
  go_wp2
  go_loopw [10] (fun i wr => ∃ k : Nat, k ≤ l.length ∧ i = .int .i64 k ∧ (l.drop k).any (inSpan c) = l.any (inSpan c) ∧ Below (w.heap.size + 1) (w.alloc (.cells #[.bool star, .bool neg, .slice sa l.length sc] 81)) wr) (fun i _ => l.length - (intOf i).toNat)
  case atStart => exact ⟨0, by omega, rfl, rfl, Below.refl _ _⟩
  case round =>
    obtain ⟨k, hk, rfl, hx, hb⟩ := hrel
    have HX := Lib.hid hx
    clear hx
    have c1 : wr.cell? ⟨w.heap.size, 1, none⟩ = some (.bool neg) := by
      rw [hb.cell (p := ⟨w.heap.size, 1, none⟩) (by simp), Lib.cell_of_heap (heap_alloc_new w _)]; rfl
    have hbw : Below w.heap.size w wr := ((Below.refl _ _).alloc (Nat.le_refl _) _).trans (hb.mono (by omega))
    have hbs : w.heap.size + 1 ≤ wr.heap.size := by have := hb.size; simp at this; exact this
    have hbs2 : w.heap.size < wr.heap.size := hbs
    by_cases hlt : k < l.length
    · obtain ⟨g, rfl⟩ := HSA.out.resolve_left (by omega)
      have d := spanCells_get l k hlt
      have e1 : (⟨g, 0, none⟩ : Addr).add (k * 2) = ⟨g, k * 2, none⟩ := by unfold Addr.add; split <;> simp_all
      have e2 : (⟨g, 0, none⟩ : Addr).add (k * 2 + 1) = ⟨g, k * 2 + 1, none⟩ := by unfold Addr.add; split <;> simp_all
      have d1 : wr.cell? ⟨g, k * 2, none⟩ = some (.int .i32 (l.getD k (0, 0)).1) := by
        have := HCL.out g rfl _ _ d.1
        rw [e1] at this
        rw [hbw.cell (p := ⟨g, k * 2, none⟩) (HLT.out g rfl).2]; exact this
      have d2 : wr.cell? ⟨g, k * 2 + 1, none⟩ = some (.int .i32 (l.getD k (0, 0)).2) := by
        have := HCL.out g rfl _ _ d.2
        rw [e2] at this
        rw [hbw.cell (p := ⟨g, k * 2 + 1, none⟩) (HLT.out g rfl).2]; exact this
      have HS := Lib.hid (any_drop (f := inSpan c) hlt)
      clear d e1 e2
      generalize l.getD k (0, 0) = s at *
      obtain ⟨lo, hi⟩ := s
      simp only at d1 d2
      by_cases h1 : lo ≤ c
      · by_cases h2 : c ≤ hi
        · have HE : Hid (takesB ⟨star, neg, l⟩ c = !neg) := by
            show _ = _
            have : l.any (inSpan c) = true := by rw [← HX.out, HS.out]; simp [inSpan, h1, h2]
            rw [HVH.out _ this]; rfl
          go_wp2
          go_ret
          exact ⟨ret_bool (by rw [HE.out]), hbw.alloc hbw.size _⟩
        · have HE : Hid (inSpan c (lo, hi) = false) := by show _ = _; simp [inSpan, h2]
          go_wp2
          go_roundw
          case rel => exact ⟨k + 1, by omega, by go_num, by rw [← HX.out, HS.out, HE.out]; rfl, hb.alloc hbs _⟩
          case measure => simp [intOf]; omega
      · have HE : Hid (inSpan c (lo, hi) = false) := by show _ = _; simp [inSpan, h1]
        go_wp2
        go_roundw
        case rel => exact ⟨k + 1, by omega, by go_num, by rw [← HX.out, HS.out, HE.out]; rfl, hb.alloc hbs _⟩
        case measure => simp [intOf]; omega
    · have HE : Hid (takesB ⟨star, neg, l⟩ c = neg) := by
        show _ = _
        have : l.any (inSpan c) = false := by rw [← HX.out, List.drop_eq_nil_of_le (by omega)]; rfl
        rw [HVH.out _ this]; rfl
      go_wp2
      go_ret
      exact ⟨ret_bool (by rw [HE.out]), hbw⟩
end Go.Proofs.YthkkphfnfggpaaaDoor
