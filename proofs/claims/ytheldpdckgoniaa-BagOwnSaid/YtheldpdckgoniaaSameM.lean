/- SameMsg. -/
import Derived.Test.YtheldpdckgoniaaSameN1
import Derived.Test.YtheldpdckgoniaaSameN2
namespace Go.Proofs.Ytheldpdckgoniaa
open Go.RowKit

set_option maxHeartbeats 8000000 in
set_option maxRecDepth 100000 in
theorem sameP (w : World) (x y : Msg) (xa xb ya yb : Option Addr) (xc xd yc yd : Nat) (e0 : (x.k == y.k) = true) (e1 : (x.f == y.f) = true) (e2 : (x.t == y.t) = true) (e3 : (x.tm == y.tm) = true) (e4 : (x.a == y.a) = true) (e5 : (x.b == y.b) = true) (e6 : (x.c == y.c) = true) (e7 : (x.ok == y.ok) = true) (e8 : (x.d.toList == y.d.toList) = true) {A B : Prop} (w2 : World) (hw2 : w2 = (w.alloc (.cells (x.arr (.slice xa x.l.length xc) (.slice xb x.es.length xd)) 38)).alloc (.cells (y.arr (.slice ya y.l.length yc) (.slice yb y.es.length yd)) 38))
    (hI : Calls Try.prog 28 #[.slice xa x.l.length xc, .slice ya y.l.length yc] w2 fun e w' => SameQ A e ∧ Below w2.heap.size w2 w')
    (hE : ∀ w3, Below w2.heap.size w2 w3 → Calls Try.prog 29 #[.slice xb x.es.length xd, .slice yb y.es.length yd] w3 fun e w' => SameQ B e ∧ Below w3.heap.size w3 w') :
    Calls Try.prog 14 #[x.agg (.slice xa x.l.length xc) (.slice xb x.es.length xd), y.agg (.slice ya y.l.length yc) (.slice yb y.es.length yd)] w fun e w' => SameQ (A ∧ B) e ∧ Below w.heap.size w w' := by
  have hb2 : Below w.heap.size w w2 := by rw [hw2]; exact ((Below.refl _ _).alloc (Nat.le_refl _) _).alloc (by simp) _
  have hx2 : w2.heap[w.heap.size]? = some (.cells (x.arr (.slice xa x.l.length xc) (.slice xb x.es.length xd)) 38 (0, 0)) := by rw [hw2]; exact (Below.heap_alloc _ _ _ (by simp)).trans (heap_alloc_new w _)
  have hy2 : w2.heap[w.heap.size + 1]? = some (.cells (y.arr (.slice ya y.l.length yc) (.slice yb y.es.length yd)) 38 (0, 0)) := by rw [hw2]; have := heap_alloc_new (w.alloc (.cells (x.arr (.slice xa x.l.length xc) (.slice xb x.es.length xd)) 38)) (.cells (y.arr (.slice ya y.l.length yc) (.slice yb y.es.length yd)) 38); rwa [World.size_alloc] at this
  have HI := Lib.hid hI
  have HE := Lib.hid hE
  have HB2 := Lib.hid hb2
  have HX2 := Lib.hid hx2
  have HY2 := Lib.hid hy2
  have HW2 := Lib.hid hw2
  clear hI hE hb2 hx2 hy2 hw2
  go_enter Try.func14, Try.ntmps14
  go_wp2_with fail
  rw [← HW2.out]
  refine HI.out.mono ?_
  rintro e w3 ⟨⟨v, rfl, hv⟩, hb3⟩
  have HV := Lib.hid hv
  have HB3 := Lib.hid hb3
  have cx := Lib.cell_of_heap (box_below HX2.out hb3) 9
  have cy := Lib.cell_of_heap (box_below HY2.out hb3) 9
  clear hv hb3
  cases v with
  | false =>
    go_wp2
    go_ret
    exact ⟨sameQ false rfl (fun e => HV.out e.1), HB2.out.trans (HB3.out.mono HB2.out.size)⟩
  | true =>
    go_wp2_with fail
    refine (HE.out w3 HB3.out).mono ?_
    rintro e w4 ⟨⟨v2, rfl, hv2⟩, hb4⟩
    have HV2 := Lib.hid hv2
    have HB4 := Lib.hid hb4
    clear hv2 hb4 cx cy
    go_wp2
    go_ret
    exact ⟨sameQ v2 rfl (fun e => HV2.out e.2), HB2.out.trans ((HB3.out.mono HB2.out.size).trans (HB4.out.mono (Nat.le_trans HB2.out.size HB3.out.size)))⟩
theorem sameM_any {B B' : Nat → Prop} {w : World} {x y : Msg} {xl xe yl ye : Value} (hx : LI B w x xl xe) (hy : LI B' w y yl ye) (sx : Sm x) (sy : Sm y) :
    Calls Try.prog 14 #[x.agg xl xe, y.agg yl ye] w fun e w' => SameQ (x = y) e ∧ Below w.heap.size w w' := by
  obtain ⟨w2, hw2⟩ : ∃ w2, w2 = (w.alloc (.cells (x.arr xl xe) 38)).alloc (.cells (y.arr yl ye) 38) := ⟨_, rfl⟩
  have hb2 : Below w.heap.size w w2 := by rw [hw2]; exact ((Below.refl _ _).alloc (Nat.le_refl _) _).alloc (by simp) _
  have hI := sameI_any xl yl x.l y.l w2 (hx.1.below hb2) (hy.1.below hb2) sx.l sy.l
  have hE : ∀ w3, Below w2.heap.size w2 w3 → Calls Try.prog 29 #[xe, ye] w3 fun e w' => SameQ (x.es = y.es) e ∧ Below w3.heap.size w3 w' := fun w3 h3 => sameE_any xe ye x.es y.es w3 ((hx.2.below hb2).below h3) ((hy.2.below hb2).below h3) sx.e sy.e
  obtain ⟨xa, xc, rfl, _⟩ := hx.1.slice
  obtain ⟨xb, xd, rfl, _⟩ := hx.2.slice
  obtain ⟨ya, yc, rfl, _⟩ := hy.1.slice
  obtain ⟨yb, yd, rfl, _⟩ := hy.2.slice
  by_cases h0 : (x.k == y.k) = true
  case neg =>
    have e0 : (x.k == y.k) = false := by simpa using h0
    exact (sameN0 w x y xa xb ya yb xc xd yc yd e0).mono (fun e w' hh => ⟨sameQ false hh.1 (fun e => by rw [e] at e0; simp at e0), hh.2⟩)
  have e0 := h0
  by_cases h1 : (x.f == y.f) = true
  case neg =>
    have e1 : (x.f == y.f) = false := by simpa using h1
    exact (sameN1 w x y xa xb ya yb xc xd yc yd e0 e1).mono (fun e w' hh => ⟨sameQ false hh.1 (fun e => by rw [e] at e1; simp at e1), hh.2⟩)
  have e1 := h1
  by_cases h2 : (x.t == y.t) = true
  case neg =>
    have e2 : (x.t == y.t) = false := by simpa using h2
    exact (sameN2 w x y xa xb ya yb xc xd yc yd e0 e1 e2).mono (fun e w' hh => ⟨sameQ false hh.1 (fun e => by rw [e] at e2; simp at e2), hh.2⟩)
  have e2 := h2
  by_cases h3 : (x.tm == y.tm) = true
  case neg =>
    have e3 : (x.tm == y.tm) = false := by simpa using h3
    exact (sameN3 w x y xa xb ya yb xc xd yc yd e0 e1 e2 e3).mono (fun e w' hh => ⟨sameQ false hh.1 (fun e => by rw [e] at e3; simp at e3), hh.2⟩)
  have e3 := h3
  by_cases h4 : (x.a == y.a) = true
  case neg =>
    have e4 : (x.a == y.a) = false := by simpa using h4
    exact (sameN4 w x y xa xb ya yb xc xd yc yd e0 e1 e2 e3 e4).mono (fun e w' hh => ⟨sameQ false hh.1 (fun e => by rw [e] at e4; simp at e4), hh.2⟩)
  have e4 := h4
  by_cases h5 : (x.b == y.b) = true
  case neg =>
    have e5 : (x.b == y.b) = false := by simpa using h5
    exact (sameN5 w x y xa xb ya yb xc xd yc yd e0 e1 e2 e3 e4 e5).mono (fun e w' hh => ⟨sameQ false hh.1 (fun e => by rw [e] at e5; simp at e5), hh.2⟩)
  have e5 := h5
  by_cases h6 : (x.c == y.c) = true
  case neg =>
    have e6 : (x.c == y.c) = false := by simpa using h6
    exact (sameN6 w x y xa xb ya yb xc xd yc yd e0 e1 e2 e3 e4 e5 e6).mono (fun e w' hh => ⟨sameQ false hh.1 (fun e => by rw [e] at e6; simp at e6), hh.2⟩)
  have e6 := h6
  by_cases h7 : (x.ok == y.ok) = true
  case neg =>
    have e7 : (x.ok == y.ok) = false := by simpa using h7
    exact (sameN7 w x y xa xb ya yb xc xd yc yd e0 e1 e2 e3 e4 e5 e6 e7).mono (fun e w' hh => ⟨sameQ false hh.1 (fun e => by rw [e] at e7; simp at e7), hh.2⟩)
  have e7 := h7
  by_cases h8 : (x.d.toList == y.d.toList) = true
  case neg =>
    have e8 : (x.d.toList == y.d.toList) = false := by simpa using h8
    exact (sameN8 w x y xa xb ya yb xc xd yc yd e0 e1 e2 e3 e4 e5 e6 e7 e8).mono (fun e w' hh => ⟨sameQ false hh.1 (fun e => by rw [e] at e8; simp at e8), hh.2⟩)
  have e8 := h8
  exact (sameP w x y xa xb ya yb xc xd yc yd e0 e1 e2 e3 e4 e5 e6 e7 e8 w2 hw2 hI hE).mono (fun e w' hh => ⟨by obtain ⟨v, h1, h2⟩ := hh.1; exact ⟨v, h1, fun e => h2 ⟨by rw [e], by rw [e]⟩⟩, hh.2⟩)
end Go.Proofs.Ytheldpdckgoniaa
