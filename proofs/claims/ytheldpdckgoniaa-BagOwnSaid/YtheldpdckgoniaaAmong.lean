/- among. -/
import Derived.Test.YtheldpdckgoniaaActs
namespace Go.Proofs.Ytheldpdckgoniaa
open Go.RowKit

/-- one of some messages -/
def InX (xs : List X) (m : Msg) : Prop := m ∈ xs.map (·.1)
set_option maxRecDepth 100000 in
set_option maxHeartbeats 4000000 in
theorem among_any {B B' : Nat → Prop} {w : World} {v : Value} {xs : List X} {m : Msg} {lv ev : Value} (h : MsgsIn B w v xs) (hm : LI B' w m lv ev) (sx : ∀ x ∈ xs, Sm x.1) (sm : Sm m) (hl : xs.length ≤ 1048576) :
    Calls Try.prog 23 #[v, m.agg lv ev] w fun e w' => SameQ (InX xs m) e ∧ Below w.heap.size w w' := by
  obtain ⟨a, c, rfl, _⟩ := h.1.slice
  obtain ⟨la, lc, rfl, _⟩ := hm.1.slice
  obtain ⟨ea, ec, rfl, _⟩ := hm.2.slice
  have HI : Hid ((Try.prog.info? 38).map (·.size) = some 11) := infoMsg
  obtain ⟨w1, hw1⟩ : ∃ w1, w1 = w.alloc (.cells (m.arr (.slice la m.l.length lc) (.slice ea m.es.length ec)) 38) := ⟨_, rfl⟩
  have hb1 : Below w.heap.size w w1 := by rw [hw1]; exact (Below.refl _ _).alloc (Nat.le_refl _) _
  have hx1 : w1.heap[w.heap.size]? = some (msgO m (.slice la m.l.length lc) (.slice ea m.es.length ec)) := by rw [hw1]; exact heap_alloc_new w _
  have H := Lib.hid (h.below hb1)
  have HM := Lib.hid (hm.below hb1)
  have HB := Lib.hid hb1
  have HX := Lib.hid hx1
  have HSX := Lib.hid sx
  have HSM := Lib.hid sm
  clear h hm hb1 hx1 sx sm
  have HW := Lib.hid hw1
  clear hw1
  go_enter Try.func23, Try.ntmps23
  go_wp2_with fail
  rw [← HW.out]
  go_loopw [5] (fun i wr => ∃ k : Nat, k ≤ xs.length ∧ i = .int .i64 k ∧ Hid (InX xs m → InX (xs.drop k) m) ∧ Hid (Below w1.heap.size w1 wr)) (fun i _ => xs.length - (intOf i).toNat)
  case atStart => exact ⟨0, by omega, rfl, (fun h => h), Below.refl _ _⟩
  case round =>
    obtain ⟨k, hk, rfl, HD, BR⟩ := hrel
    by_cases h1 : k < xs.length
    · have h1i : (k : Int) < (xs.length : Int) := by omega
      obtain ⟨x, hx⟩ : ∃ x, xs[k]? = some x := ⟨xs[k], List.getElem?_eq_getElem h1⟩
      have hmr := H.out.below BR.out
      obtain ⟨g, off, rfl, -, hcap, -, hgl, x0, x1, x2, x3, x4, x5, x6, x7, x8, x9, x10⟩ := hmr.get hx
      have hxl := hmr.2 x (List.mem_of_getElem? hx)
      have hsm := HSX.out x (List.mem_of_getElem? hx)
      obtain ⟨y0, y1, y2, y3, y4, y5, y6, y7, y8, y9, y10, -⟩ := box_cells (box_below HX.out BR.out)
      obtain ⟨p, lw, ew⟩ := x
      obtain ⟨⟨la', lc', e8⟩, ea', ec', e9⟩ := hxl.slv
      simp only at e8 e9 x0 x1 x2 x3 x4 x5 x6 x7 x8 x9 x10 hxl hsm
      subst e8 e9
      have HS := Lib.hid (sameM_any (hxl.keep (w' := wr.drew) (Nat.le_refl _) (fun _ _ _ => rfl)) ((HM.out.below BR.out).keep (w' := wr.drew) (Nat.le_refl _) (fun _ _ _ => rfl)) hsm HSM.out)
      have hdr : xs.drop k = (p, Value.slice la' p.l.length lc', Value.slice ea' p.es.length ec') :: xs.drop (k + 1) := by
        obtain ⟨hlt, e⟩ := List.getElem?_eq_some_iff.1 hx
        rw [List.drop_eq_getElem_cons hlt, e]
      have HDR := Lib.hid hdr
      clear hmr hxl hsm hx hdr
      go_wp2_with fail
      go_region_law (go_simp; go_at_call 14; refine HS.out.mono ?_; rintro e w5 ⟨⟨v, rfl, hv⟩, hb5⟩; have HV := Lib.hid hv; have HB5 : Hid (Below wr.heap.size wr w5) := ⟨hb5.os, hb5.tape, hb5.output, hb5.size, hb5.block⟩; clear hv hb5)
      all_goals
        cases v with
        | true =>
          go_wp2
          go_ret
          exact ⟨sameQ true rfl (fun _ => rfl), HB.out.trans ((BR.out.trans (HB5.out.mono BR.out.size)).mono HB.out.size)⟩
        | false =>
          go_wp2
          go_roundw
          case rel =>
            refine ⟨k + 1, by omega, by go_num, fun h => ?_, BR.out.trans (HB5.out.mono BR.out.size)⟩
            have h2 := HD.out h
            unfold InX at h2
            rw [HDR.out, List.map_cons, List.mem_cons] at h2
            exact h2.elim (fun e => by have := HV.out e.symm; cases this) id
          case measure => simp [intOf]; omega
    · have h1i : ¬ (k : Int) < (xs.length : Int) := by omega
      have hke : Hid (xs.drop k = []) := by show _ = _; exact List.drop_of_length_le (by omega)
      go_wp2
      go_ret
      exact ⟨sameQ false rfl (fun h => by have := HD.out h; rw [hke.out] at this; simp [InX] at this), HB.out.trans (BR.out.mono HB.out.size)⟩
end Go.Proofs.Ytheldpdckgoniaa
