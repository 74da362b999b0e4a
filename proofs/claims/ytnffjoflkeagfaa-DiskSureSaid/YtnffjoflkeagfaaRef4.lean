/- The document's disk: its names, its files. -/
import Derived.Test.YtnffjoflkeagfaaRef3
namespace Go.Proofs.Ytnffjoflkeagfaa
open Go.RowKit Go.Maps

theorem ones1 (a : ByteArray) : ∀ u ∈ [Value.string a], u.oneCell' = true := by
  intro u hu; simp at hu; subst hu; rfl
def nameL (fs : Fs) : List Value := fs.map (fun p => Value.string (mk p.1))
set_option maxRecDepth 100000 in
set_option maxHeartbeats 4000000 in
theorem refNames_any {S : Nat → Prop} {w : World} {rb : Nat} {s : St} (h : RefAt S w rb s) (hc : s.fs.length ≤ 1099511627776) :
    Calls Try.prog 21 #[ptrV rb] w fun e w' => ∃ v, e = .returned v ∧ w'.ownsRow w.heap.size 9 1 v s.fs.length (nameL s.fs) ∧ Below w.heap.size w w' := by
  have H := Lib.hid h
  obtain ⟨fv, wv, left, h⟩ := h
  obtain ⟨a, c, rfl⟩ := h.row.slice
  have c1 := h.c1
  have hR := Lib.hid h.row
  have hlt0 := h.lt
  clear h
  obtain ⟨i0, hi, hz0, hz1, hz2⟩ := info_parts (show (Try.prog.info? 9).map (fun i => (i.zero, i.size, i.bytes)) = some (some (.string ⟨#[]⟩), 1, 16) by kernel_rfl)
  go_enter Try.func21, Try.ntmps21
  go_wp2
  go_loopw [3, 4] (fun l i wr => ∃ k : Nat, k ≤ s.fs.length ∧ i = .int .i64 k ∧ wr.ownsRow w.heap.size 9 1 l k (nameL (s.fs.take k)) ∧ Below w.heap.size w wr) (fun l i _ => s.fs.length - (intOf i).toNat)
  case atStart => exact ⟨0, by omega, rfl, World.ownsRow_nil _ _ _ _, Below.refl _ _⟩
  case round =>
    obtain ⟨k, hk, rfl, hx, hbw⟩ := hrel
    obtain ⟨la, lc, rfl⟩ := row_slice hx
    have HX := Lib.hid hx
    have HW := Lib.hid hbw
    have c1' : wr.cell? ⟨rb, 1, none⟩ = _ := (hbw.cell (p := ⟨rb, 1, none⟩) hlt0).trans c1
    clear hx hbw
    by_cases hlt : k < s.fs.length
    · have hlti : (k : Int) < (s.fs.length : Int) := by omega
      obtain ⟨p, hp⟩ : ∃ p, s.fs[k]? = some p := ⟨s.fs[k], List.getElem?_eq_getElem hlt⟩
      obtain ⟨g, rfl, _, hcap, _, hgl, x0, _⟩ := ref_row hR.out hp
      have x0' : wr.cell? ⟨g, k * 4, none⟩ = _ := (HW.out.cell (p := ⟨g, k * 4, none⟩) hgl).trans x0
      have HP := Lib.hid hp
      have hsz1 := HW.out.size
      clear hp
      go_wp2_with (at_builtin; go_loud (refine wpList_append_own _ rfl _ _ 41 rfl w.heap.size 9 i0 (.string ⟨#[]⟩) 1 16 Try.underlying41 hi hz0 hz1 hz2 rfl (by decide) _ _ _ rfl (HX.out.alloc _) ⟨_, 0, none⟩ 1 1 [.string (mk p.1)] rfl rfl (newsAt _ _ [.string (mk p.1)] _ (by simp)) (ones1 _) (by unfold maxLen; omega) (by omega) (by simp; omega) ?_))
      intro v' w9 hown' hgrow hne
      have HO9 := Lib.hid hown'
      have HB9 : Hid (Below w.heap.size w w9) := (HW.out.alloc HW.out.size _).grown hgrow (by simp; omega) (fun j hj => (HX.out.lt j hj).1)
      clear hown' hgrow hne
      go_wp2
      go_roundw
      case rel =>
        refine ⟨k + 1, by omega, by go_num, ?_, HB9.out⟩
        have e : nameL (s.fs.take (k + 1)) = nameL (s.fs.take k) ++ [.string (mk p.1)] := by
          rw [take_snocA _ _ _ HP.out]; simp [nameL]
        rw [e]; exact HO9.out
      case measure => simp [intOf]; omega
    · have hke : k = s.fs.length := by omega
      have HX2 : Hid (wr.ownsRow w.heap.size 9 1 (.slice la k lc) s.fs.length (nameL s.fs)) := by
        have := HX.out
        rw [hke, List.take_of_length_le (Nat.le_refl _)] at this
        rw [hke]; exact this
      clear hke
      go_wp2
      go_ret
      exact ⟨_, rfl, HX2.out, HW.out⟩
set_option maxRecDepth 100000 in
set_option maxHeartbeats 4000000 in
theorem refKept_any {S : Nat → Prop} {w : World} {rb : Nat} {s : St} (h : RefAt S w rb s) (hc : s.fs.length ≤ 1099511627776) :
    Calls Try.prog 15 #[ptrV rb] w fun e w' => ∃ v, e = .returned v ∧ w'.ownsRow w.heap.size 46 3 v s.fs.length (keptL s.fs) ∧ Below w.heap.size w w' := by
  obtain ⟨fv, wv, left, h⟩ := h
  obtain ⟨a, c, rfl⟩ := h.row.slice
  have c1 := h.c1
  have hR := Lib.hid h.row
  have hlt0 := h.lt
  clear h
  obtain ⟨i0, hi, hz0, hz1, hz2⟩ := info_parts (show (Try.prog.info? 46).map (fun i => (i.zero, i.size, i.bytes)) = some (some (.agg #[.string ⟨#[]⟩, .string ⟨#[]⟩, .int .i64 0]), 3, 40) by kernel_rfl)
  go_enter Try.func15, Try.ntmps15
  go_wp2
  go_loopw [3, 4] (fun l i wr => ∃ k : Nat, k ≤ s.fs.length ∧ i = .int .i64 k ∧ wr.ownsRow w.heap.size 46 3 l k (keptL (s.fs.take k)) ∧ Below w.heap.size w wr) (fun l i _ => s.fs.length - (intOf i).toNat)
  case atStart => exact ⟨0, by omega, rfl, World.ownsRow_nil _ _ _ _, Below.refl _ _⟩
  case round =>
    obtain ⟨k, hk, rfl, hx, hbw⟩ := hrel
    obtain ⟨la, lc, rfl⟩ := row_slice hx
    have HX := Lib.hid hx
    have HW := Lib.hid hbw
    have c1' : wr.cell? ⟨rb, 1, none⟩ = _ := (hbw.cell (p := ⟨rb, 1, none⟩) hlt0).trans c1
    clear hx hbw
    by_cases hlt : k < s.fs.length
    · have hlti : (k : Int) < (s.fs.length : Int) := by omega
      obtain ⟨p, hp⟩ : ∃ p, s.fs[k]? = some p := ⟨s.fs[k], List.getElem?_eq_getElem hlt⟩
      obtain ⟨g, rfl, _, hcap, _, hgl, x0, x1, x2, x3, _⟩ := ref_row hR.out hp
      have y0 : wr.cell? ⟨g, k * 4, none⟩ = _ := (HW.out.cell (p := ⟨g, k * 4, none⟩) hgl).trans x0
      have y1 : wr.cell? ⟨g, k * 4 + 1, none⟩ = _ := (HW.out.cell (p := ⟨g, k * 4 + 1, none⟩) hgl).trans x1
      have y2 : wr.cell? ⟨g, k * 4 + 2, none⟩ = _ := (HW.out.cell (p := ⟨g, k * 4 + 2, none⟩) hgl).trans x2
      have y3 : wr.cell? ⟨g, k * 4 + 3, none⟩ = _ := (HW.out.cell (p := ⟨g, k * 4 + 3, none⟩) hgl).trans x3
      have HP := Lib.hid hp
      have hsz1 := HW.out.size
      clear hp x0 x1 x2 x3
      go_wp2_with (at_builtin; go_loud (refine wpList_append_own _ rfl _ _ 34 rfl w.heap.size 46 i0 (.agg #[.string ⟨#[]⟩, .string ⟨#[]⟩, .int .i64 0]) 3 40 Try.underlying34 hi hz0 hz1 hz2 rfl (by decide) _ _ _ rfl ((HX.out.alloc _).alloc _) ⟨_, 0, none⟩ 1 1 [.string (mk p.1), .string (mk p.2.b), .int .i64 (p.2.s : Int)] rfl rfl (newsAt _ _ [.string (mk p.1), .string (mk p.2.b), .int .i64 (p.2.s : Int)] _ (by simp)) (ones3 _ _ _) (by unfold maxLen; omega) (by omega) (by simp; omega) ?_))
      intro v' w9 hown' hgrow hne
      have HO9 := Lib.hid hown'
      have HB9 : Hid (Below w.heap.size w w9) := ((HW.out.alloc HW.out.size _).alloc (by simp; omega) _).grown hgrow (by simp; omega) (fun j hj => (HX.out.lt j hj).1)
      clear hown' hgrow hne
      go_wp2
      go_roundw
      case rel =>
        refine ⟨k + 1, by omega, by go_num, ?_, HB9.out⟩
        have e : keptL (s.fs.take (k + 1)) = keptL (s.fs.take k) ++ [.string (mk p.1), .string (mk p.2.b), .int .i64 (p.2.s : Int)] := by
          rw [take_snocA _ _ _ HP.out]; simp [keptL, keptC]
        rw [e]; exact HO9.out
      case measure => simp [intOf]; omega
    · have hke : k = s.fs.length := by omega
      have HX2 : Hid (wr.ownsRow w.heap.size 46 3 (.slice la k lc) s.fs.length (keptL s.fs)) := by
        have := HX.out
        rw [hke, List.take_of_length_le (Nat.le_refl _)] at this
        rw [hke]; exact this
      clear hke
      go_wp2
      go_ret
      exact ⟨_, rfl, HX2.out, HW.out⟩
end Go.Proofs.Ytnffjoflkeagfaa
