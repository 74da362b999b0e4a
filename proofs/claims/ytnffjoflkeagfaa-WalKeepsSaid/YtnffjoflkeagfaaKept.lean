/- The files, one by one; a crash. -/
import Derived.Test.YtnffjoflkeagfaaNames
namespace Go.Proofs.Ytnffjoflkeagfaa
open Go.RowKit Go.Maps

theorem newsL (w : World) (T : TypeId) (xs : List Value) : ∀ j u, xs[j]? = some u → (w.alloc (.cells xs.toArray T)).cell? ((⟨w.heap.size, 0, none⟩ : Addr).add j) = some u := by
  intro j u hu
  rw [add_zero_off, World.cell?_alloc_new, List.getElem?_toArray]; exact hu
theorem newsAt (w : World) (T : TypeId) (xs : List Value) (n : Nat) (hn : n = w.heap.size) : ∀ j u, xs[j]? = some u → (w.alloc (.cells xs.toArray T)).cell? ((⟨n, 0, none⟩ : Addr).add j) = some u := by
  subst hn; exact newsL w T xs
theorem take_snocA {α : Type} (l : List α) (k : Nat) (x : α) (h : l[k]? = some x) : l.take (k + 1) = l.take k ++ [x] := by
  obtain ⟨hk, rfl⟩ := List.getElem?_eq_some_iff.1 h
  rw [List.take_succ_eq_append_getElem hk]
theorem ones3 (a b : ByteArray) (z : Int) : ∀ u ∈ [Value.string a, .string b, .int .i64 z], u.oneCell' = true := by
  intro u hu; simp at hu; rcases hu with rfl | rfl | rfl <;> rfl
/-- a file, told: three cells -/
def keptC (p : List UInt8 × F) : List Value := [.string (mk p.1), .string (mk p.2.b), .int .i64 (p.2.s : Int)]
def keptL (fs : Fs) : List Value := fs.flatMap keptC
theorem row_cell {w : World} {B : Nat} {e : TypeId} {size : Nat} {v : Value} {n : Nat} {xs : List Value} (h : w.ownsRow B e size v n xs) {j : Nat} {u : Value} (hu : xs[j]? = some u) :
    ∃ g cap, v = .slice (some ⟨g, 0, none⟩) n cap ∧ n ≤ cap ∧ g < w.heap.size ∧ B ≤ g ∧ w.cell? ⟨g, j, none⟩ = some u := by
  have hc := fun g hg => h.cells (g := g) hg
  have hlt := h.lt
  rcases h.2 with ⟨rfl, rfl⟩ | ⟨g, cap, cur, rfl, hB, hg, hcap, _⟩
  · have h1 := h.1
    simp at h1; subst h1; simp at hu
  · refine ⟨g, cap, rfl, hcap, (hlt g rfl).2, hB, ?_⟩
    have := hc g rfl j u hu
    rw [add_zero_off] at this; exact this
theorem row_slice {w : World} {B : Nat} {e : TypeId} {size : Nat} {v : Value} {n : Nat} {xs : List Value} (h : w.ownsRow B e size v n xs) : ∃ a cap, v = .slice a n cap := by
  rcases h.2 with ⟨rfl, rfl⟩ | ⟨g, cap, cur, rfl, _⟩
  · exact ⟨_, _, rfl⟩
  · exact ⟨_, _, rfl⟩
set_option maxRecDepth 100000 in
set_option maxHeartbeats 4000000 in
theorem Kept_any {S : Nat → Prop} {w : World} {db : Nat} {s : St} (h : DiskAt S w db s) (hc : s.fs.length ≤ 1099511627776) :
    Calls Try.prog 14 #[ptrV db] w fun e w' => ∃ v, e = .returned v ∧ w'.ownsRow w.heap.size 46 3 v s.fs.length (keptL s.fs) ∧ Below w.heap.size w w' := by
  have hn := Names_any h hc
  have H := Lib.hid h
  clear h
  obtain ⟨i0, hi, hz0, hz1, hz2⟩ := info_parts (show (Try.prog.info? 46).map (fun i => (i.zero, i.size, i.bytes)) = some (some (.agg #[.string ⟨#[]⟩, .string ⟨#[]⟩, .int .i64 0]), 3, 40) by kernel_rfl)
  go_enter Try.func14, Try.ntmps14
  go_wp2_with fail
  refine hn.mono ?_
  rintro e w1 ⟨v1, rfl, hrow, hb1⟩
  obtain ⟨va, vc, rfl⟩ := row_slice hrow
  have HR := Lib.hid hrow
  have HB1 := Lib.hid hb1
  clear hrow hb1 hn
  go_wp2
  go_loopw [3, 10] (fun l i wr => ∃ k : Nat, k ≤ s.fs.length ∧ i = .int .i64 k ∧ wr.ownsRow w1.heap.size 46 3 l k (keptL (s.fs.take k)) ∧ Below w1.heap.size w1 wr) (fun l i _ => s.fs.length - (intOf i).toNat)
  case atStart => exact ⟨0, by omega, rfl, World.ownsRow_nil _ _ _ _, Below.refl _ _⟩
  case round =>
    obtain ⟨k, hk, rfl, hx, hbw⟩ := hrel
    obtain ⟨la, lc, rfl⟩ := row_slice hx
    have HX := Lib.hid hx
    have HW := Lib.hid hbw
    clear hx hbw
    by_cases hlt : k < s.fs.length
    · have hlti : (k : Int) < (s.fs.length : Int) := by omega
      obtain ⟨p, hp⟩ : ∃ p, s.fs[k]? = some p := ⟨s.fs[k], List.getElem?_eq_getElem hlt⟩
      obtain ⟨g, cap, e1, hcap, hg, hgB, hcell⟩ := row_cell HR.out (j := k) (u := .string (mk p.1)) (by rw [List.getElem?_map, hp]; rfl)
      cases e1
      have n1 : wr.cell? ⟨g, k, none⟩ = some (.string (mk p.1)) := (HW.out.cell (p := ⟨g, k, none⟩) hg).trans hcell
      have hbw : Below w.heap.size w wr := HB1.out.trans (HW.out.mono HB1.out.size)
      have hdr := H.out.below hbw
      obtain ⟨own, mv, wv, mo, hd⟩ := hdr
      have hmem : p ∈ s.fs := List.mem_of_getElem? hp
      have hkey : p.1.length ≤ 9223372036854775807 := hd.fit.keys p hmem
      have hlook : look s.fs p.1 = some p.2 := mem_look hd.fit.sorted hmem
      obtain ⟨fv, hbf, hl⟩ := hd.map.look (mk p.1) (by rw [mk_size]; exact hkey)
      rw [bs_mk, getF_look hlook] at hbf hl
      obtain ⟨fa, fc, rfl⟩ := hbf.slice
      have c0 := hd.c0
      have hl0 := (hl wr (fun g _ => rfl)).1
      have hB : Below wr.heap.size wr (wr.alloc (.cells #[.slice fa p.2.b.length fc, .int .i64 (p.2.s : Int), .bool p.2.u] 71)) := (Below.refl _ _).alloc (Nat.le_refl _) _
      have hcv := (hbf.kept (own' := own) hB.size (fun g hg hlg => ⟨hB.block g hlg, hg⟩)).text (P := Try.prog) 69 9 5 Try.underlying69 Try.underlying5 Try.underlying9
      have HP := Lib.hid hp
      clear hd hmem hlook hl hbf hB hbw hp
      have hsz1 := HW.out.size
      go_wp2_with (at_builtin; go_loud (refine wpList_append_own _ rfl _ _ 34 rfl w1.heap.size 46 i0 (.agg #[.string ⟨#[]⟩, .string ⟨#[]⟩, .int .i64 0]) 3 40 Try.underlying34 hi hz0 hz1 hz2 rfl (by decide) _ _ _ rfl ((HX.out.alloc _).alloc _) ⟨_, 0, none⟩ 1 1 [.string (mk p.1), .string (mk p.2.b), .int .i64 (p.2.s : Int)] rfl rfl (newsAt _ _ [.string (mk p.1), .string (mk p.2.b), .int .i64 (p.2.s : Int)] _ (by simp)) (ones3 _ _ _) (by unfold maxLen; omega) (by omega) (by simp; omega) ?_))
      intro v' w9 hown' hgrow hne
      have HO9 := Lib.hid hown'
      have HB9 : Hid (Below w1.heap.size w1 w9) := ((HW.out.alloc HW.out.size _).alloc (by simp; omega) _).grown hgrow (by simp; omega) (fun j hj => (HX.out.lt j hj).1)
      clear hown' hgrow hne
      go_wp2
      go_roundw
      case rel =>
        refine ⟨k + 1, by omega, by go_num, ?_, HB9.out⟩
        have e : keptL (s.fs.take (k + 1)) = keptL (s.fs.take k) ++ [.string (mk p.1), .string (mk p.2.b), .int .i64 (p.2.s : Int)] := by
          rw [take_snocA _ _ _ HP.out]; simp [keptL, keptC]
        rw [e]; exact HO9.out
      case measure => simp [intOf]; omega
    · have hke : k = s.fs.length := by omega
      have HX2 : Hid (wr.ownsRow w.heap.size 46 3 (.slice la k lc) s.fs.length (keptL s.fs)) := by
        have := ownsRow_base_a (base' := w.heap.size) HX.out HB1.out.size
        rw [hke, List.take_of_length_le (Nat.le_refl _)] at this
        rw [hke]; exact this
      clear hke
      go_wp2
      go_ret
      exact ⟨_, rfl, HX2.out, HB1.out.trans (HW.out.mono HB1.out.size)⟩
end Go.Proofs.Ytnffjoflkeagfaa
