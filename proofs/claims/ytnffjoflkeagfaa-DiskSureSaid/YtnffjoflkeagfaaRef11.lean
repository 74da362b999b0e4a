/- The document's disk: Remove. -/
import Derived.Test.YtnffjoflkeagfaaRef10
namespace Go.Proofs.Ytnffjoflkeagfaa
open Go.RowKit Go.Maps

theorem del_split {fs : Fs} (hs : Sorted fs) {j : Nat} {k : List UInt8} {f : F} (h : fs[j]? = some (k, f)) : delF fs k = fs.take j ++ fs.drop (j + 1) := by
  obtain ⟨hj, e⟩ := List.getElem?_eq_some_iff.1 h
  have e1 : fs = fs.take j ++ (k, f) :: fs.drop (j + 1) := by
    rw [← e, List.getElem_cons_drop, List.take_append_drop]
  rw [e1] at hs
  have := del_mid hs
  rw [← e1] at this
  exact this
theorem remove_end {S : Nat → Prop} {w w2 w3 : World} {rb : Nat} {s : St} {fv v3 : Value} {wv : Bool} {left : Int} {j : Nat} {k : List UInt8} {f : F} (h : RefO S w2 rb (brkS s) fv wv left) (hS : ∀ k, w2.heap.size ≤ k → S k) (hso : Sorted s.fs)
    (hj : s.fs[j]? = some (k, f)) (k2 : Kept S w w2) (hb : Below w2.heap.size w2 w3)
    (ho : w3.ownsRow w2.heap.size 73 4 v3 (j + (s.fs.length - (j + 1))) (refL (s.fs.take j) ++ refL (s.fs.drop (j + 1)))) :
    RefAt S (w3.setCell ⟨rb, 1, none⟩ v3) rb { brkS s with fs := delF s.fs k } ∧ Kept S w (w3.setCell ⟨rb, 1, none⟩ v3) := by
  have hlj := (List.getElem?_eq_some_iff.1 hj).1
  have hpl := del_split hso hj
  have e : refL (s.fs.take j) ++ refL (s.fs.drop (j + 1)) = refL (delF s.fs k) := by rw [hpl]; simp [refL]
  rw [e] at ho
  have hr := row_ref (S := fun j => w2.heap.size ≤ j) ho (by rw [hpl]; simp; omega) (fun _ h => h)
  have hlt := h.lt
  have hfit : Fit { brkS s with fs := delF s.fs k } := fit_del h.fit (by rw [brkS_fs]) _ _ _ h.fit.moreI
  have hr2 := RowIn.keep (s := { s with fs := delF s.fs k }) (w' := w3.setCell ⟨rb, 1, none⟩ v3) (S' := S) hr (by simp [World.setCell]) (fun g hg _ => heap_setCell_other _ _ _ _ (by show g ≠ rb; omega)) (fun g _ hg => hS g hg)
  refine ⟨⟨v3, wv, left, h.mine, ?_, h.brk, hr2, hfit⟩, k2.trans ((Kept.of_below hb).set (.inl h.mine) _)⟩
  have hblk := (hb.block rb hlt).trans h.block
  simp [World.setCell, Array.getElem?_modify, hblk, refO]
set_option maxRecDepth 100000 in
set_option maxHeartbeats 4000000 in
theorem refRemove_any {S : Nat → Prop} {w : World} {rb : Nat} {s : St} (h : RefAt S w rb s) (hS : ∀ k, w.heap.size ≤ k → S k) (hc : s.fs.length ≤ 1099511627776) (name : ByteArray) :
    Calls Try.prog 40 #[ptrV rb, .string name] w fun e w' => e = .returned (.int .i64 (removeS s (bs name)).1) ∧ RefAt S w' rb (removeS s (bs name)).2 ∧ Kept S w w' := by
  have hm := refMust_any h hc name
  by_cases he : mustE s (bs name) = 0
  · obtain ⟨hd, hne, j, f, e1, e2, e3⟩ := must_zero he
    rw [he, e1] at hm
    obtain ⟨fv, wv, left, h⟩ := h
    have hb := refBreaks_any h hd
    have hmine := h.mine
    cases hbr : brkB s with
    | true =>
      have HS : Hid (removeS s (bs name) = (41, { brkS s with fs := s.fs })) := changeS_torn hd hne hbr _ _
      rw [hbr] at hb
      clear h he hne hd e1 e2 e3 hbr
      generalize removeS s (bs name) = R at *
      go_enter Try.func40, Try.ntmps40
      go_wp2_with fail
      refine hm.mono ?_
      rintro e w1 ⟨rfl, rfl⟩
      go_wp2_with fail
      refine hb.mono ?_
      rintro e w2 ⟨rfl, ⟨wv', left', h2⟩, hg⟩
      have H2 := Lib.hid h2
      have HG := Lib.hid hg
      clear h2 hg
      go_wp2
      go_ret
      rw [HS.out]
      have h3 : RefAt S w2 rb { brkS s with fs := s.fs } := by
        have e : ({ brkS s with fs := s.fs } : St) = brkS s := by rw [← brkS_fs s]
        rw [e]; exact ⟨_, _, _, H2.out⟩
      exact ⟨rfl, h3, Kept.of_but HG.out hmine⟩
    | false =>
      have HS : Hid (removeS s (bs name) = (0, { brkS s with fs := delF s.fs (bs name) })) := changeS_whole hd hne hbr _ _
      rw [hbr] at hb
      have HE2 := Lib.hid e2
      have hlt := (List.getElem?_eq_some_iff.1 e2).1
      have hlti : (j : Int) < (s.fs.length : Int) := by omega
      have HSRT := Lib.hid h.fit.sorted
      clear h he hne hd e1 e2 e3 hbr
      generalize removeS s (bs name) = R at *
      obtain ⟨i0, hi, hz0, hz1, hz2⟩ := info_parts (show (Try.prog.info? 73).map (fun i => (i.zero, i.size, i.bytes)) = some (some (.agg #[.string ⟨#[]⟩, .string ⟨#[]⟩, .int .i64 0, .bool false]), 4, 48) by kernel_rfl)
      go_enter Try.func40, Try.ntmps40
      go_wp2_with fail
      refine hm.mono ?_
      rintro e w1 ⟨rfl, rfl⟩
      go_wp2_with fail
      refine hb.mono ?_
      rintro e w2 ⟨rfl, ⟨wv', left', h2⟩, hg⟩
      have K2 : Hid (Kept S w w2) := Kept.of_but hg hmine
      have hS2 : ∀ k, w2.heap.size ≤ k → S k := fun k hk => hS k (Nat.le_trans hg.size hk)
      obtain ⟨a, c, rfl⟩ := h2.row.slice
      have c1 := h2.c1
      have f1 := h2.f 1
      have hlt0 := h2.lt
      have hrow := h2.row
      rw [brkS_fs] at hrow
      have H2 := Lib.hid h2
      rw [brkS_fs] at c1
      have HROW := Lib.hid hrow
      obtain ⟨V1, v1a, v1b, s1⟩ := ref_slice_to hrow j (by omega)
      have S1 := Lib.hid s1
      clear h2 hg hb hm hrow s1
      go_wp2_with (at_builtin; go_loud (refine wpList_append_src rfl _ _ 37 rfl w2.heap.size 73 i0 (.agg #[.string ⟨#[]⟩, .string ⟨#[]⟩, .int .i64 0, .bool false]) 4 48 Try.underlying37 hi hz0 hz1 hz2 rfl (by decide) _ 0 [] rfl (World.ownsRow_nil _ _ _ _) _ j (refL (s.fs.take j)) rfl S1.out (by rw [refL_len, List.length_take]; omega) (refL_one _) (by unfold maxLen; omega) (by omega) (Nat.le_refl _) ?_))
      intro v1 w3 ho1 hg1
      have B1 : Hid (Below w2.heap.size w2 w3) := (Below.refl _ _).grown hg1 (Nat.le_refl _) (fun j hj => by cases hj)
      have HO1 := Lib.hid ho1
      have hsz1 := B1.out.size
      have c1' : w3.cell? ⟨rb, 1, none⟩ = _ := (B1.out.cell (p := ⟨rb, 1, none⟩) hlt0).trans c1
      have hR2 := RowIn.keep (S' := S) HROW.out B1.out.size (fun g _ hl => B1.out.block g hl) (fun _ _ hg => hg)
      obtain ⟨V2, v2a, v2b, s2⟩ := ref_slice_from hR2 (j + 1) (by omega)
      have S2 := Lib.hid s2
      have hcast : ((j + 1 : Nat) : Int) = (j : Int) + 1 := by omega
      rw [hcast] at v2a v2b
      clear hcast
      clear ho1 hg1 v1a v1b hR2 s2
      go_wp2_with (at_builtin; go_loud (refine wpList_append_src rfl _ _ 37 rfl w2.heap.size 73 i0 (.agg #[.string ⟨#[]⟩, .string ⟨#[]⟩, .int .i64 0, .bool false]) 4 48 Try.underlying37 hi hz0 hz1 hz2 rfl (by decide) _ _ _ rfl HO1.out _ (s.fs.length - (j + 1)) (refL (s.fs.drop (j + 1))) rfl S2.out (by rw [refL_len, List.length_drop]) (refL_one _) (by unfold maxLen; omega) (by omega) hsz1 ?_))
      intro v3 w4 ho3 hg3
      obtain ⟨va3, vc3, rfl⟩ := row_slice ho3
      have B3 : Hid (Below w2.heap.size w2 w4) := B1.out.grown hg3 hsz1 (fun j hj => (HO1.out.lt j hj).1)
      have HO3 := Lib.hid ho3
      have f1' : w4.frozen? ⟨rb, 1, none⟩ = false := by rw [World.frozen?_of_block (a := ⟨rb, 1, none⟩) (B3.out.block rb hlt0)]; exact f1
      have cc1 : w4.cell? ⟨rb, 1, none⟩ = _ := (B3.out.cell (p := ⟨rb, 1, none⟩) hlt0).trans c1
      clear ho3 hg3
      go_wp2
      go_ret
      rw [HS.out]
      exact ⟨rfl, remove_end H2.out hS2 HSRT.out HE2.out K2.out B3.out (by have := HO3.out; simpa using this)⟩
  · have HS : Hid (removeS s (bs name) = (mustE s (bs name), s)) := must_err he _ _
    have hei : (mustE s (bs name) != 0) = true := by simpa using he
    have H := Lib.hid h
    clear h he
    generalize removeS s (bs name) = R at *
    generalize mustE s (bs name) = E at *
    go_enter Try.func40, Try.ntmps40
    go_wp2_with fail
    refine hm.mono ?_
    rintro e w1 ⟨rfl, rfl⟩
    go_wp2
    go_ret
    rw [HS.out]
    exact ⟨rfl, H.out, Kept.refl _ _⟩
end Go.Proofs.Ytnffjoflkeagfaa
