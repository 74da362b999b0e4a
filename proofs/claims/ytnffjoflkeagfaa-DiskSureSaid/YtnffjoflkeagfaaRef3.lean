/- The document's disk: Read, Break, Wipe, the power within a change. -/
import Derived.Test.YtnffjoflkeagfaaRef2
namespace Go.Proofs.Ytnffjoflkeagfaa
open Go.RowKit Go.Maps

section
variable {S S' : Nat → Prop} {w w' : World} {rb : Nat} {s : St} {fv : Value} {wv : Bool} {left : Int}
theorem RefO.apart (h : RefO S w rb s fv wv left) {g : Nat} {cur : Array Value} (hg : w.heap[g]? = some (.cells cur 73 (0, 0))) : g ≠ rb := by
  intro e
  subst e
  have := h.block.symm.trans hg
  injection this with e1
  injection e1 with _ e2 _
  exact absurd e2 (by decide)
/-- the disk's own block anew -/
theorem RefO.reblock {s' : St} {wv' : Bool} {left' : Int} (h : RefO S w rb s fv wv left) (hs : w'.heap.size = w.heap.size) (hb : ∀ k, k ≠ rb → w'.heap[k]? = w.heap[k]?) (hblk : w'.heap[rb]? = some (refO fv s' wv' left')) (hfs : s'.fs = s.fs)
    (hbrk : s'.down = false → wv' = s'.waits ∧ (s'.waits = true → left' = (s'.more : Int))) (hfit : Fit s') : RefO S w' rb s' fv wv' left' := by
  refine ⟨h.mine, hblk, hbrk, ?_, hfit⟩
  rw [hfs]
  rcases h.row with r | ⟨g, cap, cur, e, h1, h2, h3, r⟩
  · exact .inl r
  · exact .inr ⟨g, cap, cur, e, h1, by omega, (hb g (h.apart h3)).trans h3, r⟩
end
set_option maxRecDepth 100000 in
set_option maxHeartbeats 2000000 in
theorem refRead_any {S : Nat → Prop} {w : World} {rb : Nat} {s : St} (h : RefAt S w rb s) (hc : s.fs.length ≤ 1099511627776) (name : ByteArray) :
    Calls Try.prog 41 #[ptrV rb, .string name] w fun e w' => e = .returned (.tuple #[.string (mk (readS s (bs name)).1), .int .i64 (readS s (bs name)).2]) ∧ w = w' := by
  have hm := refMust_any h hc name
  obtain ⟨fv, wv, left, h⟩ := h
  obtain ⟨a, c, rfl⟩ := h.row.slice
  have c1 := h.c1
  have hR := Lib.hid h.row
  by_cases hd : s.down = true
  · have HR : Hid (readS s (bs name) = ([], 41)) := by show _ = _; unfold readS; rw [if_pos hd]
    have HE : mustE s (bs name) = 41 := by unfold mustE; rw [if_pos hd]
    rw [HE] at hm
    clear h hd HE
    generalize readS s (bs name) = R at *
    go_enter Try.func41, Try.ntmps41
    go_wp2_with fail
    refine hm.mono ?_
    rintro e w1 ⟨rfl, rfl⟩
    go_wp2
    go_ret2
    exact ⟨ret2s (by rw [HR.out]) (by rw [HR.out]), rfl⟩
  · by_cases hp : placeI s.fs (bs name) 0 = -1
    · have HR : Hid (readS s (bs name) = ([], 42)) := by show _ = _; unfold readS; rw [if_neg hd, if_neg (by rw [place_look hp]; simp)]
      have HE : mustE s (bs name) = 42 := by unfold mustE needE; rw [if_neg hd, if_neg (by rw [place_look hp]; simp)]
      rw [HE] at hm
      clear h hd HE
      generalize readS s (bs name) = R at *
      go_enter Try.func41, Try.ntmps41
      go_wp2_with fail
      refine hm.mono ?_
      rintro e w1 ⟨rfl, rfl⟩
      go_wp2
      go_ret2
      exact ⟨ret2s (by rw [HR.out]) (by rw [HR.out]), rfl⟩
    · obtain ⟨j, f, e1, e2, e3⟩ := place_get hp
      have HR : Hid (readS s (bs name) = (f.b, 0)) := by show _ = _; unfold readS; rw [if_neg hd, if_pos (by rw [e3]; rfl), getF_look e3]
      have HE : mustE s (bs name) = 0 := by unfold mustE needE; rw [if_neg hd, if_pos (by rw [e3]; rfl)]
      rw [Nat.zero_add] at e1
      rw [HE, e1] at hm
      obtain ⟨g, rfl, _, hcap, _, _, x0, x1, _⟩ := ref_row hR.out e2
      have hlt := (List.getElem?_eq_some_iff.1 e2).1
      have hlti : (j : Int) < (s.fs.length : Int) := by omega
      clear h hd HE hp e1 e2 e3
      generalize readS s (bs name) = R at *
      go_enter Try.func41, Try.ntmps41
      go_wp2_with fail
      refine hm.mono ?_
      rintro e w1 ⟨rfl, rfl⟩
      go_wp2
      go_ret2
      exact ⟨ret2s (by rw [HR.out]) (by rw [HR.out]), rfl⟩
set_option maxHeartbeats 1000000 in
theorem refBreak_any {S : Nat → Prop} {w : World} {rb : Nat} {s : St} (h : RefAt S w rb s) (n : Int) (hn : n ≤ 9223372036854775807) :
    Calls Try.prog 42 #[ptrV rb, .int .i64 n] w fun e w' => e = .returned (.tuple #[]) ∧ RefAt S w' rb (breakS s n) ∧ Kept S w w' := by
  obtain ⟨fv, wv, left, h⟩ := h
  have c2 := h.c2
  have c3 := h.c3
  have c4 := h.c4
  have f3 := h.f 3
  have f4 := h.f 4
  have H := Lib.hid h
  clear h
  cases hd : s.down with
  | true =>
    have HB : Hid (breakS s n = s) := by show _ = _; unfold breakS; rw [if_pos hd]
    rw [hd] at c2
    clear hd
    generalize breakS s n = T at *
    go_enter Try.func42, Try.ntmps42
    go_wp2
    go_end0
    rw [HB.out]
    exact ⟨rfl, ⟨_, _, _, H.out⟩, Kept.refl _ _⟩
  | false =>
    have HB : Hid (breakS s n = { s with waits := true, more := n.toNat }) := by show _ = _; unfold breakS; rw [if_neg (by rw [hd]; simp)]
    rw [hd] at c2
    have HD := Lib.hid hd
    clear hd
    generalize breakS s n = T at *
    go_enter Try.func42, Try.ntmps42
    go_wp2
    go_end0
    rw [HB.out]
    refine ⟨rfl, ⟨fv, true, max n 0, H.out.reblock (by simp [World.setCell]) (fun k hk => ?_) ?_ rfl (fun _ => ⟨rfl, fun _ => by simp only; omega⟩) (fit_same H.out.fit _ _ _ (by omega))⟩, ((Kept.refl S w).set (.inl H.out.mine) _).set (.inl H.out.mine) _⟩
    · rw [Below.heap_setCell _ _ _ _ hk, Below.heap_setCell _ _ _ _ hk]
    · have hb := H.out.block
      simp [World.setCell, Array.getElem?_modify, hb, refO]
set_option maxHeartbeats 1000000 in
theorem refWipe_any {S : Nat → Prop} {w : World} {rb : Nat} {s : St} (h : RefAt S w rb s) :
    Calls Try.prog 45 #[ptrV rb] w fun e w' => e = .returned (.tuple #[]) ∧ RefAt S w' rb (wipeS s) ∧ Kept S w w' := by
  obtain ⟨fv, wv, left, h⟩ := h
  have c1 := h.c1
  have f1 := h.f 1
  have H := Lib.hid h
  clear h
  go_enter Try.func45, Try.ntmps45
  go_wp2
  go_end0
  refine ⟨rfl, ⟨.slice none 0 0, wv, left, H.out.mine, ?_, H.out.brk, .inl ⟨rfl, rfl⟩, ⟨by simp [wipeS, Sorted], by simp [wipeS, usedF], H.out.fit.roomI, H.out.fit.moreI, by simp [wipeS], by simp [wipeS]⟩⟩, (Kept.refl S w).set (.inl H.out.mine) _⟩
  have hb := H.out.block
  simp [World.setCell, Array.getElem?_modify, hb, refO, wipeS]
set_option maxHeartbeats 1000000 in
theorem refBreaks_any {S : Nat → Prop} {w : World} {rb : Nat} {s : St} {fv : Value} {wv : Bool} {left : Int} (h : RefO S w rb s fv wv left) (hd : s.down = false) :
    Calls Try.prog 65 #[ptrV rb] w fun e w' => e = .returned (.bool (brkB s)) ∧ (∃ wv' left', RefO S w' rb (brkS s) fv wv' left') ∧ w.grownBy w' (some rb) := by
  have c2 := h.c2
  rw [hd] at c2
  have c3 := h.c3
  have c4 := h.c4
  have f2 := h.f 2
  have f3 := h.f 3
  have f4 := h.f 4
  obtain ⟨e1, e2⟩ := h.brk hd
  have H := Lib.hid h
  clear h
  by_cases hw : s.waits = true
  · rw [hw] at e1
    subst e1
    have e3 := e2 hw
    subst e3
    clear e2
    by_cases hm : s.more = 0
    · have HB : Hid (brkB s = true) := by show _ = _; unfold brkB; rw [hw, hm]; rfl
      have HS : Hid (brkS s = { s with down := true, waits := false }) := by show _ = _; unfold brkS; rw [if_pos hw, if_pos hm]
      have hm0 : decide ((0 : Int) < (s.more : Int)) = false := by simp [hm]
      clear hd
      generalize brkB s = B at *
      generalize brkS s = T at *
      go_enter Try.func65, Try.ntmps65
      go_wp2
      go_ret
      refine ⟨ret_bool HB.out.symm, ?_, but_set (but_set (but_refl _ _) _ _) _ _⟩
      rw [HS.out]
      refine ⟨false, (s.more : Int), H.out.reblock (by simp [World.setCell]) (fun k hk => ?_) ?_ rfl (fun h => by cases h) (fit_same H.out.fit _ _ _ H.out.fit.moreI)⟩
      · rw [Below.heap_setCell _ _ _ _ hk, Below.heap_setCell _ _ _ _ hk]
      · have hb := H.out.block
        simp [World.setCell, Array.getElem?_modify, hb, refO]
    · have HB : Hid (brkB s = false) := by show _ = _; unfold brkB; rw [hw]; simpa using hm
      have HS : Hid (brkS s = { s with more := s.more - 1 }) := by show _ = _; unfold brkS; rw [if_pos hw, if_neg hm]
      have hm0 : (0 : Int) < (s.more : Int) := by omega
      have hmi := H.out.fit.moreI
      have hm1 : Hid (((s.more - 1 : Nat) : Int) = (s.more : Int) - 1) := by show _ = _; omega
      clear hd
      generalize brkB s = B at *
      generalize brkS s = T at *
      go_enter Try.func65, Try.ntmps65
      go_wp2
      go_ret
      refine ⟨ret_bool HB.out.symm, ?_, but_set (but_refl _ _) _ _⟩
      rw [HS.out]
      refine ⟨true, _, H.out.reblock (by simp [World.setCell]) (fun k hk => ?_) ?_ rfl (fun _ => ⟨hw.symm, fun _ => hm1.out.symm⟩) (fit_same H.out.fit _ _ _ (by omega))⟩
      · rw [Below.heap_setCell _ _ _ _ hk]
      · have hb := H.out.block
        simp [World.setCell, Array.getElem?_modify, hb, refO]
  · have hw' : s.waits = false := by simpa using hw
    rw [hw'] at e1
    subst e1
    clear e2
    have HB : Hid (brkB s = false) := by show _ = _; unfold brkB; rw [hw']; rfl
    have HS : Hid (brkS s = s) := by show _ = _; unfold brkS; rw [if_neg hw]
    clear hd hw hw'
    generalize brkB s = B at *
    generalize brkS s = T at *
    go_enter Try.func65, Try.ntmps65
    go_wp2
    go_ret
    refine ⟨ret_bool HB.out.symm, ?_, but_refl _ _⟩
    rw [HS.out]
    exact ⟨false, _, H.out⟩
end Go.Proofs.Ytnffjoflkeagfaa
