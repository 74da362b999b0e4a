/- Clocks: the code's (a map of counts) and the document's (a row of counts). -/
import Derived.Test.YtckbbakajabhmaaDrift
import Derived.Laws.MakeOwn
namespace Go.Proofs.Ytckbbakajabhmaa
open Go.RowKit Go.Maps

/-- what each clock shows -/
abbrev F := Int → Nat
def isC (N : Nat) (i : Int) : Bool := decide (0 ≤ i) && decide (i < N)
def nowF (N : Nat) (f : F) (i : Int) : Nat := if isC N i = true then f i else 0
def tickF (N : Nat) (f : F) (i : Int) : F := if isC N i = true then fun y => if y = i then f i + 1 else f y else f
def tickV (N : Nat) (f : F) (i : Int) : Nat := if isC N i = true then f i + 1 else 0
theorem isC_true {N : Nat} {i : Int} (h : isC N i = true) : 0 ≤ i ∧ i < N := by
  unfold isC at h; rw [Bool.and_eq_true] at h; exact ⟨of_decide_eq_true h.1, of_decide_eq_true h.2⟩
theorem isC_false {N : Nat} {i : Int} (h : ¬ isC N i = true) : i < 0 ∨ (N : Int) ≤ i := by
  unfold isC at h
  by_cases c : 0 ≤ i
  · rw [decide_eq_true c, Bool.true_and] at h
    have : ¬ i < N := fun hh => h (decide_eq_true hh)
    omega
  · omega
/-- clocks of the code: at most n ticks -/
def ClkAt (S : Nat → Prop) (w : World) (cb n N : Nat) (f : F) : Prop :=
  ∃ mb g, S cb ∧ S mb ∧ mb ≠ cb ∧ w.heap[cb]? = some (.cells #[.int .i64 (N : Int), .map (some mb)] 53 (0, 0)) ∧ IMap w mb n g ∧ (∀ x, untilG g x = (f x : Int)) ∧ ∀ x, f x ≤ n
def ClkQ (cb n N : Nat) (f : F) : (Nat → Prop) → World → Prop := fun S w => ClkAt S w cb n N f
theorem clkThing (cb n N : Nat) (f : F) : Thing (ClkQ cb n N f) := by
  refine ⟨fun {S S' w} h hS => ?_, fun {S w} h => ?_, fun {S S' w w'} h hk hS => ?_⟩
  · obtain ⟨mb, g, h1, h2, h3, h4, h5, r⟩ := h
    exact ⟨mb, g, hS _ (heap_lt h4) h1, hS _ h5.lt h2, h3, h4, h5, r⟩
  · obtain ⟨mb, g, h1, h2, h3, h4, h5, r⟩ := h
    exact ⟨mb, g, ⟨h1, heap_lt h4⟩, ⟨h2, h5.lt⟩, h3, h4, h5, r⟩
  · obtain ⟨mb, g, h1, h2, h3, h4, h5, r⟩ := h
    exact ⟨mb, g, h1, h2, h3, (hk.block _ (heap_lt h4) (hS _ (heap_lt h4) h1)).trans h4, h5.keep (hk.block _ h5.lt (hS _ h5.lt h2)), r⟩
set_option maxHeartbeats 1000000 in
theorem has_any {S : Nat → Prop} {w : World} {cb n N : Nat} {f : F} (h : ClkAt S w cb n N f) (i : Int) :
    Calls Try.prog 31 #[ptrV cb, .int .i64 i] w fun e w' => e = .returned (.bool (isC N i)) ∧ w = w' := by
  obtain ⟨mb, g, h1, h2, h3, h4, h5, r⟩ := h
  have c0 : w.cell? ⟨cb, 0, none⟩ = some (.int .i64 (N : Int)) := by rw [Lib.cell_of_heap h4]; rfl
  clear h1 h2 h3 h4 h5 r
  by_cases d1 : 0 ≤ i
  · by_cases d2 : i < N
    · have HV : Hid (isC N i = true) := by show _ = _; unfold isC; rw [decide_eq_true d1, decide_eq_true d2]; rfl
      generalize isC N i = r at *
      go_enter Try.func31, Try.ntmps31
      go_wp2
      go_ret
      exact ⟨ret_bool HV.out.symm, rfl⟩
    · have d2' : (N : Int) ≤ i := by omega
      have HV : Hid (isC N i = false) := by show _ = _; unfold isC; rw [decide_eq_false d2, Bool.and_false]
      generalize isC N i = r at *
      go_enter Try.func31, Try.ntmps31
      go_wp2
      go_ret
      exact ⟨ret_bool HV.out.symm, rfl⟩
  · have d1' : i < 0 := by omega
    have HV : Hid (isC N i = false) := by show _ = _; unfold isC; rw [decide_eq_false d1, Bool.false_and]
    generalize isC N i = r at *
    go_enter Try.func31, Try.ntmps31
    go_wp2
    go_ret
    exact ⟨ret_bool HV.out.symm, rfl⟩
theorem MapV.of {S : Nat → Prop} {w : World} {b mb n : Nat} {g : G} (h1 : S mb) (h2 : mb ≠ b) (h : IMap w mb n g) : MapV S w b (some mb) n g := .inr ⟨mb, rfl, h1, h2, h⟩
set_option maxHeartbeats 1000000 in
theorem Now_any {S : Nat → Prop} {w : World} {cb n N : Nat} {f : F} (h : ClkAt S w cb n N f) {i : Int} (hi : I64 i) :
    Calls Try.prog 14 #[ptrV cb, .int .i64 i] w fun e w' => e = .returned (.int .i64 (nowF N f i : Nat)) ∧ w = w' := by
  have HH := Lib.hid (has_any h i)
  obtain ⟨mb, g, h1, h2, h3, h4, h5, h6, h7⟩ := h
  have c1 : w.cell? ⟨cb, 1, none⟩ = some (.map (some mb)) := by rw [Lib.cell_of_heap h4]; rfl
  have hl := ((MapV.of h2 h3 h5).look hi w (fun _ _ => rfl)).1
  rw [h6] at hl
  clear h1 h2 h3 h4 h5 h6 h7
  cases hc : isC N i with
  | true =>
    have HV : Hid (nowF N f i = f i) := by show _ = _; unfold nowF; rw [if_pos hc]
    rw [hc] at HH
    clear hc
    generalize nowF N f i = r at *
    go_enter Try.func14, Try.ntmps14
    go_wp2_with fail
    refine HH.out.mono ?_
    rintro e w1 ⟨rfl, rfl⟩
    go_wp2
    go_ret
    rw [HV.out]
    exact ⟨rfl, rfl⟩
  | false =>
    have HV : Hid (nowF N f i = 0) := by show _ = _; unfold nowF; rw [if_neg (by rw [hc]; simp)]
    rw [hc] at HH
    clear hc hl
    generalize nowF N f i = r at *
    go_enter Try.func14, Try.ntmps14
    go_wp2_with fail
    refine HH.out.mono ?_
    rintro e w1 ⟨rfl, rfl⟩
    go_wp2
    go_ret
    rw [HV.out]
    exact ⟨rfl, rfl⟩
set_option maxHeartbeats 1000000 in
theorem Tick_any {S : Nat → Prop} {w : World} {cb n N : Nat} {f : F} (h : ClkAt S w cb n N f) {i : Int} (hi : I64 i) (hn : n ≤ 1048576) :
    Calls Try.prog 12 #[ptrV cb, .int .i64 i] w fun e w' => e = .returned (.int .i64 (tickV N f i : Nat)) ∧ ClkAt S w' cb (n + 1) N (tickF N f i) ∧ Kept S w w' := by
  have HH := Lib.hid (has_any h i)
  have H := Lib.hid h
  obtain ⟨mb, g, h1, h2, h3, h4, h5, h6, h7⟩ := h
  cases hc : isC N i with
  | true =>
    have c1 : w.cell? ⟨cb, 1, none⟩ = some (.map (some mb)) := by rw [Lib.cell_of_heap h4]; rfl
    have hl := ((MapV.of h2 h3 h5).look hi w (fun _ _ => rfl)).1
    rw [h6] at hl
    obtain ⟨w2, r2, m2, u2⟩ := h5.put 33 3 Try.underlying33 hi (by unfold maxLen; omega) ((f i : Int) + 1)
    have hfi := h7 i
    have hb2 : w2.heap[cb]? = w.heap[cb]? := u2.grown.block cb (heap_lt h4) (fun e => h3 (by cases e; rfl))
    have c2 : w2.cell? ⟨cb, 1, none⟩ = some (.map (some mb)) := (World.cell?_of_block (a := ⟨cb, 1, none⟩) hb2).trans c1
    have hl2 := ((MapV.of h2 h3 m2).look hi w2 (fun _ _ => rfl)).1
    have hu : untilG (upd g i (some ((f i : Int) + 1))) i = (f i : Int) + 1 := by unfold untilG; rw [upd_same]; rfl
    rw [hu] at hl2
    have HV : Hid (tickV N f i = f i + 1) := by show _ = _; unfold tickV; rw [if_pos hc]
    have HT : Hid (ClkAt S w2 cb (n + 1) N (tickF N f i) ∧ Kept S w w2) := by
      refine ⟨⟨mb, _, h1, h2, h3, hb2.trans h4, m2, fun x => ?_, fun x => ?_⟩, turned_kept u2 h2⟩
      · unfold tickF
        rw [if_pos hc]
        by_cases e : x = i
        · subst e; rw [hu]; simp
        · simp only [if_neg e]
          unfold untilG
          rw [upd_other _ _ e]
          exact h6 x
      · unfold tickF
        rw [if_pos hc]
        have := h7 x
        split <;> omega
    rw [hc] at HH
    clear hc h1 h2 h3 h4 h5 h6 h7 m2 u2 hb2 hu
    generalize tickV N f i = r at *
    generalize tickF N f i = f' at *
    go_enter Try.func12, Try.ntmps12
    go_wp2_with fail
    refine HH.out.mono ?_
    rintro e w1 ⟨rfl, rfl⟩
    go_wp2
    go_ret
    rw [HV.out]
    exact ⟨rfl, HT.out⟩
  | false =>
    have HV : Hid (tickV N f i = 0 ∧ tickF N f i = f) := by unfold tickV tickF; rw [if_neg (by rw [hc]; simp), if_neg (by rw [hc]; simp)]; exact ⟨rfl, rfl⟩
    rw [hc] at HH
    clear hc h1 h2 h3 h4 h5 h6 h7
    generalize tickV N f i = r at *
    generalize tickF N f i = f' at *
    go_enter Try.func12, Try.ntmps12
    go_wp2_with fail
    refine HH.out.mono ?_
    rintro e w1 ⟨rfl, rfl⟩
    go_wp2
    go_ret
    obtain ⟨mb, g, h1, h2, h3, h4, h5, h6, h7⟩ := H.out
    rw [HV.out.1, HV.out.2]
    exact ⟨rfl, ⟨mb, g, h1, h2, h3, h4, h5.mono (by omega), h6, fun x => Nat.le_trans (h7 x) (by omega)⟩, Kept.refl _ _⟩
theorem clk_new {S : Nat → Prop} (w : World) (hS : ∀ k, w.heap.size ≤ k → S k) {z : Int} {N : Nat} (hz : z = N) :
    ClkAt S ((w.alloc (.map #[] 0)).alloc (.cells #[.int .i64 z, .map (some w.heap.size)] 53)) (w.heap.size + 1) 0 N (fun _ => 0) := by
  subst hz
  have h1 : ((w.alloc (.map #[] 0)).alloc (.cells #[.int .i64 (N : Int), .map (some w.heap.size)] 53)).heap[w.heap.size + 1]? = some (.cells #[.int .i64 (N : Int), .map (some w.heap.size)] 53 (0, 0)) := by
    have := heap_alloc_new (w.alloc (.map #[] 0)) (.cells #[.int .i64 (N : Int), .map (some w.heap.size)] 53)
    rwa [World.size_alloc] at this
  exact ⟨w.heap.size, _, hS _ (Nat.le_succ _), hS _ (Nat.le_refl _), by omega, h1, (GMap.made (Value.int .i64) w).keep (Below.heap_alloc _ _ _ (by simp)), fun _ => rfl, fun _ => Nat.le_refl _⟩
theorem below_two (w : World) (a b : Obj) : Below w.heap.size w ((w.alloc a).alloc b) := ((Below.refl _ _).alloc (Nat.le_refl _) _).alloc (by simp) _
set_option maxHeartbeats 1000000 in
theorem CNew_any {S : Nat → Prop} (w : World) (hS : ∀ k, w.heap.size ≤ k → S k) (n : Int) (hn : n ≤ 9223372036854775807) :
    Calls Try.prog 10 #[.int .i64 n] w fun e w' => e = .returned (ptrV (w.heap.size + 1)) ∧ ClkAt S w' (w.heap.size + 1) 0 n.toNat (fun _ => 0) ∧ Below w.heap.size w w' := by
  have hmm := @run_makeMap Try.prog
  go_enter Try.func10, Try.ntmps10
  go_wp2
  all_goals
    go_ret
    exact ⟨rfl, clk_new w hS (by omega), below_two _ _ _⟩

/-! the document's -/
def rowF (N : Nat) (f : F) : List Int := (List.range N).map (fun (i : Nat) => (f (i : Int) : Int))
theorem rowF_len (N : Nat) (f : F) : (rowF N f).length = N := by simp [rowF]
theorem rowF_get {N i : Nat} (f : F) (h : i < N) : (rowF N f)[i]? = some (f (i : Int) : Int) := by simp [rowF, h]
theorem rowF_set {N : Nat} {f : F} {i : Nat} (h : i < N) : (intsC (rowF N f)).set i (.int .i64 ((f (i : Int) : Int) + 1)) = intsC (rowF N (tickF N f (i : Int))) := by
  have hc : isC N (i : Int) = true := by unfold isC; rw [decide_eq_true (by omega), decide_eq_true (by omega)]; rfl
  apply List.ext_getElem?
  intro j
  rw [List.getElem?_set]
  by_cases e : i = j
  · subst e
    rw [if_pos rfl, intsC_len, rowF_len, if_pos h, intsC, List.getElem?_map, rowF_get _ h]
    unfold tickF
    rw [if_pos hc]
    simp
  · rw [if_neg e, intsC, intsC, List.getElem?_map, List.getElem?_map]
    by_cases hj : j < N
    · rw [rowF_get _ hj, rowF_get _ hj]
      unfold tickF
      rw [if_pos hc]
      have : ¬ (j : Int) = (i : Int) := by omega
      simp [this]
    · rw [List.getElem?_eq_none (by rw [rowF_len]; omega), List.getElem?_eq_none (by rw [rowF_len]; omega)]
structure RClk (S : Nat → Prop) (w : World) (rb n N : Nat) (f : F) (b : Nat) : Prop where
  mine : S rb
  block : w.heap[rb]? = some (.cells #[.slice (some ⟨b, 0, none⟩) N N] 55 (0, 0))
  row : w.ownsRow 0 3 1 (.slice (some ⟨b, 0, none⟩) N N) N (intsC (rowF N f))
  own : S b ∧ b ≠ rb
  le : ∀ x, f x ≤ n
def RClkAt (S : Nat → Prop) (w : World) (rb n N : Nat) (f : F) : Prop := ∃ b, RClk S w rb n N f b
def RClkQ (rb n N : Nat) (f : F) : (Nat → Prop) → World → Prop := fun S w => RClkAt S w rb n N f
theorem rclkThing (rb n N : Nat) (f : F) : Thing (RClkQ rb n N f) := by
  refine ⟨fun {S S' w} h hS => ?_, fun {S w} h => ?_, fun {S S' w w'} h hk hS => ?_⟩
  · obtain ⟨b, h⟩ := h
    exact ⟨b, hS _ (heap_lt h.block) h.mine, h.block, h.row, ⟨hS _ (h.row.lt b rfl).2 h.own.1, h.own.2⟩, h.le⟩
  · obtain ⟨b, h⟩ := h
    exact ⟨b, ⟨h.mine, heap_lt h.block⟩, h.block, h.row, ⟨⟨h.own.1, (h.row.lt b rfl).2⟩, h.own.2⟩, h.le⟩
  · obtain ⟨b, h⟩ := h
    exact ⟨b, h.mine, (hk.block _ (heap_lt h.block) (hS _ (heap_lt h.block) h.mine)).trans h.block, own_keep h.row (fun g hg _ hl => hk.block g hl (hS g hl (by cases hg; exact h.own.1))), h.own, h.le⟩
theorem RClk.cell {S : Nat → Prop} {w : World} {rb n N b : Nat} {f : F} (h : RClk S w rb n N f b) {i : Nat} (hi : i < N) : w.cell? ⟨b, i, none⟩ = some (.int .i64 (f (i : Int) : Int)) ∧ w.frozen? ⟨b, i, none⟩ = false := by
  refine ⟨?_, h.row.frozenAt i⟩
  rw [h.row.cellAt i (by omega), intsC, List.getElem?_map, rowF_get f hi]; rfl
set_option maxHeartbeats 1000000 in
theorem rNow_any {S : Nat → Prop} {w : World} {rb n N : Nat} {f : F} (h : RClkAt S w rb n N f) (i : Int) :
    Calls Try.prog 15 #[ptrV rb, .int .i64 i] w fun e w' => e = .returned (.int .i64 (nowF N f i : Nat)) ∧ w = w' := by
  obtain ⟨b, h⟩ := h
  have c0 : w.cell? ⟨rb, 0, none⟩ = some (.slice (some ⟨b, 0, none⟩) N N) := by rw [Lib.cell_of_heap h.block]; rfl
  by_cases hc : isC N i = true
  · obtain ⟨d1, d2⟩ := isC_true hc
    obtain ⟨j, rfl⟩ : ∃ j : Nat, i = j := ⟨i.toNat, by omega⟩
    have hj : j < N := by omega
    have cx := (h.cell hj).1
    have HV : Hid (nowF N f (j : Int) = f (j : Int)) := by show _ = _; unfold nowF; rw [if_pos hc]
    clear hc h
    generalize nowF N f (j : Int) = r at *
    go_enter Try.func15, Try.ntmps15
    go_wp2
    go_ret
    rw [HV.out]
    exact ⟨rfl, rfl⟩
  · have HV : Hid (nowF N f i = 0) := by show _ = _; unfold nowF; rw [if_neg hc]
    have d := isC_false hc
    clear hc h
    generalize nowF N f i = r at *
    rcases d with d | d
    · go_enter Try.func15, Try.ntmps15
      go_wp2
      go_ret
      rw [HV.out]
      exact ⟨rfl, rfl⟩
    · have d' : 0 ≤ i := by omega
      go_enter Try.func15, Try.ntmps15
      go_wp2
      go_ret
      rw [HV.out]
      exact ⟨rfl, rfl⟩
set_option maxHeartbeats 1000000 in
theorem rTick_any {S : Nat → Prop} {w : World} {rb n N : Nat} {f : F} (h : RClkAt S w rb n N f) (hn : n ≤ 1048576) (i : Int) :
    Calls Try.prog 13 #[ptrV rb, .int .i64 i] w fun e w' => e = .returned (.int .i64 (tickV N f i : Nat)) ∧ RClkAt S w' rb (n + 1) N (tickF N f i) ∧ Kept S w w' := by
  obtain ⟨b, h⟩ := h
  have c0 : w.cell? ⟨rb, 0, none⟩ = some (.slice (some ⟨b, 0, none⟩) N N) := by rw [Lib.cell_of_heap h.block]; rfl
  by_cases hc : isC N i = true
  · obtain ⟨d1, d2⟩ := isC_true hc
    obtain ⟨j, rfl⟩ : ∃ j : Nat, i = j := ⟨i.toNat, by omega⟩
    have hj : j < N := by omega
    obtain ⟨cx, fx⟩ := h.cell hj
    have hle := h.le (j : Int)
    have hbr : b ≠ rb := h.own.2
    have HV : Hid (tickV N f (j : Int) = f (j : Int) + 1) := by show _ = _; unfold tickV; rw [if_pos hc]
    have HT : Hid (RClkAt S (w.setCell ⟨b, j, none⟩ (.int .i64 ((f (j : Int) : Int) + 1))) rb (n + 1) N (tickF N f (j : Int)) ∧ Kept S w (w.setCell ⟨b, j, none⟩ (.int .i64 ((f (j : Int) : Int) + 1)))) := by
      refine ⟨⟨b, h.mine, ?_, ?_, h.own, fun x => ?_⟩, (Kept.refl S w).set (.inl h.own.1) _⟩
      · rw [Below.heap_setCell _ _ _ _ (fun e => h.own.2 e.symm)]; exact h.block
      · have := (h.row.stored j (.int .i64 ((f (j : Int) : Int) + 1))).1
        rwa [rowF_set hj] at this
      · unfold tickF
        rw [if_pos hc]
        have := h.le x
        split <;> omega
    clear hc h
    generalize tickV N f (j : Int) = r at *
    generalize tickF N f (j : Int) = f' at *
    go_enter Try.func13, Try.ntmps13
    go_wp2
    go_ret
    rw [HV.out]
    exact ⟨rfl, HT.out⟩
  · have HV : Hid (tickV N f i = 0 ∧ tickF N f i = f) := by unfold tickV tickF; rw [if_neg hc, if_neg hc]; exact ⟨rfl, rfl⟩
    have d := isC_false hc
    have H : Hid (RClkAt S w rb (n + 1) N f) := ⟨b, h.mine, h.block, h.row, h.own, fun x => Nat.le_trans (h.le x) (by omega)⟩
    clear hc h
    generalize tickV N f i = r at *
    generalize tickF N f i = f' at *
    rcases d with d | d
    · go_enter Try.func13, Try.ntmps13
      go_wp2
      go_ret
      rw [HV.out.1, HV.out.2]
      exact ⟨rfl, H.out, Kept.refl _ _⟩
    · have d' : 0 ≤ i := by omega
      go_enter Try.func13, Try.ntmps13
      go_wp2
      go_ret
      rw [HV.out.1, HV.out.2]
      exact ⟨rfl, H.out, Kept.refl _ _⟩
theorem made_zeros (N : Nat) : (madeCells (Value.int .i64 0).cells (N * 1)).toList = intsC (rowF N (fun _ => 0)) := by
  apply List.ext_getElem?
  intro j
  rw [intsC, List.getElem?_map]
  have hsz := size_madeCells (Value.int .i64 0).cells (N * 1)
  by_cases hj : j < N
  · rw [rowF_get _ hj, Array.getElem?_toList, Array.getElem?_eq_getElem (by omega)]
    simp [madeCells, Value.cells, Nat.mod_one]
  · have h1 : (rowF N (fun _ => 0))[j]? = none := List.getElem?_eq_none (by rw [rowF_len]; omega)
    rw [h1, List.getElem?_eq_none (by rw [Array.length_toList]; omega)]; rfl
set_option maxHeartbeats 1000000 in
theorem rCNew_any {S : Nat → Prop} (w : World) (hS : ∀ k, w.heap.size ≤ k → S k) (n : Int) (hn : n ≤ 1048576) :
    Calls Try.prog 11 #[.int .i64 n] w fun e w' => e = .returned (ptrV (w.heap.size + 1)) ∧ RClkAt S w' (w.heap.size + 1) 0 n.toNat (fun _ => 0) ∧ Below w.heap.size w w' := by
  obtain ⟨i0, hi0, hz0, hz1, hz2⟩ := info_parts info_int
  obtain ⟨N, hN⟩ : ∃ N, N = n.toNat := ⟨_, rfl⟩
  have hN2 : N ≤ 1048576 := by omega
  have hr := run_make (P := Try.prog) w 22 3 i0 (.int .i64 0) Try.underlying22 hi0 hz0 .i64 .i64 (N : Int) (N : Int) (by omega) (Int.le_refl _) (by rw [hz2]; omega) (by omega)
  rw [Int.toNat_natCast, hz1] at hr
  have ho := World.ownsRow_lit (base := 0) (e := 3) (size := 1) w (madeCells (Value.int .i64 0).cells (N * 1)) N (Nat.zero_le _) (by unfold maxLen; omega) (size_madeCells _ _)
  rw [made_zeros] at ho
  have HF : Hid (RClkAt S ((w.alloc (.cells (madeCells (Value.int .i64 0).cells (N * 1)) 3)).alloc (.cells #[.slice (some ⟨w.heap.size, 0, none⟩) N N] 55)) (w.heap.size + 1) 0 N (fun _ => 0)) := by
    refine ⟨w.heap.size, hS _ (Nat.le_succ _), ?_, ho.alloc _, ⟨hS _ (Nat.le_refl _), by omega⟩, fun _ => Nat.le_refl _⟩
    have := heap_alloc_new (w.alloc (.cells (madeCells (Value.int .i64 0).cells (N * 1)) 3)) (.cells #[.slice (some ⟨w.heap.size, 0, none⟩) N N] 55)
    rwa [World.size_alloc] at this
  have HB : Hid (Below w.heap.size w ((w.alloc (.cells (madeCells (Value.int .i64 0).cells (N * 1)) 3)).alloc (.cells #[.slice (some ⟨w.heap.size, 0, none⟩) N N] 55))) := below_two _ _ _
  generalize madeCells (Value.int .i64 0).cells (N * 1) = C at *
  rw [← hN]
  clear ho
  by_cases hn0 : n < 0
  · obtain rfl : N = 0 := by omega
    clear hN hN2
    simp only [Int.cast_ofNat_Int] at hr
    go_enter Try.func11, Try.ntmps11
    go_wp2
    go_ret
    exact ⟨rfl, HF.out, HB.out⟩
  · obtain rfl : n = N := by omega
    have hn1 : 0 ≤ (N : Int) := by omega
    clear hN hn0
    go_enter Try.func11, Try.ntmps11
    go_wp2
    all_goals
      go_ret
      exact ⟨rfl, HF.out, HB.out⟩
end Go.Proofs.Ytckbbakajabhmaa
