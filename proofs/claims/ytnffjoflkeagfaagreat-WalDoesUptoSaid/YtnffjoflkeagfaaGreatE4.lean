/- The document's disk: what a crash leaves, file by file. The document's disk: Crash. Printed by genref13.py. -/
import Derived.Test.YtnffjoflkeagfaaGreatE3
namespace Go.Proofs.YtnffjoflkeagfaaGreat
open Go.RowKit Go.Maps

/-- what a crash leaves of one file -/
def crashOne (p : List UInt8 × F) (m : Int) : Fs :=
  if leftF p.2 m = 0 ∧ p.2.u = false then [] else [(p.1, ⟨p.2.b.take (leftF p.2 m), leftF p.2 m, true⟩)]
def keepAt (keep : List Int) (k : Nat) : Int := (keep.drop k).headD 0
theorem keepAt_in {keep : List Int} {k : Nat} {z : Int} (h : keep[k]? = some z) : keepAt keep k = z := by
  unfold keepAt
  rw [List.headD_eq_head?_getD, List.head?_drop, h]
  rfl
theorem keepAt_out {keep : List Int} {k : Nat} (h : keep.length ≤ k) : keepAt keep k = 0 := by
  unfold keepAt
  rw [List.drop_of_length_le h]
  rfl
theorem crash_snoc (p : List UInt8 × F) : ∀ (l : Fs) (keep : List Int), crashF (l ++ [p]) keep = crashF l keep ++ crashOne p (keepAt keep l.length)
  | [], keep => by
    show crashF [p] keep = [] ++ crashOne p (keepAt keep 0)
    unfold crashOne keepAt
    rw [List.drop_zero, crashF]
    split <;> simp [crashF]
  | q :: r, keep => by
    have e : keepAt keep (r.length + 1) = keepAt keep.tail r.length := by
      unfold keepAt; rw [List.drop_tail]
    rw [List.cons_append, crashF, crashF, crash_snoc p r keep.tail, List.length_cons, e]
    split
    · rfl
    · rfl
theorem crash_len : ∀ (l : Fs) (keep : List Int), (crashF l keep).length ≤ l.length
  | [], _ => by simp [crashF]
  | q :: r, keep => by
    have := crash_len r keep.tail
    rw [crashF]
    split
    · simp; omega
    · simp; omega
/-- as the loop finds it -/
theorem left_int {p : F} (h : p.s ≤ p.b.length) (m : Int) : (leftF p m : Int) = (p.s : Int) + min (max m 0) ((p.b.length : Int) - (p.s : Int)) := by
  unfold leftF
  omega
end Go.Proofs.YtnffjoflkeagfaaGreat
namespace Go.Proofs.YtnffjoflkeagfaaGreat
open Go.RowKit Go.Maps

theorem ones4c (a b : ByteArray) (z : Int) (u : Bool) : ∀ v ∈ [Value.string a, .string b, .int .i64 z, .bool u], v.oneCell' = true := by
  intro v hv; simp at hv; rcases hv with rfl | rfl | rfl | rfl <;> rfl
theorem crash_some {s : Fs} {keep : List Int} {k lf : Nat} {p : List UInt8 × F} (hp : s[k]? = some p) (hl : leftF p.2 (keepAt keep k) = lf) (h : ¬ (lf = 0 ∧ p.2.u = false)) :
    refL (crashF (s.take (k + 1)) keep) = refL (crashF (s.take k) keep) ++ [.string (mk p.1), .string (mk (p.2.b.take lf)), .int .i64 (lf : Int), .bool true] ∧ (crashF (s.take (k + 1)) keep).length = (crashF (s.take k) keep).length + 1 := by
  have hk := (List.getElem?_eq_some_iff.1 hp).1
  rw [take_snocA _ _ _ hp, crash_snoc, show (s.take k).length = k by rw [List.length_take]; omega]
  have e : crashOne p (keepAt keep k) = [(p.1, ⟨p.2.b.take lf, lf, true⟩)] := by unfold crashOne; rw [hl, if_neg h]
  rw [e]
  exact ⟨by simp [refL, refC], by simp⟩
theorem crash_none {s : Fs} {keep : List Int} {k : Nat} {p : List UInt8 × F} (hp : s[k]? = some p) (hl : leftF p.2 (keepAt keep k) = 0) (h : p.2.u = false) : crashF (s.take (k + 1)) keep = crashF (s.take k) keep := by
  have hk := (List.getElem?_eq_some_iff.1 hp).1
  rw [take_snocA _ _ _ hp, crash_snoc, show (s.take k).length = k by rw [List.length_take]; omega]
  have e : crashOne p (keepAt keep k) = [] := by unfold crashOne; rw [hl, if_pos ⟨rfl, h⟩]
  rw [e, List.append_nil]
theorem crash_fit {s : St} (h : Fit s) (keep : List Int) : Fit (crashS s keep) := by
  have hm := most_crash (⟨Nat.le_refl _, Nat.le_refl _, h.keys⟩ : Most s s.fs.length (usedF s.fs) 9223372036854775807) keep
  refine ⟨?_, Nat.le_trans hm.bytes h.room, h.roomI, h.moreI, hm.keys, ?_⟩
  · have : ∀ (l : Fs) (kp : List Int), Sorted l → Sorted (crashF l kp) := by
      intro l
      induction l with
      | nil => intro kp _; exact List.Pairwise.nil
      | cons q r ih =>
        intro kp hs
        obtain ⟨h1, h2⟩ := List.pairwise_cons.1 hs
        unfold crashF
        split
        · exact ih _ h2
        · refine List.pairwise_cons.2 ⟨fun y hy => ?_, ih _ h2⟩
          obtain ⟨z, hz, e⟩ := mem_crash hy
          rw [← e]; exact h1 z hz
    exact this _ _ h.sorted
  · have : ∀ (l : Fs) (kp : List Int), (∀ p ∈ l, p.2.s ≤ p.2.b.length) → ∀ p ∈ crashF l kp, p.2.s ≤ p.2.b.length := by
      intro l
      induction l with
      | nil => intro kp _ p hp; simp [crashF] at hp
      | cons q r ih =>
        intro kp hs p hp
        unfold crashF at hp
        split at hp
        · exact ih _ (fun y hy => hs y (by simp [hy])) p hp
        · rcases List.mem_cons.1 hp with rfl | hp
          · have := hs q (by simp)
            show leftF q.2 _ ≤ (q.2.b.take (leftF q.2 _)).length
            rw [List.length_take]; unfold leftF; omega
          · exact ih _ (fun y hy => hs y (by simp [hy])) p hp
    exact this _ _ h.syn
theorem crash_end {S : Nat → Prop} {w wr : World} {rb : Nat} {s : St} {fv v3 : Value} {wv : Bool} {left : Int} {keep : List Int} (h : RefO S w rb s fv wv left) (hS : ∀ k, w.heap.size ≤ k → S k) (hb : Below w.heap.size w wr)
    (ho : wr.ownsRow w.heap.size 70 4 v3 (crashF s.fs keep).length (refL (crashF s.fs keep))) :
    RefAt S (((wr.setCell ⟨rb, 1, none⟩ v3).setCell ⟨rb, 2, none⟩ (.bool false)).setCell ⟨rb, 3, none⟩ (.bool false)) rb (crashS s keep) ∧ Kept S w (((wr.setCell ⟨rb, 1, none⟩ v3).setCell ⟨rb, 2, none⟩ (.bool false)).setCell ⟨rb, 3, none⟩ (.bool false)) := by
  have hr := row_ref (S := fun j => w.heap.size ≤ j) ho rfl (fun _ h => h)
  have hlt := h.lt
  have hr2 := RowIn.keep (s := crashS s keep) (w' := ((wr.setCell ⟨rb, 1, none⟩ v3).setCell ⟨rb, 2, none⟩ (.bool false)).setCell ⟨rb, 3, none⟩ (.bool false)) (S' := S) hr (by simp [World.setCell]) (fun g hg _ => by
    rw [heap_setCell_other _ _ _ _ (by show g ≠ rb; omega), heap_setCell_other _ _ _ _ (by show g ≠ rb; omega), heap_setCell_other _ _ _ _ (by show g ≠ rb; omega)]) (fun g _ hg => hS g hg)
  refine ⟨⟨v3, false, left, h.mine, ?_, fun _ => ⟨rfl, fun e => by cases e⟩, hr2, crash_fit h.fit keep⟩, (((Kept.of_below hb).set (.inl h.mine) _).set (.inl h.mine) _).set (.inl h.mine) _⟩
  have hblk := (hb.block rb hlt).trans h.block
  simp [World.setCell, Array.getElem?_modify, hblk, refO, crashS]
theorem keep_cell {S : Nat → Prop} {w : World} {a : Option Addr} {n c k : Nat} {l : List Int} {x : Int} (h : ListOff S w (.slice a n c) n (l.map (fun z => Value.int .i64 z))) (hk : l[k]? = some x) :
    ∃ b off, a = some ⟨b, off, none⟩ ∧ n ≤ c ∧ k < n ∧ b < w.heap.size ∧ w.cell? ⟨b, off + k, none⟩ = some (.int .i64 x) := by
  obtain ⟨h1, a', c', e, hc, h2⟩ := h
  cases e
  have hlt : k < n := by rw [← h1]; simp; exact (List.getElem?_eq_some_iff.1 hk).1
  rcases h2 with h2 | ⟨b, off, rfl, hb, _, hcell⟩
  · omega
  · exact ⟨b, off, rfl, hc, hlt, hb, hcell k _ (by simp [List.getElem?_map, hk])⟩
set_option maxRecDepth 100000 in
set_option maxHeartbeats 8000000 in
theorem refCrash_any {S : Nat → Prop} {w : World} {rb : Nat} {s : St} (h : RefAt S w rb s) (hS : ∀ k, w.heap.size ≤ k → S k) (hc : s.fs.length ≤ 1099511627776) (v : Value) (keep : List Int) (hkeep : ListOff S w v keep.length (keep.map (fun z => Value.int .i64 z))) (hkl : keep.length ≤ 9223372036854775807) :
    Calls Tryz.prog 24 #[ptrV rb, v] w fun e w' => e = .returned (.tuple #[]) ∧ RefAt S w' rb (crashS s keep) ∧ Kept S w w' := by
  obtain ⟨fv, wv, left, h⟩ := h
  obtain ⟨a, c, rfl⟩ := h.row.slice
  have HRO := Lib.hid h
  have c1 := h.c1
  have hlt0 := h.lt
  have hR := Lib.hid h.row
  have HF := Lib.hid h.fit
  clear h
  have HK := Lib.hid hkeep
  obtain ⟨_, ka, kcap, rfl, hkc, _⟩ := hkeep
  obtain ⟨i0, hi, hz0, hz1, hz2⟩ := info_parts (show (Tryz.prog.info? 70).map (fun i => (i.zero, i.size, i.bytes)) = some (some (.agg #[.string ⟨#[]⟩, .string ⟨#[]⟩, .int .i64 0, .bool false]), 4, 48) by kernel_rfl)
  go_enter Tryz.func24, Tryz.ntmps24
  go_wp2
  go_loopw [4, 5] (fun l i wr => ∃ k : Nat, k ≤ s.fs.length ∧ i = .int .i64 k ∧ wr.ownsRow w.heap.size 70 4 l (crashF (s.fs.take k) keep).length (refL (crashF (s.fs.take k) keep)) ∧ Below w.heap.size w wr) (fun l i _ => s.fs.length - (intOf i).toNat)
  case atStart => exact ⟨0, by omega, rfl, World.ownsRow_nil _ _ _ _, Below.refl _ _⟩
  case round =>
    obtain ⟨k, hk, rfl, hx, hbw⟩ := hrel
    obtain ⟨la, lc, rfl⟩ := row_slice hx
    have HX := Lib.hid hx
    have HW := Lib.hid hbw
    have c1' : wr.cell? ⟨rb, 1, none⟩ = _ := (hbw.cell (p := ⟨rb, 1, none⟩) hlt0).trans c1
    clear hx hbw
    by_cases hlt : k < s.fs.length
    · have hlti : (k : Int) < (s.fs.length : Int) := by omega
      obtain ⟨p, hp⟩ : ∃ p, s.fs[k]? = some p := ⟨s.fs[k], List.getElem?_eq_getElem hlt⟩
      obtain ⟨g, rfl, _, hcap, _, hgl, x0, x1, x2, x3, _⟩ := ref_row hR.out hp
      have y0 : wr.cell? ⟨g, k * 4, none⟩ = _ := (HW.out.cell (p := ⟨g, k * 4, none⟩) hgl).trans x0
      have y1 : wr.cell? ⟨g, k * 4 + 1, none⟩ = _ := (HW.out.cell (p := ⟨g, k * 4 + 1, none⟩) hgl).trans x1
      have y2 : wr.cell? ⟨g, k * 4 + 2, none⟩ = _ := (HW.out.cell (p := ⟨g, k * 4 + 2, none⟩) hgl).trans x2
      have y3 : wr.cell? ⟨g, k * 4 + 3, none⟩ = _ := (HW.out.cell (p := ⟨g, k * 4 + 3, none⟩) hgl).trans x3
      have hsl : p.2.s ≤ p.2.b.length := HF.out.syn p (List.mem_of_getElem? hp)
      have hbl : p.2.b.length ≤ 9223372036854775807 := by
        have := used_ge (List.mem_of_getElem? hp); have := HF.out.room; have := HF.out.roomI; omega
      have hnb : (mk p.2.b).size = p.2.b.length := mk_size _
      have HP := Lib.hid hp
      have hsz1 := HW.out.size
      have hcl : (crashF (s.fs.take k) keep).length ≤ k := by
        have := crash_len (s.fs.take k) keep; rw [List.length_take] at this; omega
      have hget : ∀ lf, leftF p.2 (keepAt keep k) = lf → ¬ (lf = 0 ∧ p.2.u = false) → _ := fun lf => crash_some (keep := keep) (k := k) (lf := lf) hp
      have HG := Lib.hid hget
      have hskip : leftF p.2 (keepAt keep k) = 0 → p.2.u = false → _ := crash_none (keep := keep) (k := k) hp
      have HSK := Lib.hid hskip
      clear hp x0 x1 x2 x3 hget hskip
      obtain ⟨n, b, sy, u⟩ := p
      dsimp only at y0 y1 y2 y3 hsl hbl hnb HG HSK
      by_cases hki : k < keep.length
      · have hkii : (k : Int) < (keep.length : Int) := by omega
        obtain ⟨z, hz⟩ : ∃ z, keep[k]? = some z := ⟨keep[k], List.getElem?_eq_getElem hki⟩
        obtain ⟨kb, koff, rfl, _, _, hkb, k0⟩ := keep_cell HK.out hz
        have k1 : wr.cell? ⟨kb, koff + k, none⟩ = _ := (HW.out.cell (p := ⟨kb, koff + k, none⟩) hkb).trans k0
        have k2 : ∀ o, (wr.alloc o).cell? ⟨kb, koff + k, none⟩ = some (.int .i64 z) := fun o => (((Below.refl wr.heap.size wr).alloc (Nat.le_refl _) o).cell (p := ⟨kb, koff + k, none⟩) (Nat.lt_of_lt_of_le hkb hsz1)).trans k1
        obtain ⟨q, hq⟩ : ∃ q : Nat, min (max z 0) ((b.length : Int) - (sy : Int)) = (q : Int) := ⟨(min (max z 0) ((b.length : Int) - (sy : Int))).toNat, by omega⟩
        have hqb : sy + q ≤ b.length := by omega
        have HLF : Hid (leftF ⟨b, sy, u⟩ (keepAt keep k) = sy + q) := by
          show _ = _
          rw [keepAt_in hz]
          have := left_int (p := ⟨b, sy, u⟩) hsl z
          simp only at this
          omega
        clear hz k0
        cases u with
        | true =>
          have HGG := Lib.hid (HG.out (sy + q) HLF.out (by simp))
          go_wp2_with fail
          go_region
          go_wp2_with (at_builtin; go_loud (refine wpList_append_own _ rfl _ _ 54 rfl w.heap.size 70 i0 (.agg #[.string ⟨#[]⟩, .string ⟨#[]⟩, .int .i64 0, .bool false]) 4 48 Tryz.underlying54 hi hz0 hz1 hz2 rfl (by decide) _ _ _ rfl (HX.out.alloc _ |>.drew.alloc _) ⟨_, 0, none⟩ 1 1 [.string (mk n), .string ((mk b).extract 0 (sy + q)), .int .i64 ((sy : Int) + (q : Int)), .bool true] rfl rfl (newsAt _ _ [.string (mk n), .string ((mk b).extract 0 (sy + q)), .int .i64 ((sy : Int) + (q : Int)), .bool true] _ (by simp)) (ones4c _ _ _ _) (by unfold maxLen; omega) (by omega) (by simp; omega) ?_))
          intro v9 w9 ho9 hg9 _
          have HO9 := Lib.hid ho9
          have HB9 : Hid (Below w.heap.size w w9) := ((HW.out.alloc HW.out.size _).drew.alloc (by simp; omega) _).grown hg9 (by simp; omega) (fun j hj => (HX.out.lt j hj).1)
          clear ho9 hg9
          go_wp2
          go_roundw
          case rel =>
            obtain ⟨e1, e2⟩ := HGG.out
            refine ⟨k + 1, by omega, by go_num, ?_, HB9.out⟩
            rw [e1, e2]
            have := HO9.out
            rw [show (mk b).extract 0 (sy + q) = mk (b.take (sy + q)) from mk_take _ _] at this
            exact this
          case measure => simp [intOf]; omega
        | false =>
          by_cases hpos : 0 < (sy + q)
          · have hposi : (0 : Int) < ((sy : Int) + (q : Int)) := by omega
            have HGG := Lib.hid (HG.out (sy + q) HLF.out (by omega))
            go_wp2_with fail
            go_region
            go_wp2_with (at_builtin; go_loud (refine wpList_append_own _ rfl _ _ 54 rfl w.heap.size 70 i0 (.agg #[.string ⟨#[]⟩, .string ⟨#[]⟩, .int .i64 0, .bool false]) 4 48 Tryz.underlying54 hi hz0 hz1 hz2 rfl (by decide) _ _ _ rfl (HX.out.alloc _ |>.drew.alloc _) ⟨_, 0, none⟩ 1 1 [.string (mk n), .string ((mk b).extract 0 (sy + q)), .int .i64 ((sy : Int) + (q : Int)), .bool true] rfl rfl (newsAt _ _ [.string (mk n), .string ((mk b).extract 0 (sy + q)), .int .i64 ((sy : Int) + (q : Int)), .bool true] _ (by simp)) (ones4c _ _ _ _) (by unfold maxLen; omega) (by omega) (by simp; omega) ?_))
            intro v9 w9 ho9 hg9 _
            have HO9 := Lib.hid ho9
            have HB9 : Hid (Below w.heap.size w w9) := ((HW.out.alloc HW.out.size _).drew.alloc (by simp; omega) _).grown hg9 (by simp; omega) (fun j hj => (HX.out.lt j hj).1)
            clear ho9 hg9
            go_wp2
            go_roundw
            case rel =>
              obtain ⟨e1, e2⟩ := HGG.out
              refine ⟨k + 1, by omega, by go_num, ?_, HB9.out⟩
              rw [e1, e2]
              have := HO9.out
              rw [show (mk b).extract 0 (sy + q) = mk (b.take (sy + q)) from mk_take _ _] at this
              exact this
            case measure => simp [intOf]; omega
          · have hposi : ¬ (0 : Int) < ((sy : Int) + (q : Int)) := by omega
            have HGG := Lib.hid (HSK.out (HLF.out.trans (by omega)) rfl)
            go_wp2_with fail
            go_region
            go_wp2
            go_roundw
            case rel => exact ⟨k + 1, by omega, by go_num, by rw [HGG.out]; exact HX.out.alloc _, ((HW.out.alloc HW.out.size _).drew)⟩
            case measure => simp [intOf]; omega
      · have hkii : ¬ (k : Int) < (keep.length : Int) := by omega
        have HLF : Hid (leftF ⟨b, sy, u⟩ (keepAt keep k) = sy) := by
          show _ = _
          rw [keepAt_out (by omega)]
          simp [leftF]
        cases u with
        | true =>
          have HGG := Lib.hid (HG.out sy HLF.out (by simp))
          go_wp2_with (at_builtin; go_loud (refine wpList_append_own _ rfl _ _ 54 rfl w.heap.size 70 i0 (.agg #[.string ⟨#[]⟩, .string ⟨#[]⟩, .int .i64 0, .bool false]) 4 48 Tryz.underlying54 hi hz0 hz1 hz2 rfl (by decide) _ _ _ rfl (HX.out.alloc _ |>.alloc _) ⟨_, 0, none⟩ 1 1 [.string (mk n), .string ((mk b).extract 0 sy), .int .i64 (sy : Int), .bool true] rfl rfl (newsAt _ _ [.string (mk n), .string ((mk b).extract 0 sy), .int .i64 (sy : Int), .bool true] _ (by simp)) (ones4c _ _ _ _) (by unfold maxLen; omega) (by omega) (by simp; omega) ?_))
          intro v9 w9 ho9 hg9 _
          have HO9 := Lib.hid ho9
          have HB9 : Hid (Below w.heap.size w w9) := ((HW.out.alloc HW.out.size _).alloc (by simp; omega) _).grown hg9 (by simp; omega) (fun j hj => (HX.out.lt j hj).1)
          clear ho9 hg9
          go_wp2
          go_roundw
          case rel =>
            obtain ⟨e1, e2⟩ := HGG.out
            refine ⟨k + 1, by omega, by go_num, ?_, HB9.out⟩
            rw [e1, e2]
            have := HO9.out
            rw [show (mk b).extract 0 sy = mk (b.take sy) from mk_take _ _] at this
            exact this
          case measure => simp [intOf]; omega
        | false =>
          by_cases hpos : 0 < sy
          · have hposi : (0 : Int) < (sy : Int) := by omega
            have HGG := Lib.hid (HG.out sy HLF.out (by omega))
            go_wp2_with (at_builtin; go_loud (refine wpList_append_own _ rfl _ _ 54 rfl w.heap.size 70 i0 (.agg #[.string ⟨#[]⟩, .string ⟨#[]⟩, .int .i64 0, .bool false]) 4 48 Tryz.underlying54 hi hz0 hz1 hz2 rfl (by decide) _ _ _ rfl (HX.out.alloc _ |>.alloc _) ⟨_, 0, none⟩ 1 1 [.string (mk n), .string ((mk b).extract 0 sy), .int .i64 (sy : Int), .bool true] rfl rfl (newsAt _ _ [.string (mk n), .string ((mk b).extract 0 sy), .int .i64 (sy : Int), .bool true] _ (by simp)) (ones4c _ _ _ _) (by unfold maxLen; omega) (by omega) (by simp; omega) ?_))
            intro v9 w9 ho9 hg9 _
            have HO9 := Lib.hid ho9
            have HB9 : Hid (Below w.heap.size w w9) := ((HW.out.alloc HW.out.size _).alloc (by simp; omega) _).grown hg9 (by simp; omega) (fun j hj => (HX.out.lt j hj).1)
            clear ho9 hg9
            go_wp2
            go_roundw
            case rel =>
              obtain ⟨e1, e2⟩ := HGG.out
              refine ⟨k + 1, by omega, by go_num, ?_, HB9.out⟩
              rw [e1, e2]
              have := HO9.out
              rw [show (mk b).extract 0 sy = mk (b.take sy) from mk_take _ _] at this
              exact this
            case measure => simp [intOf]; omega
          · have hposi : ¬ (0 : Int) < (sy : Int) := by omega
            have HGG := Lib.hid (HSK.out (HLF.out.trans (by omega)) rfl)
            go_wp2
            go_roundw
            case rel => exact ⟨k + 1, by omega, by go_num, by rw [HGG.out]; exact HX.out.alloc _, (HW.out.alloc HW.out.size _)⟩
            case measure => simp [intOf]; omega
    · have hlti : ¬ (k : Int) < (s.fs.length : Int) := by omega
      have hke : s.fs.take k = s.fs := List.take_of_length_le (by omega)
      have HX2 := Lib.hid (show wr.ownsRow w.heap.size 70 4 (.slice la (crashF (s.fs.take k) keep).length lc) (crashF s.fs keep).length (refL (crashF s.fs keep)) from by
        have := HX.out
        rw [hke] at this ⊢
        exact this)
      have f1 : ∀ i, wr.frozen? ⟨rb, i, none⟩ = false := fun i => by rw [World.frozen?_of_block (a := ⟨rb, i, none⟩) (HW.out.block rb hlt0)]; exact HRO.out.f i
      have f11 := f1 1
      have f12 := f1 2
      have f13 := f1 3
      have c2' : wr.cell? ⟨rb, 2, none⟩ = _ := (HW.out.cell (p := ⟨rb, 2, none⟩) hlt0).trans HRO.out.c2
      have c3' : wr.cell? ⟨rb, 3, none⟩ = _ := (HW.out.cell (p := ⟨rb, 3, none⟩) hlt0).trans HRO.out.c3
      clear f1 hke
      go_wp2
      go_end0
      exact ⟨rfl, crash_end HRO.out hS HW.out HX2.out⟩
end Go.Proofs.YtnffjoflkeagfaaGreat
