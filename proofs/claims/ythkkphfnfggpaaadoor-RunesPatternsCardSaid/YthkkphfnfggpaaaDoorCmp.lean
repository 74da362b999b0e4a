/- Cmp of both sides, SameRunes, Valid. -/
import Derived.Test.YthkkphfnfggpaaaDoorTexts
import Derived.Test.YthkkphfnfggpaaaDoorShelf
namespace Go.Proofs.YthkkphfnfggpaaaDoor
open Go.RowKit

/-- the library's two tables lie as their texts lay them -/
def Tabs (w : World) : Prop := Lib.Utf8Tabs 0 1 w
theorem Tabs.below {w w' : World} (h : Tabs w) (hb : Below w.heap.size w w') : Tabs w' := Utf8Tabs_below h hb
/-- Below, from the first world on -/
theorem bt {a w w' : World} (h : Below a.heap.size a w) (k : Below w.heap.size w w') : Below a.heap.size a w' := h.trans (k.mono h.size)

/-- lists compared, place by place -/
def cmpL : List Int → List Int → Int
  | [], [] => 0
  | [], _ :: _ => -1
  | _ :: _, [] => 1
  | x :: xs, y :: ys => if x < y then -1 else if y < x then 1 else cmpL xs ys
theorem cmpL_nil (l : List Int) : cmpL [] l = if l.length = 0 then 0 else -1 := by cases l <;> simp [cmpL]

set_option maxHeartbeats 1000000 in
theorem valid_any (s : ByteArray) (w : World) (hs : s.size ≤ 9223372036854775807) (hT : Tabs w) :
    Calls Tryd.prog 15 #[.string s] w fun e w' => e = .returned (.bool (valB s)) ∧ Below w.heap.size w w' := by
  have hv : valB s = Lib.validD s.data.toList := by unfold valB valAt; rw [List.drop_zero]
  have HV := Lib.hid hv
  have HT := Lib.hid hT
  clear hv hT
  go_enter Tryd.func15, Tryd.ntmps15
  go_wp2_with fail
  refine (Tryd.utf8_ValidString s _ hs HT.out).mono ?_
  rw [← HV.out]
  rintro e w' ⟨rfl, hb⟩
  go_wp2
  go_ret
  exact ⟨rfl, hb⟩

set_option maxHeartbeats 1000000 in
theorem isNaN_any (x : Int) (w : World) : Calls Tryd.prog 46 #[.int .i32 x] w fun e w' => e = .returned (.bool false) ∧ w = w' := by
  have hx : (x != x) = false := by simp
  go_enter Tryd.func46, Tryd.ntmps46
  go_wp2
  go_ret
  exact ⟨rfl, rfl⟩
/-- one number against another -/
def cmp1 (x y : Int) : Int := if x < y then -1 else if y < x then 1 else 0
set_option maxHeartbeats 1000000 in
theorem compare_any (x y : Int) (w : World) : Calls Tryd.prog 35 #[.int .i32 x, .int .i32 y] w fun e w' => e = .returned (.int .i64 (cmp1 x y)) ∧ w = w' := by
  by_cases h1 : x < y
  · have e : cmp1 x y = -1 := by simp [cmp1, h1]
    have HE := Lib.hid e
    clear e
    go_enter Tryd.func35, Tryd.ntmps35
    go_wp2_with (go_at_call 46; refine (isNaN_any _ _).mono ?_; rintro e w' ⟨rfl, rfl⟩)
    go_ret
    exact ⟨ret_int HE.out.symm, rfl⟩
  · by_cases h2 : y < x
    · have e : cmp1 x y = 1 := by simp [cmp1, h1, h2]
      have HE := Lib.hid e
      clear e
      go_enter Tryd.func35, Tryd.ntmps35
      go_wp2_with (go_at_call 46; refine (isNaN_any _ _).mono ?_; rintro e w' ⟨rfl, rfl⟩)
      go_ret
      exact ⟨ret_int HE.out.symm, rfl⟩
    · have e : cmp1 x y = 0 := by simp [cmp1, h1, h2]
      have HE := Lib.hid e
      clear e
      go_enter Tryd.func35, Tryd.ntmps35
      go_wp2_with (go_at_call 46; refine (isNaN_any _ _).mono ?_; rintro e w' ⟨rfl, rfl⟩)
      go_ret
      exact ⟨ret_int HE.out.symm, rfl⟩

theorem decGo (s : ByteArray) (q : Nat) (h : q < s.size) : Lib.decodeGo (s.extract q s.size) = Utf8.decode s q := by
  unfold Lib.decodeGo
  rw [if_neg (by rw [Lib.tail_size]; omega), Lib.tail_decode]; rfl

set_option maxHeartbeats 2000000 in
theorem cmp_any (a b : ByteArray) (w : World) (ha : a.size ≤ 1099511627776) (hb : b.size ≤ 1099511627776) (hT : Tabs w) :
    Calls Tryd.prog 22 #[.string a, .string b] w fun e w' => e = .returned (.int .i64 (cmpL (pts a) (pts b))) ∧ Below w.heap.size w w' := by
  have HT := Lib.hid hT
  clear hT
  go_enter Tryd.func22, Tryd.ntmps22
  go_wp2
  go_loopg [5] a.size (fun g at' wr => ∃ (p q : Nat), p ≤ a.size ∧ a.size - p ≤ g ∧ q ≤ b.size ∧ at' = .int .i64 q ∧ cmpL (ptsAt a p) (ptsAt b q) = cmpL (pts a) (pts b) ∧ wr.heap[w.heap.size]? = some (.stringIter a p) ∧ Below w.heap.size w wr)
  case atStart => exact ⟨0, 0, by omega, by omega, by omega, rfl, rfl, World.iter_heap _ _ _, (Below.refl _ _).alloc (Nat.le_refl _) _⟩
  case round =>
    obtain ⟨p, q, hp, hg, hq, rfl, hx, hit, hbw⟩ := hrel
    have HX := Lib.hid hx
    clear hx
    by_cases hlt : p < a.size
    · have hw := Lib.decode_width_pos a p hlt
      have hz := size_le_dec a p hlt
      have HS := Lib.hid (ptsAt_step a p hlt)
      have hnx := fun ty => Lib.run_next_any_at (P := Tryd.prog) wr w.heap.size a p ty hit hlt
      have hitI := Lib.iterAt_heap wr w.heap.size a p (p + (Utf8.decode a p).2) hit
      have hbI := Lib.below_iterAt hbw (Nat.le_refl _) a (p + (Utf8.decode a p).2)
      have HI := Lib.hid hitI
      clear hitI hbw
      generalize hwi : wr.iterAt w.heap.size a (p + (Utf8.decode a p).2) = wi at *
      clear hit hwi
      by_cases hqe : q = b.size
      · have HQ := Lib.hid (ptsAt_end b q (by omega))
        have hqi : ((q : Int) == (b.size : Int)) = true := by rw [beq_iff_eq]; omega
        clear hqe
        go_wp2
        go_ret
        exact ⟨ret_int (by rw [← HX.out, HS.out, HQ.out]; rfl), hbI⟩
      · have hqi : ((q : Int) == (b.size : Int)) = false := by rw [beq_eq_false_iff_ne]; omega
        have hqlt : q < b.size := by omega
        have hw2 := Lib.decode_width_pos b q hqlt
        have hz2 := size_le_dec b q hqlt
        have HQ := Lib.hid (ptsAt_step b q hqlt)
        have HD := Lib.hid (decGo b q hqlt)
        have HTi := Lib.hid (HT.out.below hbI)
        clear hqe
        by_cases hxy : (Utf8.decode a p).1 = (Utf8.decode b q).1
        · have hxyi : (((Utf8.decode a p).1 : Int) != ((Utf8.decode b q).1 : Int)) = false := by rw [hxy]; simp
          have HXY := Lib.hid hxy
          clear hxy
          go_wp2_with fail
          refine (Tryd.utf8_DecodeRuneInString _ _ HTi.out).mono ?_
          rw [HD.out]
          rintro e w2 ⟨rfl, hb2⟩
          have hlt2 : w.heap.size < wi.heap.size := (Array.getElem?_eq_some_iff.1 HI.out).1
          have HI2 : Hid (w2.heap[w.heap.size]? = some (.stringIter a (p + (Utf8.decode a p).2))) := (hb2.block _ hlt2).trans HI.out
          have hb3 := bt hbI hb2
          clear hb2 hbI hlt2
          go_wp2
          go_roundg (gk - 1)
          case measure => omega
          case rel =>
            refine ⟨p + (Utf8.decode a p).2, q + (Utf8.decode b q).2, by omega, by omega, by omega, by go_num, ?_, HI2.out, hb3⟩
            rw [← HX.out, HS.out, HQ.out, HXY.out]; simp [cmpL]
        · have hxyi : (((Utf8.decode a p).1 : Int) != ((Utf8.decode b q).1 : Int)) = true := by rw [bne_iff_ne]; omega
          have HXY := Lib.hid hxy
          clear hxy
          go_wp2_with fail
          refine (Tryd.utf8_DecodeRuneInString _ _ HTi.out).mono ?_
          rw [HD.out]
          rintro e w2 ⟨rfl, hb2⟩
          have hb3 := bt hbI hb2
          clear hb2 hbI
          go_wp2_with (go_at_call 35; refine (compare_any _ _ _).mono ?_; rintro e w' ⟨rfl, rfl⟩)
          go_ret
          refine ⟨ret_int ?_, hb3⟩
          rw [← HX.out, HS.out, HQ.out]
          have := HXY.out
          simp only [cmp1, cmpL]
          repeat' split
          all_goals first | rfl | omega
    · have hnx := fun ty => Lib.run_next_end_at (P := Tryd.prog) wr w.heap.size a p ty hit hlt
      have HS := Lib.hid (ptsAt_end a p hlt)
      clear hit
      by_cases hqe : q < b.size
      · have HQ := Lib.hid (ptsAt_step b q hqe)
        go_wp2
        go_ret
        exact ⟨ret_int (by rw [← HX.out, HS.out, HQ.out]; rfl), hbw⟩
      · have HQ := Lib.hid (ptsAt_end b q hqe)
        go_wp2
        go_ret
        exact ⟨ret_int (by rw [← HX.out, HS.out, HQ.out]; rfl), hbw⟩
end Go.Proofs.YthkkphfnfggpaaaDoor
