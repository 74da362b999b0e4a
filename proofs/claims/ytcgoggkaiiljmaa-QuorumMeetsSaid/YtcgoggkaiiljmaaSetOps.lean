/- Set, Inter, Minus. -/
import Derived.Test.YtcgoggkaiiljmaaRising
import Derived.Laws.EntriesVeiled
namespace Go.Proofs.Ytcgoggkaiiljmaa
open Go.RowKit Go.Maps

theorem ent_set : Ent 33 := ent_of Try.func33 (by kernel_rfl) rfl
theorem ent_minus : Ent 37 := ent_of Try.func37 (by kernel_rfl) rfl
theorem set1_any (w : World) : Gives w 33 #[] (fun _ => true) := by
  intro W x hW hx
  show Calls Try.prog 33 #[.int .i64 x] W fun e W' => e = .returned (.bool true) ∧ W = W'
  clear hW hx
  go_enter Try.func33, Try.ntmps33
  go_wp2
  go_ret
  exact ⟨rfl, rfl⟩
set_option maxHeartbeats 1000000 in
theorem Set_any {w : World} {v : Value} {l : List Int} (h : IA w v l) (hw : Wf l) (hl : l.length ≤ 1048576) :
    Calls Try.prog 16 #[v] w fun e w' => ∃ v', e = .returned v' ∧ IA w' v' (setS l) ∧ Below w.heap.size w w' := by
  have hr := rising_any h hw hl ent_set (set1_any w)
  rw [List.filter_eq_self.2 (fun _ _ => rfl)] at hr
  clear h hw hl
  go_enter Try.func16, Try.ntmps16
  go_wp2_with fail
  refine hr.mono ?_
  rintro e w1 ⟨v', rfl, hi, hb⟩
  have HI := Lib.hid hi
  have HB := Lib.hid hb
  clear hi hb hr
  go_wp2
  go_ret
  exact ⟨_, rfl, HI.out, HB.out⟩
set_option maxHeartbeats 1000000 in
theorem Inter_any {w : World} {va vb : Value} {a b : List Int} (ha : IA w va a) (hwa : Wf a) (hla : a.length ≤ 1048576) (hb : IA w vb b) (hwb : Wf b) (hlb : b.length ≤ 1048576) :
    Calls Try.prog 20 #[va, vb] w fun e w' => ∃ v', e = .returned v' ∧ IA w' v' (interS a b) ∧ Below w.heap.size w w' := by
  have hm := among_any hb hwb hlb
  have HA := Lib.hid ha
  have HW := Lib.hid hwa
  clear ha hb hwa hwb hlb
  go_enter Try.func20, Try.ntmps20
  go_wp2_with fail
  refine hm.mono ?_
  rintro e w1 ⟨fv, rfl, ⟨bx, mb, rfl, h1, h2, h3⟩, hB⟩
  have hr := rising_any (HA.out.below hB) HW.out hla ent_among (among1_any h1 h2 h3)
  have HB := Lib.hid hB
  clear hB h1 h2 h3 hm
  go_wp2_with fail
  refine hr.mono ?_
  rintro e w2 ⟨v', rfl, hi, hb⟩
  have HI := Lib.hid hi
  have HB2 := Lib.hid (bw HB.out hb)
  clear hi hb hr
  go_wp2
  go_ret
  exact ⟨_, rfl, HI.out, HB2.out⟩
set_option maxHeartbeats 1000000 in
theorem minus1_any {w : World} {b g : Nat} {lb : Array Value} {p : Int → Bool} (h1 : b < w.heap.size) (h2 : w.cell? ⟨b, 0, none⟩ = some (.func (.func g) #[] lb)) (eg : Ent g) (hg : Gives w g lb p) :
    Gives w 37 #[ptrV b] (fun x => !p x) := by
  intro W x hW hx
  show Calls Try.prog 37 #[.int .i64 x, ptrV b] W fun e W' => e = .returned (.bool (!p x)) ∧ W = W'
  have c0 : W.cell? ⟨b, 0, none⟩ = some (.func (.func g) #[] lb) := (hW.cell (p := ⟨b, 0, none⟩) h1).trans h2
  have hc := hg W x hW hx
  have eg' : ∀ args w, (callFunc g args).run Try.prog w = .ok (.enter g args) w := eg
  clear hW hx hg h2 eg
  cases hp : p x with
  | true =>
    rw [hp] at hc
    clear hp
    go_enter Try.func37, Try.ntmps37
    go_wp2_with fail
    refine hc.mono ?_
    rintro e w1 ⟨rfl, rfl⟩
    go_wp2
    go_ret
    exact ⟨rfl, rfl⟩
  | false =>
    rw [hp] at hc
    clear hp
    go_enter Try.func37, Try.ntmps37
    go_wp2_with fail
    refine hc.mono ?_
    rintro e w1 ⟨rfl, rfl⟩
    go_wp2
    go_ret
    exact ⟨rfl, rfl⟩
set_option maxHeartbeats 1000000 in
theorem Minus_any {w : World} {va vb : Value} {a b : List Int} (ha : IA w va a) (hwa : Wf a) (hla : a.length ≤ 1048576) (hb : IA w vb b) (hwb : Wf b) (hlb : b.length ≤ 1048576) :
    Calls Try.prog 22 #[va, vb] w fun e w' => ∃ v', e = .returned v' ∧ IA w' v' (minusS a b) ∧ Below w.heap.size w w' := by
  have hm := among_any hb hwb hlb
  have HA := Lib.hid ha
  have HW := Lib.hid hwa
  clear ha hb hwa hwb hlb
  go_enter Try.func22, Try.ntmps22
  go_wp2_with fail
  refine hm.mono ?_
  rintro e w1 ⟨fv, rfl, ⟨bx, mb, rfl, h1, h2, h3⟩, hB⟩
  have hg1 := among1_any h1 h2 h3
  have hb2 : Below w1.heap.size w1 (w1.alloc (.cells #[.func (.func 44) #[] #[ptrV bx]] 38)) := (Below.refl _ _).alloc (Nat.le_refl _) _
  have hg2 := minus1_any (w := w1.alloc (.cells #[.func (.func 44) #[] #[ptrV bx]] 38)) (b := w1.heap.size) (by simp) (by rw [Lib.cell_of_heap (heap_alloc_new w1 _)]; rfl) ent_among (hg1.below hb2)
  have hr := rising_any ((HA.out.below hB).below hb2) HW.out hla ent_minus hg2
  have HB := Lib.hid (bw hB hb2)
  clear hB h1 h2 h3 hm hg1 hg2 hb2
  go_wp2_with fail
  refine hr.mono ?_
  rintro e w2 ⟨v', rfl, hi, hb⟩
  have HI := Lib.hid hi
  have HB2 := Lib.hid (bw HB.out hb)
  clear hi hb hr
  go_wp2
  go_ret
  exact ⟨_, rfl, HI.out, HB2.out⟩
end Go.Proofs.Ytcgoggkaiiljmaa
