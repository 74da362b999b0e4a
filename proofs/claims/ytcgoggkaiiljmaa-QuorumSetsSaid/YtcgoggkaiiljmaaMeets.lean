/- slices.IndexFunc, slices.ContainsFunc; Meets. -/
import Derived.Test.YtcgoggkaiiljmaaAmong
namespace Go.Proofs.Ytcgoggkaiiljmaa
open Go.RowKit Go.Maps

/-- where the first one is of which p holds, from k on -/
def idxP (p : Int → Bool) : List Int → Nat → Int
  | [], _ => -1
  | x :: l, k => if p x then (k : Int) else idxP p l (k + 1)
theorem idxP_any (p : Int → Bool) : ∀ (l : List Int) (k : Nat), decide ((0 : Int) ≤ idxP p l k) = l.any p
  | [], _ => rfl
  | x :: l, k => by
    unfold idxP
    rw [List.any_cons]
    cases h : p x
    · simp only [Bool.false_eq_true, if_false, Bool.false_or]; exact idxP_any p l (k + 1)
    · simp
theorem idxP_drop {p : Int → Bool} {l : List Int} {k : Nat} (h : k < l.length) : idxP p (l.drop k) k = if p (l.getD k 0) then (k : Int) else idxP p (l.drop (k + 1)) (k + 1) := by
  rw [List.drop_eq_getElem_cons h]
  show (if p l[k] then (k : Int) else idxP p (l.drop (k + 1)) (k + 1)) = _
  simp [List.getD, h]
set_option maxHeartbeats 2000000 in
theorem IndexFunc_any {w : World} {v : Value} {l : List Int} {g : Nat} {lb : Array Value} {p : Int → Bool} (h : IA w v l) (hw : Wf l) (hl : l.length ≤ 1048576) (eg : Ent g) (hg : Gives w g lb p) :
    Calls Try.prog 45 #[v, .func (.func g) #[] lb] w fun e w' => e = .returned (.int .i64 (idxP p l 0)) ∧ w = w' := by
  obtain ⟨a, c, rfl, hac⟩ := h.slice
  have H := Lib.hid h
  have HW := Lib.hid hw
  have HG := Lib.hid hg
  have eg' : ∀ args w, (callFunc g args).run Try.prog w = .ok (.enter g args) w := eg
  clear h hw hg eg
  go_enter Try.func45, Try.ntmps45
  go_wp2
  go_loopw [8] (fun i wr => ∃ k : Nat, k ≤ l.length ∧ i = .int .i64 k ∧ Hid (idxP p (l.drop k) k = idxP p l 0) ∧ w = wr) (fun i _ => l.length - (intOf i).toNat)
  case atStart => exact ⟨0, by omega, rfl, rfl, rfl⟩
  case round =>
    obtain ⟨k, hk, rfl, HX, rfl⟩ := hrel
    by_cases hlt : k < l.length
    · obtain ⟨b, off, rfl, hb, hc⟩ := H.out.get hlt
      have hx : I64 (l.getD k 0) := HW.out _ (getD_mem hlt)
      have hcall := HG.out w (l.getD k 0) (Below.refl _ _) hx
      have HX2 := HX.out
      rw [idxP_drop hlt] at HX2
      clear HX
      have HX := Lib.hid HX2
      clear HX2
      generalize l.getD k 0 = x at *
      cases hp : p x with
      | true =>
        rw [hp] at hcall
        have HE : Hid (idxP p l 0 = (k : Int)) := by have := HX.out; rw [hp, if_pos rfl] at this; exact this.symm
        clear hp HX
        go_wp2_with fail
        refine hcall.mono ?_
        rintro e w1 ⟨rfl, rfl⟩
        go_wp2
        go_ret
        exact ⟨ret_int HE.out.symm, rfl⟩
      | false =>
        rw [hp] at hcall
        have HE : Hid (idxP p (l.drop (k + 1)) (k + 1) = idxP p l 0) := by have := HX.out; rw [hp] at this; exact this
        clear hp HX
        go_wp2_with fail
        refine hcall.mono ?_
        rintro e w1 ⟨rfl, rfl⟩
        go_wp2
        go_roundw
        case rel => exact ⟨k + 1, by omega, by go_num, HE, trivial⟩
        case measure => simp [intOf]; omega
    · obtain rfl : k = l.length := by omega
      have HE : Hid (idxP p l 0 = -1) := by have := HX.out; rw [List.drop_length] at this; exact this.symm
      clear HX
      go_wp2
      go_ret
      exact ⟨ret_int HE.out.symm, rfl⟩
set_option maxHeartbeats 1000000 in
theorem ContainsFunc_any {w : World} {v : Value} {l : List Int} {g : Nat} {lb : Array Value} {p : Int → Bool} (h : IA w v l) (hw : Wf l) (hl : l.length ≤ 1048576) (eg : Ent g) (hg : Gives w g lb p) :
    Calls Try.prog 38 #[v, .func (.func g) #[] lb] w fun e w' => e = .returned (.bool (l.any p)) ∧ w = w' := by
  have hi := IndexFunc_any h hw hl eg hg
  have HD := Lib.hid (idxP_any p l 0)
  clear h hw hg eg hl
  generalize l.any p = r at *
  generalize idxP p l 0 = i at *
  by_cases h0 : 0 ≤ i
  · have h0' : decide ((0 : Int) ≤ i) = true := decide_eq_true h0
    have HR : Hid (r = true) := by have := HD.out; rw [h0'] at this; exact this.symm
    clear HD
    go_enter Try.func38, Try.ntmps38
    go_wp2_with fail
    refine hi.mono ?_
    rintro e w1 ⟨rfl, rfl⟩
    go_wp2
    go_ret
    exact ⟨ret_bool (by rw [HR.out]), rfl⟩
  · have h0' : decide ((0 : Int) ≤ i) = false := decide_eq_false h0
    have HR : Hid (r = false) := by have := HD.out; rw [h0'] at this; exact this.symm
    clear HD
    go_enter Try.func38, Try.ntmps38
    go_wp2_with fail
    refine hi.mono ?_
    rintro e w1 ⟨rfl, rfl⟩
    go_wp2
    go_ret
    exact ⟨ret_bool (by rw [HR.out]), rfl⟩
def meetS (a b : List Int) : Bool := a.any (fun x => b.contains x)
theorem meetS_iff {a b : List Int} : meetS a b = true ↔ ∃ x, x ∈ a ∧ x ∈ b := by unfold meetS; simp
theorem ent_among : Ent 44 := ent_of Try.func44 (by kernel_rfl) rfl
set_option maxHeartbeats 1000000 in
theorem Meets_any {w : World} {va vb : Value} {a b : List Int} (ha : IA w va a) (hwa : Wf a) (hla : a.length ≤ 1048576) (hb : IA w vb b) (hwb : Wf b) (hlb : b.length ≤ 1048576) :
    Calls Try.prog 27 #[va, vb] w fun e w' => e = .returned (.bool (meetS a b)) ∧ Below w.heap.size w w' := by
  have hm := among_any hb hwb hlb
  have HA := Lib.hid ha
  have HW := Lib.hid hwa
  clear ha hb hwa hwb hlb
  go_enter Try.func27, Try.ntmps27
  go_wp2_with fail
  refine hm.mono ?_
  rintro e w1 ⟨fv, rfl, ⟨bx, mb, rfl, h1, h2, h3⟩, hB⟩
  have hc : Calls _ _ _ _ fun e w' => e = .returned (.bool (meetS a b)) ∧ w1 = w' := ContainsFunc_any (HA.out.below hB) HW.out hla ent_among (among1_any h1 h2 h3)
  have HB := Lib.hid hB
  clear hB h1 h2 h3 hm
  go_wp2_with fail
  refine hc.mono ?_
  rintro e w2 ⟨rfl, rfl⟩
  go_wp2
  go_ret
  exact ⟨rfl, HB.out⟩
end Go.Proofs.Ytcgoggkaiiljmaa
