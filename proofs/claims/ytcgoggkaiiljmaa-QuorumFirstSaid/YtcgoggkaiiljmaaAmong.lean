/- Who asks whether a number is one of a list: among; IndexFunc, ContainsFunc, Meets. -/
import Derived.Test.YtcgoggkaiiljmaaInts
namespace Go.Proofs.Ytcgoggkaiiljmaa
open Go.RowKit Go.Maps

/-- a function value that tells p of each integer, in every world in which all that was there still is -/
def Gives (w : World) (g : Nat) (lb : Array Value) (p : Int → Bool) : Prop := ∀ (W : World) (x : Int), Below w.heap.size w W → I64 x → Calls Try.prog g (#[.int .i64 x] ++ lb) W fun e W' => e = .returned (.bool (p x)) ∧ W = W'
theorem Gives.below {w w' : World} {g : Nat} {lb : Array Value} {p : Int → Bool} (h : Gives w g lb p) (hb : Below w.heap.size w w') : Gives w' g lb p := fun W x hW hx => h W x (bw hb hW) hx
def Ent (g : Nat) : Prop := ∀ args w, (callFunc g args).run Try.prog w = .ok (.enter g args) w
theorem ent_of {f : FuncId} {fn : Func} {c : Code} (hf : Try.prog.funcs[f]? = some fn) (hname : (fn.name == "runtime.NumGoroutine") = false) (hb : fn.body = some c) : Ent f := fun args w => by
  have h1 : ¬ fn.name = "runtime.NumGoroutine" := by simpa using hname
  simp [callFunc, hf, h1, hb]
/-- the function value of among -/
def AmongV (w : World) (fv : Value) (l : List Int) : Prop := ∃ b mb, fv = .func (.func 44) #[] #[ptrV b] ∧ b < w.heap.size ∧ w.cell? ⟨b, 0, none⟩ = some (.map (some mb)) ∧ IMap w mb l.length (oftG l)
theorem count_contains (l : List Int) (x : Int) : decide ((0 : Int) < ((l.count x : Nat) : Int)) = l.contains x := by
  by_cases h : x ∈ l
  · have := List.count_pos_iff.2 h
    rw [decide_eq_true (by omega), List.contains_iff_mem.2 h]
  · have := List.count_eq_zero.2 h
    rw [this]
    have h2 : l.contains x = false := by rw [Bool.eq_false_iff]; intro hc; exact h (List.contains_iff_mem.1 hc)
    rw [h2]; rfl
set_option maxHeartbeats 1000000 in
theorem among1_any {w : World} {b mb : Nat} {l : List Int} (h1 : b < w.heap.size) (h2 : w.cell? ⟨b, 0, none⟩ = some (.map (some mb))) (h3 : IMap w mb l.length (oftG l)) :
    Gives w 44 #[ptrV b] (fun x => l.contains x) := by
  intro W x hW hx
  show Calls Try.prog 44 #[.int .i64 x, ptrV b] W _
  have c0 : W.cell? ⟨b, 0, none⟩ = some (.map (some mb)) := (hW.cell (p := ⟨b, 0, none⟩) h1).trans h2
  have hlk := (h3.look 41 3 Try.underlying41 (fun w => zeroI w) hx W (hW.block mb h3.lt)).1
  rw [oft_val] at hlk
  have HC := Lib.hid (count_contains l x)
  show Calls Try.prog 44 #[.int .i64 x, ptrV b] W fun e W' => e = .returned (.bool (l.contains x)) ∧ W = W'
  generalize l.contains x = r at *
  clear h1 h2 h3 hW
  generalize l.count x = q at *
  by_cases hq : 0 < q
  · have hqi : decide ((0 : Int) < (q : Int)) = true := decide_eq_true (by omega)
    have HR : Hid (r = true) := by have := HC.out; rw [hqi] at this; exact this.symm
    clear HC
    go_enter Try.func44, Try.ntmps44
    go_wp2
    go_ret
    exact ⟨ret_bool (by rw [HR.out]), rfl⟩
  · obtain rfl : q = 0 := by omega
    have HR : Hid (r = false) := by have := HC.out; exact this.symm
    clear HC
    go_enter Try.func44, Try.ntmps44
    go_wp2
    go_ret
    exact ⟨ret_bool (by rw [HR.out]), rfl⟩
set_option maxHeartbeats 1000000 in
theorem among_any {w : World} {v : Value} {l : List Int} (h : IA w v l) (hw : Wf l) (hl : l.length ≤ 1048576) :
    Calls Try.prog 36 #[v] w fun e w' => ∃ fv, e = .returned fv ∧ AmongV w' fv l ∧ Below w.heap.size w w' := by
  have hm := met_any h hw hl
  clear h
  go_enter Try.func36, Try.ntmps36
  go_wp2_with fail
  refine hm.mono ?_
  rintro e w1 ⟨mb, rfl, hmb, hM, hB⟩
  have HM := Lib.hid hM
  have HB := Lib.hid hB
  have hsz := hB.size
  clear hM hB
  go_wp2
  go_ret
  refine ⟨_, rfl, ⟨w1.heap.size, mb, rfl, by simp, ?_, ?_⟩, ?_⟩
  · rw [Lib.cell_of_heap (heap_alloc_new w1 _)]; rfl
  · exact HM.out.keep (Below.heap_alloc _ _ _ HM.out.lt)
  · exact HB.out.alloc hsz _
end Go.Proofs.Ytcgoggkaiiljmaa
