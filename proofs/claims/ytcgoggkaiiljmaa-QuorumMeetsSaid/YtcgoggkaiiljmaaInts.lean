/- Lists of integers in memory; how often each is met; what a function value gives. -/
import Derived.Test.YtcgoggkaiiljmaaIMap
import Derived.Test.YtcgoggkaiiljmaaSets
namespace Go.Proofs.Ytcgoggkaiiljmaa
open Go.RowKit Go.Maps

def intsC (l : List Int) : List Value := l.map (Value.int .i64)
theorem len_intsC (l : List Int) : (intsC l).length = l.length := by simp [intsC]
theorem intsC_app (l r : List Int) : intsC (l ++ r) = intsC l ++ intsC r := by simp [intsC]
def Wf (l : List Int) : Prop := ∀ x ∈ l, I64 x
theorem Wf.take {l : List Int} (h : Wf l) (k : Nat) : Wf (l.take k) := fun x hx => h x (List.mem_of_mem_take hx)
theorem Wf.app {l r : List Int} (h : Wf l) (k : Wf r) : Wf (l ++ r) := fun x hx => by
  rcases List.mem_append.1 hx with e | e
  · exact h x e
  · exact k x e
theorem Wf.sub {l r : List Int} (h : Wf l) (k : ∀ x ∈ r, x ∈ l) : Wf r := fun x hx => h x (k x hx)
/-- a value that reads as this list -/
def IA (w : World) (v : Value) (l : List Int) : Prop := Run (fun _ => True) w v l.length (intsC l)
theorem IA.below {w w' : World} {v : Value} {l : List Int} (h : IA w v l) (hb : Below w.heap.size w w') : IA w' v l := Run.below h hb
theorem IA.slice {w : World} {v : Value} {l : List Int} (h : IA w v l) : ∃ a c, v = .slice a l.length c ∧ l.length ≤ c := Run.slice h
theorem IA.nil (w : World) : IA w (.slice none 0 0) [] := Run.nil _ _ _
theorem IA.get {w : World} {a : Option Addr} {n c k : Nat} {l : List Int} (h : IA w (.slice a n c) l) (hk : k < l.length) : ∃ b off, a = some ⟨b, off, none⟩ ∧ b < w.heap.size ∧ w.cell? ⟨b, off + k, none⟩ = some (.int .i64 (l.getD k 0)) := by
  obtain ⟨a', c', e, h1, h2, h3⟩ := h
  cases e
  obtain ⟨b, off, h4, _, h5, h6⟩ := Run.get (j := k) (u := .int .i64 (l.getD k 0)) ⟨a, c, rfl, h1, h2, h3⟩ (by omega) (by simp [intsC, List.getElem?_eq_getElem hk, List.getD])
  exact ⟨b, off, h4, h5, h6⟩
theorem IA.of_own {w : World} {base : Nat} {v : Value} {l : List Int} (h : w.ownsRow base 3 1 v l.length (intsC l)) : IA w v l := (Run.of_own h (by omega)).mono (fun _ _ _ => trivial)
theorem take_snocI (l : List Int) (k : Nat) (h : k < l.length) : l.take (k + 1) = l.take k ++ [l.getD k 0] := by
  rw [List.take_succ_eq_append_getElem h]; simp [List.getD, h]
theorem getD_mem {l : List Int} {k : Nat} (h : k < l.length) : l.getD k 0 ∈ l := by simp [List.getD, h]

/-- how often -/
def oftG (l : List Int) (x : Int) : Option Int := if x ∈ l then some ((l.count x : Nat) : Int) else none
theorem oft_val (l : List Int) (x : Int) : ((oftG l x).map (Value.int .i64)).getD (.int .i64 0) = .int .i64 ((l.count x : Nat) : Int) := by
  unfold oftG
  split
  · rfl
  · rename_i h; rw [List.count_eq_zero.2 h]; rfl
theorem oft_snoc (l : List Int) (x : Int) : upd (oftG l) x (some (((l.count x : Nat) : Int) + 1)) = oftG (l ++ [x]) := by
  funext y
  unfold upd oftG
  by_cases e : y = x
  · subst e
    rw [if_pos rfl, if_pos (by simp), List.count_append]
    simp
  · rw [if_neg e, List.count_append, List.count_cons_of_ne (by simpa using fun h => e h.symm)]
    simp [e]
theorem oft_nil : oftG [] = fun _ => none := by funext x; simp [oftG]
theorem oft_some (l : List Int) (x : Int) : (oftG l x).isSome = l.contains x := by
  unfold oftG
  split <;> simp [*]

set_option maxHeartbeats 2000000 in
theorem met_any {w : World} {v : Value} {l : List Int} (h : IA w v l) (hw : Wf l) (hl : l.length ≤ 1048576) :
    Calls Try.prog 42 #[v] w fun e w' => ∃ mb, e = .returned (.map (some mb)) ∧ w.heap.size ≤ mb ∧ IMap w' mb l.length (oftG l) ∧ Below w.heap.size w w' := by
  obtain ⟨a, c, rfl, hac⟩ := h.slice
  have H := Lib.hid h
  have HW := Lib.hid hw
  have hmm := @run_makeMap Try.prog
  clear h hw
  go_enter Try.func42, Try.ntmps42
  go_wp2
  go_loopw [9] (fun i wr => ∃ k : Nat, k ≤ l.length ∧ i = .int .i64 k ∧ Hid (IMap wr w.heap.size k (oftG (l.take k))) ∧ Hid (Below w.heap.size w wr)) (fun i _ => l.length - (intOf i).toNat)
  case atStart => exact ⟨0, by omega, rfl, by show IMap _ _ _ _; rw [List.take_zero, oft_nil]; exact GMap.made _ _, (Below.refl _ _).alloc (Nat.le_refl _) _⟩
  case round =>
    obtain ⟨k, hk, rfl, HM, HB⟩ := hrel
    by_cases hlt : k < l.length
    · obtain ⟨b, off, rfl, hb, hc⟩ := (H.out.below HB.out).get hlt
      have hx : I64 (l.getD k 0) := HW.out _ (getD_mem hlt)
      have hlk := (HM.out.look 41 3 Try.underlying41 (fun w => zeroI w) hx wr rfl).1
      rw [oft_val] at hlk
      obtain ⟨w2, r2, m2, u2⟩ := HM.out.put 41 3 Try.underlying41 hx (by unfold maxLen; omega) (((l.take k).count (l.getD k 0) : Nat) + 1 : Int)
      rw [oft_snoc, ← take_snocI l k hlt] at m2
      have hcb : (l.take k).count (l.getD k 0) ≤ 1048576 := Nat.le_trans List.count_le_length (by rw [List.length_take]; omega)
      have HM2 := Lib.hid m2
      have HB2 := Lib.hid (HB.out.grown u2.grown HB.out.size (fun k hk => by cases hk; exact Nat.le_refl _))
      clear m2 u2
      generalize (l.take k).count (l.getD k 0) = q at *
      generalize l.getD k 0 = x at *
      have hq : (q : Int) ≤ 9223372036854775806 := by omega
      go_wp2
      go_roundw
      case rel => exact ⟨k + 1, by omega, by go_num, HM2, HB2⟩
      case measure => simp [intOf]; omega
    · obtain rfl : k = l.length := by omega
      rw [List.take_length] at HM
      go_wp2
      go_ret
      exact ⟨_, rfl, Nat.le_refl _, HM.out, HB.out⟩
end Go.Proofs.Ytcgoggkaiiljmaa
