/- Maps of integers in memory. -/
import Derived.Test.YtcgoggkaiiljmaaKit
namespace Go.Proofs.Ytcgoggkaiiljmaa
open Go.RowKit Go.Maps

/-- a 64-bit integer -/
def I64 (x : Int) : Prop := -9223372036854775808 ≤ x ∧ x ≤ 9223372036854775807
/-- an element of the map, read as itself -/
def Rv (v : Value) : Option (DataW Value × List MemPlace) := some (.held v, [])
theorem lawI : Keyed Try.prog 3 := int_keyed Try.underlying3
theorem wfI {x : Int} (h : I64 x) : (Lit.int .i64 x).wf = true := by
  have e1 : IntKind.i64.min = -9223372036854775808 := by decide
  have e2 : IntKind.i64.max = 9223372036854775807 := by decide
  show (decide (IntKind.i64.min ≤ x) && decide (x ≤ IntKind.i64.max)) = true
  rw [e1, e2, decide_eq_true h.1, decide_eq_true h.2]; rfl
theorem hkeyI {x : Int} (h : I64 x) : keyOf Try.prog 3 (.int .i64 x) = some (.int .i64 x) :=
  keyOf_int_mk Try.underlying3 (wfI h)
theorem zeroI (w : World) : (zeroValue 3).run Try.prog w = .ok (.int .i64 0) w := by kernel_rfl
theorem isKeyI (x : Int) : WideAt.IsKeyLit (.int .i64 x) := by first | trivial | exact .int _ _ | simp [WideAt.IsKeyLit]

def upd {α : Type} (g : Int → Option α) (x : Int) (v : Option α) : Int → Option α := fun y => if y = x then v else g y
theorem upd_same {α : Type} (g : Int → Option α) (x : Int) (v : Option α) : upd g x v x = v := by simp [upd]
theorem upd_other {α : Type} (g : Int → Option α) {x y : Int} (v : Option α) (h : y ≠ x) : upd g x v y = g y := by simp [upd, h]

/-- the block mb is a map of at most n entries that tells g, whose values are told by V -/
def GMap {α : Type} (V : α → Value) (w : World) (mb n : Nat) (g : Int → Option α) : Prop :=
  ∃ D, w.ownsMap Try.prog 3 Rv mb n D ∧ (∀ x, Maps.has D (.int .i64 x) = (g x).isSome) ∧ ∀ x v, g x = some v → ∀ z, D.atKey (.int .i64 x) z = .held (V v)
abbrev IMap (w : World) (mb n : Nat) (g : Int → Option Int) : Prop := GMap (Value.int .i64) w mb n g
section
variable {α : Type} {V : α → Value} {w w' : World} {mb n : Nat} {g : Int → Option α}
theorem GMap.lt (h : GMap V w mb n g) : mb < w.heap.size := by obtain ⟨D, h1, _⟩ := h; exact h1.lt
theorem GMap.keep (h : GMap V w mb n g) (hb : w'.heap[mb]? = w.heap[mb]?) : GMap V w' mb n g := by
  obtain ⟨D, h1, h2, h3⟩ := h
  obtain ⟨es, clock, hb', F, hs, rfl⟩ := h1
  exact ⟨_, ⟨es, clock, hb.trans hb', F, hs, rfl⟩, h2, h3⟩
theorem GMap.mono (h : GMap V w mb n g) {n' : Nat} (hn : n ≤ n') : GMap V w mb n' g := by
  obtain ⟨D, h1, h2, h3⟩ := h
  exact ⟨D, h1.mono hn, h2, h3⟩
theorem GMap.made (V : α → Value) (w : World) : GMap V (w.alloc (.map #[] 0)) w.heap.size 0 (fun _ => none) :=
  ⟨_, World.ownsMap_made w Try.prog 3 Rv, fun _ => rfl, fun _ _ h => by cases h⟩
/-- m[x], of a map whose elements' type has the zero value z -/
theorem GMap.look (h : GMap V w mb n g) (t e : TypeId) (ht : Try.prog.underlying t = some (.map 3 e)) {z : Value} (hz : ∀ w, (zeroValue e).run Try.prog w = .ok z w) {x : Int} (hx : I64 x) (w' : World) (hb : w'.heap[mb]? = w.heap[mb]?) :
    (Instr.lookup t (.map (some mb)) (.int .i64 x) false).run Try.prog w' = .ok (((g x).map V).getD z) w' ∧
    (Instr.lookup t (.map (some mb)) (.int .i64 x) true).run Try.prog w' = .ok (.tuple #[((g x).map V).getD z, .bool (g x).isSome]) w' := by
  obtain ⟨D, h1, h2, h3⟩ := h.keep hb
  obtain ⟨v1, _, r1, e1⟩ := h1.lookup (t := t) lawI ht (hz w') (zd := .held z) (zp := []) rfl (hkeyI hx)
  obtain ⟨v2, _, r2, e2⟩ := h1.look_ok (t := t) lawI ht (hz w') (zd := .held z) (zp := []) rfl (hkeyI hx)
  have hat : D.atKey (.int .i64 x) (.held z) = .held (((g x).map V).getD z) := by
    cases e : g x with
    | none => exact Maps.atKey_of_not_has (by rw [h2, e]; rfl) _
    | some v => exact h3 _ _ e _
  rw [hat] at e1 e2
  simp only [Rv, Option.some.injEq, Prod.mk.injEq, DataW.held.injEq] at e1 e2
  rw [e1.1] at r1
  rw [e2.1, h2] at r2
  exact ⟨r1, r2⟩
/-- m[x] = v -/
theorem GMap.put (h : GMap V w mb n g) (t e : TypeId) (ht : Try.prog.underlying t = some (.map 3 e)) {x : Int} (hx : I64 x) (hn : n < maxLen) (v : α) :
    ∃ w', (Instr.mapUpdate t (.map (some mb)) (.int .i64 x) (V v)).run Try.prog w = .ok () w' ∧ GMap V w' mb (n + 1) (upd g x (some v)) ∧ w.mapTurned w' mb := by
  obtain ⟨D, h1, h2, h3⟩ := h
  obtain ⟨w', r, h1', ht'⟩ := h1.store (t := t) lawI ht hn (hkeyI hx) (val := V v) (d := .held (V v)) (ps := []) rfl
  have hD : Maps.IsMap D := h1.isMap
  refine ⟨w', r, ⟨_, h1', fun y => ?_, fun y u hu z => ?_⟩, ht'⟩
  · by_cases e : y = x
    · subst e; rw [Maps.has_put_same hD (isKeyI _), upd_same]; rfl
    · rw [Maps.has_put_other (by simpa using e), upd_other _ _ e, h2]
  · by_cases e : y = x
    · subst e; rw [upd_same] at hu; cases hu; exact Maps.atKey_put_same hD (isKeyI _) _ _
    · rw [upd_other _ _ e] at hu; rw [Maps.atKey_put_other (by simpa using e)]; exact h3 _ _ hu _
/-- delete(m, x) -/
theorem GMap.del (h : GMap V w mb n g) (t e : TypeId) (ht : Try.prog.underlying t = some (.map 3 e)) {x : Int} (hx : I64 x) (ty : TypeId) :
    ∃ w', (Builtin.delete_ #[t, 3] ty #[.map (some mb), .int .i64 x]).run Try.prog w = .ok (.tuple #[]) w' ∧ GMap V w' mb n (upd g x none) ∧ w.mapTurned w' mb := by
  obtain ⟨D, h1, h2, h3⟩ := h
  obtain ⟨w', r, h1', ht'⟩ := h1.drop (t := t) lawI ht (hkeyI hx) ty
  refine ⟨w', r, ⟨_, h1', fun y => ?_, fun y u hu z => ?_⟩, ht'⟩
  · by_cases e : y = x
    · subst e; rw [Maps.has_del_same, upd_same]; rfl
    · rw [Maps.has_del_other (by simpa using e), upd_other _ _ e, h2]
  · by_cases e : y = x
    · subst e; rw [upd_same] at hu; cases hu
    · rw [upd_other _ _ e] at hu; rw [Maps.atKey_del_other (by simpa using e)]; exact h3 _ _ hu _
end
theorem turned_size {w w' : World} {b : Nat} (h : w.mapTurned w' b) : w'.heap.size = w.heap.size := by
  obtain ⟨es, clock, es', clock', hb, rfl⟩ := h
  simp [ChangeMaps.setBlock]
theorem turned_kept {S : Nat → Prop} {w w' : World} {b : Nat} (h : w.mapTurned w' b) (hb : S b) : Kept S w w' :=
  Kept.of_grown h.grown (fun p hp => by cases hp; exact hb)
theorem cell_alloc (w : World) (o : Obj) {b : Nat} (j : Nat) (h : b < w.heap.size) : (w.alloc o).cell? ⟨b, j, none⟩ = w.cell? ⟨b, j, none⟩ := World.cell?_of_block (a := ⟨b, j, none⟩) (Below.heap_alloc w o b h)
theorem but_refl (p : Nat) (w : World) : w.grownBy w (some p) := ⟨rfl, rfl, rfl, Nat.le_refl _, fun _ _ _ => rfl⟩
abbrev ptrV (b : Nat) : Value := .pointer (some ⟨b, 0, none⟩)
end Go.Proofs.Ytcgoggkaiiljmaa
