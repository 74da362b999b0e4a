/- Sum: a table of its own. -/
import Derived.Test.YtnffjoflkeagfaaFSumC
namespace Go.Proofs.Ytnffjoflkeagfaa.Fr
open Go.RowKit

/-- a whole array into the block that was made last -/
theorem wpList_store_new {P : Program} {ops : Array Oper} {rest : List Oper} {o : Oper} {a : Act} {w : World} {Q : Exit → Act → World → Prop} (hgd : o.guard = none) (ty : TypeId) (x y : Operand) (ho : o.op = .store ty x y)
    (c c' : Array Value) (t : TypeId) (hx : a.eval x = .pointer (some ⟨w.heap.size, 0, none⟩)) (hy : a.eval y = .agg c')
    (hi : (P.info? ty).map (·.size) = some c'.size) (hold : c.size = c'.size) (h1 : c'.all (·.oneCell') = true)
    (h : wpList P ops Q rest (a.put o.dst undef) (w.alloc (.cells c' t))) : wpList P ops Q (o :: rest) a (w.alloc (.cells c t)) := by
  refine wpList_store_row hgd ty x y ho w.heap.size c' hx hy t c (heap_alloc_last w _) hi hold h1 ?_
  rw [World.setRow_alloc_new]
  exact h
theorem tabInfo : (Try.prog.info? 102).map (·.size) = some (tabC 256).size := by
  rw [tabC_size]; exact (zero_of_info infoTab).2
theorem tabOld : (tabC 0).size = (tabC 256).size := by rw [tabC_size, tabC_size]
theorem tabZero : ∀ w, (zeroValue 102).run Try.prog w = .ok (.agg (tabC 0)) w := by
  rw [tabC_zero]; exact (zero_of_info infoTab).1
theorem size_alloc1 (w : World) (o : Obj) : (w.alloc o).heap.size = w.heap.size + 1 := by simp
theorem list_one (w : World) (s : ByteArray) (T : TypeId) : ListAt (w.alloc (.cells #[.string s] T)) (.slice (some ⟨w.heap.size, 0, none⟩) 1 1) 1 (cellsOf strC [s]) := by
  refine ⟨rfl, _, _, rfl, Nat.le_refl _, .inr ⟨_, _, rfl, by simp, fun j u hu => ?_⟩⟩
  match j, hu with
  | 0, hu => simp at hu; subst hu; rw [World.cell?_alloc_new]; rfl
theorem list_two (w : World) (s r : ByteArray) (T : TypeId) : ListAt (w.alloc (.cells #[.string s, .string r] T)) (.slice (some ⟨w.heap.size, 0, none⟩) 2 2) 2 (cellsOf strC [s, r]) := by
  refine ⟨rfl, _, _, rfl, Nat.le_refl _, .inr ⟨_, _, rfl, by simp, fun j u hu => ?_⟩⟩
  match j, hu with
  | 0, hu => simp at hu; subst hu; rw [World.cell?_alloc_new]; rfl
  | 1, hu => simp at hu; subst hu; rw [World.cell?_alloc_new]; rfl
theorem catL_one (s : ByteArray) : catL [s] = bs s := by simp [catL]
theorem catL_two (s r : ByteArray) : catL [s, r] = bs s ++ bs r := by simp [catL]

end Go.Proofs.Ytnffjoflkeagfaa.Fr
