/- A slice of bytes that the call made, told by its cells; and appends to it. -/
import Derived.Deep.AppendSrc
import Derived.Lib.VarintMem
import Derived.Lib.ConvBytes
import Derived.Lib.LazyBuf
import Derived.Deep.MidRow
import Derived.OwnWalk
import Derived.Laws.IdiomStrings
import Derived.Below
namespace Go.Proofs.Ytkcmcgmonkeajaa
open Go.RowKit

/-- v is a slice of the bytes bs, in a block from B on; its spare cells are there, and none is frozen -/
def Buf (B : Nat) (w : World) (v : Value) (bs : List UInt8) : Prop :=
  ∃ g cap, v = .slice (some ⟨g, 0, none⟩) bs.length cap ∧ B ≤ g ∧ g < w.heap.size ∧ bs.length ≤ cap ∧
    (∀ j, j < bs.length → w.cell? ⟨g, j, none⟩ = (Lib.byteCells bs)[j]?) ∧
    (∀ j, j < cap → (w.cell? ⟨g, j, none⟩).isSome = true ∧ w.frozen? ⟨g, j, none⟩ = false)

theorem Buf.alloc {B : Nat} {w : World} {v : Value} {bs : List UInt8} (h : Buf B w v bs) (o : Obj) : Buf B (w.alloc o) v bs := by
  obtain ⟨g, cap, rfl, h1, h2, h3, h4, h5⟩ := h
  refine ⟨g, cap, rfl, h1, by simp; omega, h3, fun j hj => ?_, fun j hj => ?_⟩
  · rw [World.cell?_alloc_past _ _ _ h2]; exact h4 j hj
  · rw [World.cell?_alloc_past _ _ _ h2, show (w.alloc o).frozen? ⟨g, j, none⟩ = w.frozen? ⟨g, j, none⟩ from World.frozen?_of_block (Below.heap_alloc w o g h2)]; exact h5 j hj
theorem add_zero_off (g j : Nat) : (⟨g, 0, none⟩ : Addr).add j = ⟨g, j, none⟩ := by unfold Addr.add; split <;> simp_all

theorem run_append_buf {P : Program} {B : Nat} (t tx ty e : TypeId) (i : TypeInfo) (ht : P.underlying t = some (.slice e)) (hi : P.info? e = some i) (hz : i.zero = some (.int .u8 0)) (hs1 : i.size = 1) (hby : i.bytes = 1)
    {w : World} {v : Value} {bs : List UInt8} (h : Buf B w v bs) (x : Value) (news : List UInt8) (hs : Src P 1 tx x news.length (Lib.byteCells news) w) (hB : B ≤ w.heap.size) (hlim : bs.length + news.length ≤ 140737488355328) :
    ∃ v' w', (Builtin.append_ #[t, tx] ty #[v, x]).run P w = .ok v' w' ∧ Buf B w' v' (bs ++ news) ∧ Below B w w' := by
  obtain ⟨g, cap, rfl, h1, h2, h3, h4, h5⟩ := h
  have hl : (Lib.byteCells news).length = news.length := Lib.byteCells_length _
  have hlb : (Lib.byteCells bs).length = bs.length := Lib.byteCells_length _
  have hs' : Src P i.size tx x news.length (Lib.byteCells news) w := by rw [hs1]; exact hs
  by_cases hr : bs.length + news.length ≤ cap
  · have hrun := run_append_room_src (P := P) w t tx ty e i ht hi g 0 bs.length cap x news.length (Lib.byteCells news) hs' hr
      (fun j hj => by rw [hs1, Nat.zero_add, Nat.mul_one]; exact (h5 _ (by omega)).1) (fun j hj => by rw [hs1, Nat.zero_add, Nat.mul_one]; exact (h5 _ (by omega)).2)
    rw [hs1, Nat.zero_add, Nat.mul_one] at hrun
    refine ⟨_, _, hrun, ⟨g, cap, by rw [List.length_append], h1, ?_, by rw [List.length_append]; omega, fun j hj => ?_, fun j hj => ?_⟩, below_setCells h1 _ _ _ (Below.refl _ _)⟩
    · have := (World.keptBut_setCells g (may := fun _ => True) (Lib.byteCells news) bs.length w (fun _ _ => trivial)).size
      omega
    · rw [Lib.byteCells_append]
      by_cases hj2 : j < bs.length
      · rw [World.cell?_setCells_out g _ _ _ _ (fun _ _ => .inl hj2), List.getElem?_append_left (by omega)]
        exact h4 j hj2
      · rw [List.length_append] at hj
        have hin := World.cell?_setCells_in g (Lib.byteCells news) bs.length w (fun k hk => (h5 _ (by omega)).1) (j - bs.length) (by omega)
        rw [show bs.length + (j - bs.length) = j by omega] at hin
        rw [hin, List.getElem?_append_right (by omega), hlb, List.getElem?_eq_getElem]
    · exact ⟨World.isSome_setCells g _ _ _ _ (h5 j hj).1, by rw [World.frozen?_setCells]; exact (h5 j hj).2⟩
  · have hold : (Builtin.firstCells i.size bs.length (.slice (some ⟨g, 0, none⟩) bs.length cap)).run P w.drew = .ok (Lib.byteCells bs).toArray w.drew := by
      refine run_firstCells_some w.drew i.size bs.length _ bs.length cap _ (by rw [hlb, hs1, Nat.mul_one]) (fun j u hu => ?_)
      rw [add_zero_off]
      have hj : j < bs.length := by have := (List.getElem?_eq_some_iff.1 hu).1; omega
      have := h4 j hj
      rw [hu] at this
      simpa using this
    have hrun := run_append_grow_src (P := P) w t tx ty e i _ ht hi hz (some ⟨g, 0, none⟩) bs.length cap (Lib.byteCells bs) hold x news.length (Lib.byteCells news) hs' (by omega) (by omega)
      (growslice_fits (by omega) (by rw [hby]; omega))
    have hge := grownCap_ge w (bs.length + news.length) cap e
    have hL : (Lib.byteCells bs ++ Lib.byteCells news).length = bs.length + news.length := by rw [List.length_append, hl, hlb]
    refine ⟨_, _, hrun, ⟨w.heap.size, _, by rw [List.length_append], hB, by simp, by rw [List.length_append]; exact hge, fun j hj => ?_, fun j hj => ?_⟩, ⟨rfl, rfl, rfl, by simp, fun k hk => Below.heap_alloc w.drew _ k (by simp; omega)⟩⟩
    · have e1 := World.cell?_alloc_new w.drew ((Lib.byteCells bs ++ Lib.byteCells news).toArray ++ Builtin.zeroCells (Value.int .u8 0).cells (grownCap w (bs.length + news.length) cap e - (bs.length + news.length))) e j
      rw [List.length_append] at hj
      rw [Lib.byteCells_append]
      refine Eq.trans e1 ?_
      rw [Array.getElem?_append_left (by simp only [List.size_toArray]; omega), List.getElem?_toArray]
    · have e1 := World.cell?_alloc_new w.drew ((Lib.byteCells bs ++ Lib.byteCells news).toArray ++ Builtin.zeroCells (Value.int .u8 0).cells (grownCap w (bs.length + news.length) cap e - (bs.length + news.length))) e j
      refine ⟨?_, World.frozen?_alloc_at _ _ _ _ rfl⟩
      refine Eq.trans (congrArg Option.isSome e1) ?_
      have hzs : (Builtin.zeroCells (Value.int .u8 0).cells (grownCap w (bs.length + news.length) cap e - (bs.length + news.length))).size = grownCap w (bs.length + news.length) cap e - (bs.length + news.length) := by
        rw [size_zeroCells]; show _ * 1 = _; omega
      rw [Array.getElem?_eq_getElem (by simp only [Array.size_append, List.size_toArray, hzs, hL]; omega)]
      rfl

theorem wpList_append_buf {P : Program} (w : World) {ops : Array Oper} {rest : List Oper} {o : Oper} {a : Act} {Q : Exit → Act → World → Prop} (hgd : o.guard = none) (s x : Operand) (t tx : TypeId)
    (ho : o.op = Op.call { callee := Callee.builtin Builtin.append, args := #[s, x], argTypes := #[t, tx] })
    (e : TypeId) (i : TypeInfo) (ht : P.underlying t = some (.slice e)) (hi : P.info? e = some i) (hz : i.zero = some (.int .u8 0)) (hs1 : i.size = 1) (hby : i.bytes = 1)
    (B : Nat) (v : Value) (bs : List UInt8) (hs : a.eval s = v) (h : Buf B w v bs) (xv : Value) (hx : a.eval x = xv) (news : List UInt8) (hsrc : Src P 1 tx xv news.length (Lib.byteCells news) w) (hB : B ≤ w.heap.size)
    (hlim : bs.length + news.length ≤ 140737488355328)
    (hK : ∀ v' w', Buf B w' v' (bs ++ news) → Below B w w' → wpList P ops Q rest (a.put o.dst v') w') : wpList P ops Q (o :: rest) a w := by
  refine wpList_plain hgd fun K hK' => ?_
  obtain ⟨v', w', hrun, r1, r2⟩ := run_append_buf (P := P) (B := B) t tx o.type e i ht hi hz hs1 hby h xv news hsrc hB hlim
  unfold Oper.wp
  simp [execOp, ho, resolve, invoke, builtin, hs, hx, hrun, Result.andThen]
  exact hK' _ _ (hK v' w' r1 r2)

/-- one byte, in a new block of one cell -/
theorem src_one {P : Program} {t e : TypeId} (ht : P.underlying t = some (.slice e)) (w : World) (T : TypeId) (c : Nat) (b : UInt8) (n : Int) (hn : n = b.toNat) :
    Src P 1 t (.slice (some ⟨w.heap.size, 0, none⟩) 1 c) 1 (Lib.byteCells [b]) (w.alloc (.cells #[.int .u8 n] T)) := by
  subst hn
  have e1 : Lib.byteCells [b] = [Value.int .u8 (b.toNat : Int)] := by simp [Lib.byteCells]
  rw [e1]
  refine Src.ofSlice _ ht _ 1 c _ rfl (fun j u hu => ?_) (fun u hu => by simp at hu; subst hu; rfl)
  rw [add_zero_off]
  match j, hu with
  | 0, hu => simp at hu; subst hu; rw [World.cell?_alloc_new]; rfl
theorem src_str {P : Program} {t : TypeId} (ht : P.underlying t = some .string) (w : World) (s : ByteArray) :
    Src P 1 t (.string s) s.data.toList.length (Lib.byteCells s.data.toList) w := by
  have h := Src.ofString (P := P) w ht s
  rw [← Lib.size_eq]
  exact h

/-- a string's bytes, made a slice -/
theorem buf_conv (w : World) (e : TypeId) (s : ByteArray) : Buf w.heap.size (Lib.bytesWorld w e s) (.slice (some ⟨w.heap.size, 0, none⟩) s.size (grownCap w s.size 0 e)) s.data.toList ∧ Below w.heap.size w (Lib.bytesWorld w e s) := by
  have hge := grownCap_ge w s.size 0 e
  have hsz : (Lib.bytesCells w e s).size = grownCap w s.size 0 e := by
    unfold Lib.bytesCells
    simp only [Array.size_append, Array.size_map, Array.size_replicate]
    have : s.data.size = s.size := rfl
    omega
  have hnew := Lib.bytesWorld_at_new w e s
  refine ⟨⟨w.heap.size, _, by rw [← Lib.size_eq], Nat.le_refl _, by rw [Lib.bytesWorld_size]; omega, by rw [← Lib.size_eq]; exact hge, fun j hj => ?_, fun j hj => ⟨?_, ?_⟩⟩, ⟨?_, ?_, ?_, by rw [Lib.bytesWorld_size]; omega, fun k hk => Lib.bytesWorld_at_old w e s k hk⟩⟩
  · rw [Lib.bytesWorld_cell w e s j (by rw [Lib.size_eq]; exact hj)]
    simp [Lib.byteCells, List.getD, List.getElem?_eq_getElem hj]
  · unfold World.cell?
    rw [hnew]
    show (_ : Option Value).isSome = true
    simp [hsz, hj]
  · unfold World.frozen?
    rw [hnew]
    simp [hsz]
    omega
  all_goals (simp [Lib.bytesWorld, World.freeze, World.alloc, World.drew, -World.alloc_eq, -World.drew_eq])

/-- .. and a string again -/
theorem run_back {P : Program} {B : Nat} {w : World} {v : Value} {bs : List UInt8} (h : Buf B w v bs) (src dst e : TypeId) (hs : P.underlying src = some (.slice e)) (he : P.underlying e = some (.int .u8)) (hd : P.underlying dst = some .string) :
    (convert src dst v).run P w = .ok (.string ⟨bs.toArray⟩) w := by
  obtain ⟨g, cap, rfl, h1, h2, h3, h4, h5⟩ := h
  refine run_convert_bytes_back w src dst e _ cap bs hs he hd (fun j hj => ?_)
  rw [add_zero_off, h4 j hj]
  simp [Lib.byteCells, List.getElem?_eq_getElem hj]
theorem Buf.below {B C : Nat} {w w' : World} {v : Value} {bs : List UInt8} (h : Buf B w v bs) (hb : Below C w w') (hC : w.heap.size ≤ C) : Buf B w' v bs := by
  obtain ⟨g, cap, rfl, h1, h2, h3, h4, h5⟩ := h
  have e1 := hb.block g (by omega)
  refine ⟨g, cap, rfl, h1, by have := hb.size; omega, h3, fun j hj => ?_, fun j hj => ?_⟩
  · rw [World.cell?_of_block (a := ⟨g, j, none⟩) e1]; exact h4 j hj
  · rw [World.cell?_of_block (a := ⟨g, j, none⟩) e1, World.frozen?_of_block (a := ⟨g, j, none⟩) e1]; exact h5 j hj
theorem Buf.slice {B : Nat} {w : World} {v : Value} {bs : List UInt8} (h : Buf B w v bs) : ∃ g cap, v = .slice (some ⟨g, 0, none⟩) bs.length cap := by
  obtain ⟨g, cap, rfl, _⟩ := h; exact ⟨_, _, rfl⟩
end Go.Proofs.Ytkcmcgmonkeajaa
