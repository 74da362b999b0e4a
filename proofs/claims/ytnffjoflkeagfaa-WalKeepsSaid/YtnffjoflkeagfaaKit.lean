/- A disk in memory: its block, its map, its files' bytes; whose block is whose. -/
import Derived.Test.YtnffjoflkeagfaaChecked
import Derived.Test.YtnffjoflkeagfaaSt
import Derived.WalkKit
import Derived.WalkSpells
import Derived.WalkLawsBesides
import Derived.IntWalk
import Derived.Laws.IdiomStrings
import Derived.OwnWalk
import Derived.Below
import Derived.Outline
import Derived.Lib.OthersKept
import Derived.Lib.ConvBytes
import Derived.Lib.VarintMem
import Derived.Lib.LazyBuf
import Derived.Deep.AppendSrc
import Derived.Deep.MidRow
import Derived.Deep.QuietTactic
import Derived.BigQuiet
import Derived.Lib.Strings
import Derived.RegionTactic
import Derived.Maps.OwnSet
import Derived.Maps.Ext
import Derived.Sort.KeysCollected
import Derived.KernelRfl
import Derived.Lib.Hide
namespace Go.Proofs.Ytnffjoflkeagfaa
open Go.RowKit Go.Maps

theorem ret_int {k : IntKind} {a b : Int} (h : a = b) : Ending.returned (.int k a) = .returned (.int k b) := by rw [h]
theorem ret_bool {a b : Bool} (h : a = b) : Ending.returned (.bool a) = .returned (.bool b) := by rw [h]
theorem add_zero_off (g j : Nat) : (⟨g, 0, none⟩ : Addr).add j = ⟨g, j, none⟩ := by unfold Addr.add; split <;> simp_all
/-- the bytes of a text -/
abbrev bs (s : ByteArray) : List UInt8 := s.data.toList
theorem bs_len (s : ByteArray) : (bs s).length = s.size := (Lib.size_eq s).symm
abbrev mk (l : List UInt8) : ByteArray := ⟨l.toArray⟩
theorem bs_mk (l : List UInt8) : bs (mk l) = l := by simp
theorem mk_bs (s : ByteArray) : mk (bs s) = s := by cases s; rfl
theorem mk_size (l : List UInt8) : (mk l).size = l.length := by rw [Lib.size_eq]
theorem ba_ext {a b : ByteArray} (h : bs a = bs b) : a = b := by rw [← mk_bs a, ← mk_bs b, h]

/-- nothing but blocks of S, and new ones, has changed -/
structure Kept (S : Nat → Prop) (w w' : World) : Prop where
  os : w'.os = w.os
  tape : w'.tape = w.tape
  output : w'.output = w.output
  size : w.heap.size ≤ w'.heap.size
  block : ∀ k, k < w.heap.size → ¬ S k → w'.heap[k]? = w.heap[k]?
theorem Kept.refl (S : Nat → Prop) (w : World) : Kept S w w := ⟨rfl, rfl, rfl, Nat.le_refl _, fun _ _ _ => rfl⟩
theorem Kept.trans {S : Nat → Prop} {a b c : World} (h : Kept S a b) (k : Kept S b c) : Kept S a c :=
  ⟨k.os.trans h.os, k.tape.trans h.tape, k.output.trans h.output, Nat.le_trans h.size k.size, fun i hi hs => (k.block i (Nat.lt_of_lt_of_le hi h.size) hs).trans (h.block i hi hs)⟩
theorem Kept.of_below {S : Nat → Prop} {a b : World} (h : Below a.heap.size a b) : Kept S a b := ⟨h.os, h.tape, h.output, h.size, fun i hi _ => h.block i hi⟩
theorem Kept.of_but {S : Nat → Prop} {a b : World} {p : Nat} (h : a.grownBy b (some p)) (hp : S p) : Kept S a b :=
  ⟨h.os, h.tape, h.output, h.size, fun i hi hs => h.block i hi (fun e => hs (by cases e; exact hp))⟩
theorem Kept.below {S : Nat → Prop} {a b : World} (h : Kept S a b) {B : Nat} (hB : B ≤ a.heap.size) (hS : ∀ k, S k → B ≤ k) : Below B a b :=
  ⟨h.os, h.tape, h.output, h.size, fun k hk => h.block k (by omega) (fun hs => by have := hS k hs; omega)⟩
theorem Kept.mono {S S' : Nat → Prop} {a b : World} (h : Kept S a b) (hS : ∀ k, k < a.heap.size → S k → S' k) : Kept S' a b :=
  ⟨h.os, h.tape, h.output, h.size, fun k hk hs => h.block k hk (fun h' => hs (hS k hk h'))⟩
theorem Kept.drewN {S : Nat → Prop} {a w : World} (h : Kept S a w) : ∀ q, Kept S a (w.drewN q)
  | 0 => h
  | q + 1 => by
    have := h.drewN q
    exact ⟨this.os, this.tape, this.output, this.size, this.block⟩
theorem Kept.set {S : Nat → Prop} {a w : World} (h : Kept S a w) {p : Addr} (hp : S p.block ∨ a.heap.size ≤ p.block) (u : Value) : Kept S a (w.setCell p u) :=
  ⟨h.os, h.tape, h.output, by simp [World.setCell]; exact h.size, fun k hk hs => (Below.heap_setCell _ _ _ _ (fun e => by subst e; rcases hp with hp | hp; exact hs hp; omega)).trans (h.block k hk hs)⟩
theorem Kept.alloc {S : Nat → Prop} {a w : World} (h : Kept S a w) (o : Obj) : Kept S a (w.alloc o) :=
  h.trans (Kept.of_below ((Below.refl _ _).alloc (Nat.le_refl _) o))
theorem bw {a b c : World} (h : Below a.heap.size a b) (k : Below b.heap.size b c) : Below a.heap.size a c := h.trans (k.mono h.size)
theorem below_drewN {B : Nat} {a w : World} (h : Below B a w) : ∀ q, Below B a (w.drewN q)
  | 0 => h
  | q + 1 => by
    have := below_drewN h q
    exact ⟨this.os, this.tape, this.output, this.size, this.block⟩
theorem heap_drewN (w : World) : ∀ q, (w.drewN q).heap = w.heap
  | 0 => rfl
  | q + 1 => by
    have := heap_drewN w q
    exact this

/-- whose block it is -/
inductive Own where
  | no
  | disk
  | map
  | file (k : List UInt8)

/-- v is a slice of the bytes l, in a block of k's, if there are any -/
def Bf (own : Nat → Own) (k : List UInt8) (w : World) (v : Value) (l : List UInt8) : Prop :=
  (v = .slice none 0 0 ∧ l = []) ∨ ∃ g cap, v = .slice (some ⟨g, 0, none⟩) l.length cap ∧ own g = .file k ∧ g < w.heap.size ∧ l.length ≤ cap ∧
    (∀ j, j < l.length → w.cell? ⟨g, j, none⟩ = (Lib.byteCells l)[j]?) ∧
    (∀ j, j < cap → (w.cell? ⟨g, j, none⟩).isSome = true ∧ w.frozen? ⟨g, j, none⟩ = false)
theorem Bf.nil (own : Nat → Own) (k : List UInt8) (w : World) : Bf own k w (.slice none 0 0) [] := .inl ⟨rfl, rfl⟩
theorem Bf.kept {own own' : Nat → Own} {k : List UInt8} {w w' : World} {v : Value} {l : List UInt8} (h : Bf own k w v l) (hs : w.heap.size ≤ w'.heap.size)
    (hb : ∀ g, own g = .file k → g < w.heap.size → w'.heap[g]? = w.heap[g]? ∧ own' g = .file k) : Bf own' k w' v l := by
  rcases h with h | ⟨g, cap, rfl, h1, h2, h3, h4, h5⟩
  · exact .inl h
  · obtain ⟨e1, e2⟩ := hb g h1 h2
    refine .inr ⟨g, cap, rfl, e2, by omega, h3, fun j hj => ?_, fun j hj => ?_⟩
    · rw [World.cell?_of_block (a := ⟨g, j, none⟩) e1]; exact h4 j hj
    · rw [World.cell?_of_block (a := ⟨g, j, none⟩) e1, World.frozen?_of_block (a := ⟨g, j, none⟩) e1]; exact h5 j hj
theorem Bf.slice {own : Nat → Own} {k : List UInt8} {w : World} {v : Value} {l : List UInt8} (h : Bf own k w v l) : ∃ a cap, v = .slice a l.length cap := by
  rcases h with ⟨rfl, rfl⟩ | ⟨g, cap, rfl, _⟩
  · exact ⟨_, _, rfl⟩
  · exact ⟨_, _, rfl⟩
/-- its first bytes -/
theorem Bf.take {own : Nat → Own} {k : List UInt8} {w : World} {v : Value} {l : List UInt8} (h : Bf own k w v l) {a : Option Addr} {n c : Nat} (e : v = .slice a n c) (m : Nat) (hm : m ≤ l.length) : Bf own k w (.slice a m c) (l.take m) := by
  subst e
  rcases h with ⟨e, rfl⟩ | ⟨g, cap, e, h1, h2, h3, h4, h5⟩
  · cases e
    have : m = 0 := by simpa using hm
    subst this
    exact .inl ⟨rfl, rfl⟩
  · cases e
    refine .inr ⟨g, c, by rw [List.length_take, Nat.min_eq_left hm], h1, h2, by rw [List.length_take]; omega, fun j hj => ?_, h5⟩
    rw [List.length_take] at hj
    rw [h4 j (by omega)]
    simp [Lib.byteCells, show j < m by omega]
/-- .. as a text -/
theorem Bf.text {P : Program} {own : Nat → Own} {k : List UInt8} {w : World} {v : Value} {l : List UInt8} (h : Bf own k w v l) (src dst e : TypeId) (hs : P.underlying src = some (.slice e)) (he : P.underlying e = some (.int .u8)) (hd : P.underlying dst = some .string) :
    (convert src dst v).run P w = .ok (.string (mk l)) w := by
  rcases h with ⟨rfl, rfl⟩ | ⟨g, cap, rfl, h1, h2, h3, h4, h5⟩
  · simp [convert, run_underlying hs, run_underlying he, run_underlying hd]
    simp [Conv.bytesToString]
    try rfl
  · refine run_convert_bytes_back w src dst e _ cap l hs he hd (fun j hj => ?_)
    rw [add_zero_off, h4 j hj]
    simp [Lib.byteCells, List.getElem?_eq_getElem hj]

/-- the own blocks, and one more -/
def own1 (own : Nat → Own) (g : Nat) (o : Own) : Nat → Own := fun k => if k = g then o else own k
theorem own1_same (own : Nat → Own) (g : Nat) (o : Own) : own1 own g o g = o := by simp [own1]
theorem own1_other (own : Nat → Own) (g : Nat) (o : Own) {k : Nat} (h : k ≠ g) : own1 own g o k = own k := by simp [own1, h]

/-- nothing but this block, and only behind its first n cells -/
def Behind (g n : Nat) (w w' : World) : Prop :=
  w'.os = w.os ∧ w'.tape = w.tape ∧ w'.output = w.output ∧ w.heap.size ≤ w'.heap.size ∧ (∀ k, k < w.heap.size → k ≠ g → w'.heap[k]? = w.heap[k]?) ∧
    (∀ j, j < n → w'.cell? ⟨g, j, none⟩ = w.cell? ⟨g, j, none⟩) ∧ (∀ j, (w.cell? ⟨g, j, none⟩).isSome = true → (w'.cell? ⟨g, j, none⟩).isSome = true ∧ w'.frozen? ⟨g, j, none⟩ = w.frozen? ⟨g, j, none⟩)
theorem heap_setCells (g : Nat) : ∀ (vs : List Value) (o : Nat) (w : World) (k : Nat), k ≠ g → (w.setCells g o vs).heap[k]? = w.heap[k]?
  | [], _, _, _, _ => rfl
  | v :: r, o, w, k, h => by
    rw [World.setCells, heap_setCells g r (o + 1) _ k h, Below.heap_setCell _ _ _ _ h]
theorem size_setCells (g : Nat) : ∀ (vs : List Value) (o : Nat) (w : World), (w.setCells g o vs).heap.size = w.heap.size
  | [], _, _ => rfl
  | v :: r, o, w => by
    rw [World.setCells, size_setCells g r (o + 1) _]; simp [World.setCell]
/-- more bytes behind them: in place, or anew -/
theorem run_append_bf {P : Program} (t tx ty e : TypeId) (i : TypeInfo) (ht : P.underlying t = some (.slice e)) (htx : P.underlying tx = some .string) (hi : P.info? e = some i) (hz : i.zero = some (.int .u8 0)) (hs1 : i.size = 1) (hby : i.bytes = 1)
    {own : Nat → Own} {k : List UInt8} {w : World} {v : Value} {l : List UInt8} (h : Bf own k w v l) (x : ByteArray) (hlim : l.length + x.size ≤ 140737488355328) :
    ∃ v' w', (Builtin.append_ #[t, tx] ty #[v, .string x]).run P w = .ok v' w' ∧
      ((Below w.heap.size w w' ∧ w.heap.size < w'.heap.size ∧ Bf (own1 own w.heap.size (.file k)) k w' v' (l ++ bs x)) ∨
       (w' = w ∧ Bf own k w' v' (l ++ bs x)) ∨
       (∃ g, own g = .file k ∧ Behind g l.length w w' ∧ w'.heap.size = w.heap.size ∧ Bf own k w' v' (l ++ bs x) ∧ ∃ cap, v = .slice (some ⟨g, 0, none⟩) l.length cap)) := by
  have hl : (Lib.byteCells (bs x)).length = x.size := by rw [Lib.byteCells_length, bs_len]
  have hlb : (Lib.byteCells l).length = l.length := Lib.byteCells_length _
  have hsrc : Src P i.size tx (.string x) x.size (Lib.byteCells (bs x)) w := by rw [hs1]; have := Src.ofString (P := P) w htx x; exact this
  have grow : ∀ (a : Option Addr) (cap : Nat), v = .slice a l.length cap → cap < l.length + x.size →
      (∀ j u, (Lib.byteCells l)[j]? = some u → ∃ b, a = some b ∧ w.cell? (b.add j) = some u) → (Builtin.firstCells i.size l.length (.slice a l.length cap)).run P w.drew = .ok (Lib.byteCells l).toArray w.drew →
      ∃ v' w', (Builtin.append_ #[t, tx] ty #[v, .string x]).run P w = .ok v' w' ∧ (Below w.heap.size w w' ∧ w.heap.size < w'.heap.size ∧ Bf (own1 own w.heap.size (.file k)) k w' v' (l ++ bs x)) := by
    intro a cap e hlt _ hold
    subst e
    have hrun := run_append_grow_src (P := P) w t tx ty e i _ ht hi hz a l.length cap (Lib.byteCells l) hold (.string x) x.size (Lib.byteCells (bs x)) hsrc hlt (by omega)
      (growslice_fits (by omega) (by rw [hby]; omega))
    have hge := grownCap_ge w (l.length + x.size) cap e
    have hL : (Lib.byteCells l ++ Lib.byteCells (bs x)).length = l.length + x.size := by rw [List.length_append, hl, hlb]
    refine ⟨_, _, hrun, ⟨rfl, rfl, rfl, by simp, fun k hk => Below.heap_alloc w.drew _ k (by simp; omega)⟩, by simp, .inr ⟨w.heap.size, _, by rw [List.length_append, bs_len], own1_same _ _ _, by simp, by rw [List.length_append, bs_len]; exact hge, fun j hj => ?_, fun j hj => ?_⟩⟩
    · have e1 := World.cell?_alloc_new w.drew ((Lib.byteCells l ++ Lib.byteCells (bs x)).toArray ++ Builtin.zeroCells (Value.int .u8 0).cells (grownCap w (l.length + x.size) cap e - (l.length + x.size))) e j
      rw [List.length_append, bs_len] at hj
      rw [Lib.byteCells_append]
      refine Eq.trans e1 ?_
      rw [Array.getElem?_append_left (by simp only [List.size_toArray]; omega), List.getElem?_toArray]
    · have e1 := World.cell?_alloc_new w.drew ((Lib.byteCells l ++ Lib.byteCells (bs x)).toArray ++ Builtin.zeroCells (Value.int .u8 0).cells (grownCap w (l.length + x.size) cap e - (l.length + x.size))) e j
      refine ⟨?_, World.frozen?_alloc_at _ _ _ _ rfl⟩
      refine Eq.trans (congrArg Option.isSome e1) ?_
      have hzs : (Builtin.zeroCells (Value.int .u8 0).cells (grownCap w (l.length + x.size) cap e - (l.length + x.size))).size = grownCap w (l.length + x.size) cap e - (l.length + x.size) := by
        rw [size_zeroCells]; show _ * 1 = _; omega
      rw [Array.getElem?_eq_getElem (by simp only [Array.size_append, List.size_toArray, hzs, hL]; omega)]
      rfl
  rcases h with ⟨rfl, rfl⟩ | ⟨g, cap, rfl, h1, h2, h3, h4, h5⟩
  · by_cases h0 : x.size = 0
    · have hx : bs x = [] := List.eq_nil_of_length_eq_zero (by rw [bs_len]; exact h0)
      refine ⟨.slice none 0 0, w, ?_, .inr (.inl ⟨rfl, by rw [hx]; exact Bf.nil _ _ _⟩)⟩
      have hc := hsrc.cells
      rw [h0] at hc
      simp [Builtin.append_, run_underlying ht, run_underlying htx, sizeOf, typeInfo, hi, hsrc.len, h0, hc, Result.andThen]
    · obtain ⟨v', w', r, a⟩ := grow none 0 rfl (by simp; omega) (fun j u hu => by simp [Lib.byteCells] at hu) (by rw [run_firstCells_none]; simp [Lib.byteCells])
      exact ⟨v', w', r, .inl a⟩
  · by_cases hr : l.length + x.size ≤ cap
    · have hrun := run_append_room_src (P := P) w t tx ty e i ht hi g 0 l.length cap (.string x) x.size (Lib.byteCells (bs x)) hsrc hr
        (fun j hj => by rw [hs1, Nat.zero_add, Nat.mul_one]; exact (h5 _ (by omega)).1) (fun j hj => by rw [hs1, Nat.zero_add, Nat.mul_one]; exact (h5 _ (by omega)).2)
      rw [hs1, Nat.zero_add, Nat.mul_one] at hrun
      have hkb := World.keptBut_setCells g (may := fun _ => True) (Lib.byteCells (bs x)) l.length w (fun _ _ => trivial)
      have hbl := below_setCells (Nat.le_refl g) (Lib.byteCells (bs x)) l.length w (Below.refl _ _)
      refine ⟨_, _, hrun, .inr (.inr ⟨g, h1, ⟨hbl.os, hbl.tape, hbl.output, hbl.size, ?_, fun j hj => World.cell?_setCells_out g _ _ _ _ (fun _ _ => .inl hj), fun j hj => ⟨World.isSome_setCells g _ _ _ _ hj, World.frozen?_setCells _ _ _ _ _⟩⟩, ?_, .inr ⟨g, cap, by rw [List.length_append, bs_len], h1, ?_, by rw [List.length_append, bs_len]; omega, fun j hj => ?_, fun j hj => ?_⟩, ⟨cap, rfl⟩⟩)⟩
      · exact fun k _ hk => heap_setCells g _ _ _ k hk
      · exact size_setCells g _ _ _
      · have := hbl.size; omega
      · rw [Lib.byteCells_append]
        by_cases hj2 : j < l.length
        · rw [World.cell?_setCells_out g _ _ _ _ (fun _ _ => .inl hj2), List.getElem?_append_left (by omega)]
          exact h4 j hj2
        · rw [List.length_append, bs_len] at hj
          have hin := World.cell?_setCells_in g (Lib.byteCells (bs x)) l.length w (fun k hk => (h5 _ (by omega)).1) (j - l.length) (by omega)
          rw [show l.length + (j - l.length) = j by omega] at hin
          rw [hin, List.getElem?_append_right (by omega), hlb, List.getElem?_eq_getElem]
      · exact ⟨World.isSome_setCells g _ _ _ _ (h5 j hj).1, by rw [World.frozen?_setCells]; exact (h5 j hj).2⟩
    · have hold : (Builtin.firstCells i.size l.length (.slice (some ⟨g, 0, none⟩) l.length cap)).run P w.drew = .ok (Lib.byteCells l).toArray w.drew := by
        refine run_firstCells_some w.drew i.size l.length _ l.length cap _ (by rw [hlb, hs1, Nat.mul_one]) (fun j u hu => ?_)
        rw [add_zero_off]
        have hj : j < l.length := by have := (List.getElem?_eq_some_iff.1 hu).1; omega
        have := h4 j hj
        rw [hu] at this
        simpa using this
      obtain ⟨v', w', r, a⟩ := grow (some ⟨g, 0, none⟩) cap rfl (by omega) (fun j u hu => ⟨_, rfl, by
        rw [add_zero_off, h4 j (by have := (List.getElem?_eq_some_iff.1 hu).1; omega)]; exact hu⟩) hold
      exact ⟨v', w', r, .inl a⟩
end Go.Proofs.Ytnffjoflkeagfaa
