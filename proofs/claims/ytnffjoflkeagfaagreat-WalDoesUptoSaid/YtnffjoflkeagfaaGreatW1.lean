/- What every law of this layer needs of its row: the witness's world; arguments read. Lists of texts among the arguments. Acts among the arguments, and how much their texts are. Printed by genwitu.py. -/
import Derived.Test.YtnffjoflkeagfaaGreatD6
import Derived.Test.YtnffjoflkeagfaaGreatRows
import Derived.Deep.DeepHandedRow
import Derived.Deep.DeepWitnessRowRef
import Derived.ProofKit
import Derived.OpenShut
import Derived.SizedLaws
import Derived.SliceStrings
import Derived.Carry
import Derived.Test.YtnffjoflkeagfaaGreatJ3
import Derived.Deep.Slices
namespace Go.Proofs.YtnffjoflkeagfaaGreat
open Go.ChangeShapes Go.WideShapes Go.ChangeAt Go.RowKit
open Go.ChangeMaps (open_string shut_string)

theorem own : ownKnob Tryz.prog.godebug = none := by kernel_rfl
theorem laidOut : laidOutB Tryz.prog = true := by kernel_rfl
noncomputable def laidWorld (os : Os) : World := World.holding Tryz.prog os ⟨#[], #[], []⟩
theorem laid_met (w : World) : laidMet Tryz.prog [] w := ⟨[], by first | trivial | rfl, List.nodup_nil, fun _ _ h => by cases h⟩
section
variable {H : Type} {enc : TypeId × Value → H} {W : World}
theorem read_cells {α : Type} (c : α → Value) (d : α) (xs : List α) (a : Addr) (len cap : Nat) (hx : xs.length = cap) (hl : len ≤ cap) (hc : ∀ i, i < xs.length → W.cell? (a.add i) = some (c (xs.getD i d))) :
    ListOff (From W.heap.size) W (.slice (some a) len cap) (xs.take len).length (cellsOf c (xs.take len)) := by
  have hlen : (xs.take len).length = len := by rw [List.length_take]; omega
  rw [hlen]
  refine ⟨by simp [cellsOf]; omega, _, _, rfl, hl, ?_⟩
  by_cases h0 : len = 0
  · exact .inl h0
  · right
    obtain ⟨b, off, spot⟩ := a
    have hspot : spot = none := by simpa [Addr.add] using World.cell?_spot (hc 0 (by omega))
    subst hspot
    have hc' : ∀ j, j < xs.length → W.cell? ⟨b, off + j, none⟩ = some (c (xs.getD j d)) := fun j hj => by
      have := hc j hj
      unfold Addr.add at this
      by_cases h : j = 0
      · subst h; simpa using this
      · simpa [h] using this
    have hlt : b < W.heap.size := by simpa using World.block_lt_of_cell? W _ (hc' 0 (by omega))
    refine ⟨b, off, rfl, hlt, fun (h : W.heap.size ≤ b) => by omega, fun j u hu => ?_⟩
    have hj : j < len := by
      have := (List.getElem?_eq_some_iff.1 hu).1; simp [cellsOf] at this; omega
    rw [hc' j (by omega)]
    simp only [cellsOf, List.getElem?_map, List.getElem?_take, hj, if_true] at hu
    rw [List.getElem?_eq_getElem (by omega)] at hu
    simp at hu
    rw [← hu]; simp [List.getD, show j < xs.length by omega]
theorem read_strings {t e : TypeId} {va : Option Addr} {len cap : Nat} {d : DataW H} {ps : List MemPlace} (ht : Tryz.prog.underlying t = some (.slice e)) (he : Tryz.prog.underlying e = some .string) (hce : Tryz.prog.cellsOf e = 1)
    (h : DataW.Trod enc Tryz.prog W 0 (fun _ => true) true t (.slice va len cap) d ps) :
    ∃ l : List ByteArray, ListOff (From W.heap.size) W (.slice va len cap) l.length (cellsOf strC l) ∧ l.length ≤ 9223372036854775807 ∧ ∀ c ∈ l, c.size ≤ 9223372036854775807 := by
  obtain ⟨fuel, hf⟩ := h
  rcases open_strings ht he hce hf with ⟨hcs, hx⟩ | ⟨a, len', cap', zs, hcs, _, hl, hm, hz, hx, hcell, hwz⟩
  · simp [Value.cells] at hcs
    obtain ⟨rfl, rfl, rfl⟩ := hcs
    exact ⟨[], ⟨rfl, _, _, rfl, Nat.le_refl _, .inl rfl⟩, by simp, by simp⟩
  · simp [Value.cells] at hcs
    obtain ⟨rfl, rfl, rfl⟩ := hcs
    simp only [if_true] at hz
    refine ⟨zs.take len, read_cells strC ByteArray.empty zs a len cap hz hl hcell, ?_, fun c hc => ?_⟩
    · rw [List.length_take]; unfold maxLen at hm; omega
    · have := hwz c (List.mem_of_mem_take hc); unfold maxLen at this; omega
theorem read_str {va : Option Addr} {len cap : Nat} {d : DataW H} {ps : List MemPlace} (h : DataW.Trod enc Tryz.prog W 0 (fun _ => true) true 35 (.slice va len cap) d ps) :
    ∃ l : List ByteArray, ListOff (From W.heap.size) W (.slice va len cap) l.length (cellsOf strC l) ∧ l.length ≤ 9223372036854775807 ∧ ∀ c ∈ l, c.size ≤ 9223372036854775807 :=
  read_strings Tryz.underlying35 Tryz.underlying9 (by kernel_rfl) h
theorem read_ints {t e : TypeId} {k : IntKind} {va : Option Addr} {len cap : Nat} {d : DataW H} {ps : List MemPlace} (ht : Tryz.prog.underlying t = some (.slice e)) (he : Tryz.prog.underlying e = some (.int k)) (hce : Tryz.prog.cellsOf e = 1)
    (h : DataW.Trod enc Tryz.prog W 0 (fun _ => true) true t (.slice va len cap) d ps) :
    ∃ l : List Int, ListOff (From W.heap.size) W (.slice va len cap) l.length (cellsOf (Value.int k) l) ∧ l.length ≤ 9223372036854775807 ∧ ∀ c ∈ l, (Lit.int k c).wf = true := by
  obtain ⟨fuel, hf⟩ := h
  rcases open_ints ht he hce hf with ⟨hcs, hx⟩ | ⟨a, len', cap', zs, hcs, _, hl, hm, hz, hx, hcell, hwz⟩
  · simp [Value.cells] at hcs
    obtain ⟨rfl, rfl, rfl⟩ := hcs
    exact ⟨[], ⟨rfl, _, _, rfl, Nat.le_refl _, .inl rfl⟩, by simp, by simp⟩
  · simp [Value.cells] at hcs
    obtain ⟨rfl, rfl, rfl⟩ := hcs
    simp only [if_true] at hz
    refine ⟨zs.take len, read_cells (Value.int k) 0 zs a len cap hz hl hcell, ?_, fun c hc => hwz c (List.mem_of_mem_take hc)⟩
    rw [List.length_take]; unfold maxLen at hm; omega
end
end Go.Proofs.YtnffjoflkeagfaaGreat
namespace Go.Proofs.YtnffjoflkeagfaaGreat
open Go.ChangeShapes Go.WideShapes Go.ChangeAt Go.RowKit
open Go.ChangeMaps (open_string shut_string)

section
variable {H : Type} {enc : TypeId × Value → H} {W : World}
theorem read_txt {va : Option Addr} {len cap : Nat} {d : DataW H} {ps : List MemPlace} (h : DataW.Trod enc Tryz.prog W 0 (fun _ => true) true 35 (.slice va len cap) d ps) :
    ∃ l : Recs, TxtOff (From W.heap.size) W (.slice va len cap) l ∧ l.length ≤ 9223372036854775807 ∧ ∀ c ∈ l, c.size ≤ 9223372036854775807 := by
  obtain ⟨fuel, hf⟩ := h
  rcases open_strings Tryz.underlying35 Tryz.underlying9 (by kernel_rfl) hf with ⟨hcs, hx⟩ | ⟨a, len', cap', zs, hcs, _, hl, hm, hz, hx, hcell, hwz⟩
  · simp [Value.cells] at hcs
    obtain ⟨rfl, rfl, rfl⟩ := hcs
    exact ⟨[], ⟨⟨rfl, _, _, rfl, Nat.le_refl _, .inl rfl⟩, fun n c e => by cases e; exact ⟨rfl, rfl⟩⟩, by simp, by simp⟩
  · simp [Value.cells] at hcs
    obtain ⟨rfl, rfl, rfl⟩ := hcs
    simp only [if_true] at hz
    refine ⟨zs.take len, ⟨read_cells strC ByteArray.empty zs a len cap hz hl hcell, fun n c e => by cases e⟩, ?_, fun c hc => ?_⟩
    · rw [List.length_take]; unfold maxLen at hm; omega
    · have := hwz c (List.mem_of_mem_take hc); unfold maxLen at this; omega
end
end Go.Proofs.YtnffjoflkeagfaaGreat
namespace Go.Proofs.YtnffjoflkeagfaaGreat
open Go.ChangeShapes Go.WideShapes Go.ChangeAt Go.RowKit
open Go.ChangeMaps (open_string shut_string)
open Go.Deep (open_slice choose_lt)

instance : Inhabited Act5 := ⟨⟨0, .slice none 0 0, [], 0, .slice none 0 0, [], ⟨#[]⟩⟩⟩
theorem bulk_part {H : Type} {d : DataW H} : ∀ {l : List (DataW H)}, d ∈ l → Rows.uptoBulk d ≤ Rows.uptoBulkAll l
  | x :: r, h => by
    simp only [Rows.uptoBulkAll]
    rcases List.mem_cons.1 h with e | e
    · subst e; omega
    · have := bulk_part e; omega
section
variable {H : Type} {enc : TypeId × Value → H} {W : World}
theorem mem_all {P : Program} {e : TypeId} : ∀ {l : List (DataW H)} {d : DataW H}, d ∈ l → ∀ n ∈ d.weights P e, n ∈ DataW.weightsAll P e l
  | x :: r, d, h, n, hn => by
    simp only [DataW.weightsAll, List.mem_append]
    rcases List.mem_cons.1 h with rfl | h
    · exact .inl hn
    · exact .inr (mem_all h n hn)
theorem len5 {α : Type} : ∀ {l : List α}, l.length = 5 → ∃ a b c d e, l = [a, b, c, d, e]
  | [a, b, c, d, e], _ => ⟨a, b, c, d, e, rfl⟩
theorem read_acts5u {va : Option Addr} {len cap : Nat} {d : DataW H} {ps : List MemPlace} (h : DataW.Trod enc Tryz.prog W 0 (fun _ => true) true 22 (.slice va len cap) d ps)
    (hz : ∀ n ∈ d.weights Tryz.prog 22, n ≤ reachBytes) :
    ∃ l : List Act5, len = l.length ∧ Acts5Off (From W.heap.size) W (.slice va len cap) l ∧ l.length ≤ 9223372036854775807 ∧
      ∀ x ∈ l, x.k < 256 ∧ -9223372036854775808 ≤ x.n ∧ x.n ≤ 9223372036854775807 ∧ x.keep.length ≤ 140737488355328 ∧ x.l.length ≤ 9223372036854775807 ∧ x.b.size ≤ 140737488355328 ∧ (∀ c ∈ x.l, c.size ≤ 9223372036854775807) ∧ x.b.size ≤ Rows.uptoBulk d := by
  have hrb := reachBytes_lt
  obtain ⟨fuel, hf⟩ := h
  rcases open_slice Tryz.underlying22 hf with ⟨hcs, hx⟩ | ⟨a, len', cap', m, n, D, Pl, hcs, _, hl, hm, hmm, hx, hel⟩
  · simp [Value.cells] at hcs
    obtain ⟨rfl, rfl, rfl⟩ := hcs
    exact ⟨[], rfl, ⟨none, 0, rfl, Nat.le_refl _, .inl rfl⟩, by simp, by simp⟩
  · simp [Value.cells] at hcs
    obtain ⟨rfl, rfl, rfl⟩ := hcs
    have hce : Tryz.prog.cellsOf 38 = 5 := by kernel_rfl
    rw [hce] at hel
    simp only [if_true] at hmm
    rw [hmm] at hel hx
    clear hmm
    have hxd : d = .slice ((List.range len).map D) ((List.range (cap - len)).map fun j => D (len + j)) := congrArg Prod.fst hx
    have each : ∀ i, i < len → ∃ x : Act5, (W.cell? (a.add (i * 5)) = some (.int .u8 (x.k : Int)) ∧ W.cell? (a.add (i * 5 + 1)) = some x.lv ∧ W.cell? (a.add (i * 5 + 2)) = some (.int .i64 x.n) ∧
        W.cell? (a.add (i * 5 + 3)) = some x.kv ∧ W.cell? (a.add (i * 5 + 4)) = some (.string x.b) ∧ TxtOff (From W.heap.size) W x.lv x.l ∧ ListOff (From W.heap.size) W x.kv x.keep.length (x.keep.map (fun z => Value.int .i64 z))) ∧
        (x.k < 256 ∧ -9223372036854775808 ≤ x.n ∧ x.n ≤ 9223372036854775807 ∧ x.keep.length ≤ 140737488355328 ∧ x.l.length ≤ 9223372036854775807 ∧ x.b.size ≤ 140737488355328 ∧ (∀ c ∈ x.l, c.size ≤ 9223372036854775807) ∧ x.b.size ≤ Rows.uptoBulk d) := by
      intro i hi
      obtain ⟨cs, hcs, ht⟩ := hel i (by omega)
      obtain ⟨_, hlen, hcell⟩ := World.cells?_some hcs
      obtain ⟨xs, k, _, hD, _, hxl, hfld⟩ := DataW.trod_struct Tryz.underlying38 ht
      have hDi : D i = .agg (xs.map (·.1)) := congrArg Prod.fst hD
      have hw : ∀ q ∈ (D i).weights Tryz.prog 38, q ≤ reachBytes := fun q hq => by
        refine hz q ?_
        rw [hxd]
        simp only [DataW.weights, Tryz.underlying22, List.mem_cons, List.mem_append]
        exact .inr (.inl (mem_all (d := D i) (List.mem_map.2 ⟨i, List.mem_range.2 hi, rfl⟩) q hq))
      obtain ⟨y0, y1, y2, y3, y4, rfl⟩ := len5 (l := xs) hxl
      obtain ⟨v0, v1, v2, v3, v4, rfl⟩ := len5 hlen
      · skip
        have e5 : Tryz.prog.cellsOf 5 = 1 := by kernel_rfl
        have e9 : Tryz.prog.cellsOf 9 = 1 := by kernel_rfl
        have e3 : Tryz.prog.cellsOf 3 = 1 := by kernel_rfl
        have e30 : Tryz.prog.cellsOf 36 = 1 := by kernel_rfl
        have e41 : Tryz.prog.cellsOf 35 = 1 := by kernel_rfl
        have g0 : DataW.trod enc Tryz.prog W 0 (fun _ => true) true k 5 [v0] = some y0 := by simpa [e5] using hfld 0 _ rfl
        have g1 : DataW.trod enc Tryz.prog W 0 (fun _ => true) true k 35 [v1] = some y1 := by simpa [e41] using hfld 1 _ rfl
        have g2 : DataW.trod enc Tryz.prog W 0 (fun _ => true) true k 3 [v2] = some y2 := by simpa [e3] using hfld 2 _ rfl
        have g3 : DataW.trod enc Tryz.prog W 0 (fun _ => true) true k 36 [v3] = some y3 := by simpa [e30] using hfld 3 _ rfl
        have g4 : DataW.trod enc Tryz.prog W 0 (fun _ => true) true k 9 [v4] = some y4 := by simpa [e9] using hfld 4 _ rfl
        have hc : ∀ j, j < 5 → W.cell? (a.add (i * 5 + j)) = [v0, v1, v2, v3, v4][j]? := fun j hj => by rw [← Go.Deep.add_add]; exact hcell j hj
        obtain ⟨z0, h0, hx0, w0⟩ := DataW.trod_int Tryz.underlying5 g0
        obtain ⟨z2, h2, hx2, w2⟩ := DataW.trod_int Tryz.underlying3 g2
        obtain ⟨s4, h4, hx4, w4⟩ := DataW.trod_string Tryz.underlying9 g4
        simp only [List.cons.injEq, and_true] at h0 h2 h4
        subst h0 h2 h4
        have hwe : ∀ (j : Nat) t y, [5, 35, 3, 36, 9][j]? = some t → [y0.1, y1.1, y2.1, y3.1, y4.1][j]? = some y → ∀ q ∈ DataW.weights Tryz.prog t y, q ≤ reachBytes := by
          intro j t y ht hy q hq
          refine hw q ?_
          rw [hDi]
          have := DataW.weights_mem_each ht hy q hq
          simpa [DataW.weights, Tryz.underlying38] using this
        have b4 := hwe 4 9 y4.1 rfl rfl s4.data.toList.length (by rw [hx4]; simp [DataW.weights])
        have hub : s4.size ≤ Rows.uptoBulk d := by
          have h1 : D i ∈ (List.range len).map D := List.mem_map.2 ⟨i, List.mem_range.2 hi, rfl⟩
          have h2 := bulk_part h1
          have h3 : s4.size ≤ Rows.uptoBulk (D i) := by
            have h4 := Lib.size_eq s4
            rw [hDi]
            simp only [List.map_cons, List.map_nil, Rows.uptoBulk, Rows.uptoBulkAll]
            rw [hx4]
            simp only [Rows.uptoBulk]
            omega
          rw [hxd]
          simp only [Rows.uptoBulk]
          omega
        have n0 := bounds_u8 w0
        have n2 := bounds_i64 w2
        obtain ⟨vk, hvk, keep, hkl, hko⟩ : ∃ vk, v3 = vk ∧ ∃ keep : List Int, keep.length ≤ 140737488355328 ∧ ListOff (From W.heap.size) W vk keep.length (keep.map (fun z => Value.int .i64 z)) := by
          refine ⟨v3, rfl, ?_⟩
          rcases open_ints Tryz.underlying36 Tryz.underlying3 e3 g3 with ⟨e, _⟩ | ⟨ak, lk, ck, zs, e, _, hlk, hmk, hzk, hxk, hck, _⟩
          · simp only [List.cons.injEq, and_true] at e
            subst e
            exact ⟨[], by simp, ⟨rfl, none, 0, rfl, Nat.le_refl _, .inl rfl⟩⟩
          · simp only [List.cons.injEq, and_true] at e
            subst e
            simp only [if_true] at hzk
            refine ⟨zs.take lk, ?_, ?_⟩
            · have hb := hwe 3 36 y3.1 rfl rfl (zs.length * 8) (by
                rw [hxk]
                have e8 : Tryz.prog.bytesOf 3 = 8 := by kernel_rfl
                simp only [DataW.weights, Tryz.underlying36, e8, List.mem_cons]
                exact .inl (by simp [lits]; omega))
              rw [List.length_take]; omega
            · have := read_cells (W := W) (Value.int .i64) 0 zs ak lk ck hzk hlk hck
              have e : (zs.take lk).length = lk := by rw [List.length_take]; omega
              rw [e] at this ⊢
              exact this
        obtain ⟨vl, hvl, ll, hll, hlo, hls⟩ : ∃ vl, v1 = vl ∧ ∃ ll : Recs, ll.length ≤ 9223372036854775807 ∧ TxtOff (From W.heap.size) W vl ll ∧ ∀ c ∈ ll, c.size ≤ 9223372036854775807 := by
          refine ⟨v1, rfl, ?_⟩
          rcases open_strings Tryz.underlying35 Tryz.underlying9 e9 g1 with ⟨e, _⟩ | ⟨ak, lk, ck, zs, e, _, hlk, hmk, hzk, hxk, hck, hwz⟩
          · simp only [List.cons.injEq, and_true] at e
            subst e
            exact ⟨[], by simp, ⟨⟨rfl, none, 0, rfl, Nat.le_refl _, .inl rfl⟩, fun n c e => by cases e; exact ⟨rfl, rfl⟩⟩, by simp⟩
          · simp only [List.cons.injEq, and_true] at e
            subst e
            simp only [if_true] at hzk
            refine ⟨zs.take lk, ?_, ⟨?_, fun n c e => by cases e⟩, fun c hc => ?_⟩
            · rw [List.length_take]; unfold maxLen at hmk; omega
            · have := read_cells (W := W) strC ByteArray.empty zs ak lk ck hzk hlk hck
              have e : (zs.take lk).length = lk := by rw [List.length_take]; omega
              rw [e] at this ⊢
              exact this
            · have := hwz c (List.mem_of_mem_take hc); unfold maxLen at this; omega
        rw [← Lib.size_eq] at b4
        have k4 : s4.size ≤ 140737488355328 := by omega
        have k0 : z0.toNat < 256 := by omega
        refine ⟨⟨z0.toNat, vl, ll, z2, vk, keep, s4⟩, ⟨?_, ?_, ?_, ?_, ?_, hlo, hko⟩, k0, n2.1, n2.2, hkl, hll, k4, hls, hub⟩
        · have := hc 0 (by omega)
          rw [Nat.add_zero] at this
          rw [this]
          show some (Value.int .u8 z0) = some (Value.int .u8 ((z0.toNat : Nat) : Int))
          rw [Int.toNat_of_nonneg n0.1]
        · rw [hc 1 (by omega), ← hvl]; rfl
        · exact hc 2 (by omega)
        · rw [hc 3 (by omega), ← hvk]; rfl
        · exact hc 4 (by omega)
    obtain ⟨X, hX⟩ := choose_lt each
    refine ⟨(List.range len).map X, by simp, ?_, by simp; unfold maxLen at hm; omega, fun x hx => ?_⟩
    · refine ⟨some a, cap, by simp, by simp; exact hl, ?_⟩
      by_cases h0 : len = 0
      · left; subst h0; rfl
      · right
        obtain ⟨b, off, spot⟩ := a
        have hspot : spot = none := by simpa [Addr.add] using World.cell?_spot (hX 0 (by omega)).1.1
        subst hspot
        have hadd : ∀ j, (⟨b, off, none⟩ : Addr).add j = ⟨b, off + j, none⟩ := fun j => by
          unfold Addr.add
          by_cases h : j = 0
          · subst h; simp
          · simp [h]
        have hlt : b < W.heap.size := by
          have := (hX 0 (by omega)).1.1
          rw [hadd] at this
          simpa using World.block_lt_of_cell? W _ this
        refine ⟨b, off, rfl, hlt, fun (h : W.heap.size ≤ b) => by omega, fun i x hx => ?_⟩
        have hi : i < len := by have := (List.getElem?_eq_some_iff.1 hx).1; simpa using this
        have hxe : x = X i := by
          rw [List.getElem?_map, List.getElem?_range hi] at hx
          exact (Option.some.inj hx).symm
        subst hxe
        obtain ⟨⟨c0, c1, c2, c3, c4, c5, c6⟩, _⟩ := hX i hi
        rw [hadd] at c0 c1 c2 c3 c4
        refine ⟨c0, ?_, ?_, ?_, ?_, c5, c6⟩
        · rw [Nat.add_assoc]; exact c1
        · rw [Nat.add_assoc]; exact c2
        · rw [Nat.add_assoc]; exact c3
        · rw [Nat.add_assoc]; exact c4
    · obtain ⟨i, hi, rfl⟩ := List.mem_map.1 hx
      exact (hX i (List.mem_range.1 hi)).2
end
end Go.Proofs.YtnffjoflkeagfaaGreat
