/- A bag in memory. -/
import Derived.Test.YtheldpdckgoniaaKept
import Derived.Test.YtheldpdckgoniaaCopied
namespace Go.Proofs.Ytheldpdckgoniaa
open Go.RowKit

/-- a message where it lies: with the values of its two lists -/
abbrev X := Msg × Value × Value
def rowC (xs : List X) : List Value := xs.flatMap (fun x => x.1.list x.2.1 x.2.2)
theorem rowC_len (xs : List X) : (rowC xs).length = xs.length * 11 := by
  induction xs with
  | nil => rfl
  | cons p r ih => simp only [rowC, List.flatMap_cons, List.length_append] at ih ⊢; rw [ih]; simp [Msg.list]; omega
theorem rowC_append (a b : List X) : rowC (a ++ b) = rowC a ++ rowC b := by simp [rowC]
theorem rowC_get (xs : List X) (k i : Nat) (x : X) (u : Value) (h : xs[k]? = some x) (hi : i < 11) (hu : (x.1.list x.2.1 x.2.2)[i]? = some u) : (rowC xs)[k * 11 + i]? = some u := by
  induction xs generalizing k with
  | nil => simp at h
  | cons p r ih =>
    have e0 : rowC (p :: r) = p.1.list p.2.1 p.2.2 ++ rowC r := by simp [rowC]
    have el : (p.1.list p.2.1 p.2.2).length = 11 := rfl
    rw [e0]
    cases k with
    | zero =>
      simp only [List.getElem?_cons_zero, Option.some.injEq] at h
      subst h
      rw [Nat.zero_mul, Nat.zero_add, List.getElem?_append_left (by rw [el]; exact hi)]; exact hu
    | succ k =>
      rw [List.getElem?_append_right (by rw [el]; omega), el, show (k + 1) * 11 + i - 11 = k * 11 + i by omega]
      exact ih k (by simpa using h)
theorem rowC_take (xs : List X) (k : Nat) : (rowC xs).take (k * 11) = rowC (xs.take k) := by
  by_cases hk : k ≤ xs.length
  · have e : rowC xs = rowC (xs.take k) ++ rowC (xs.drop k) := by rw [← rowC_append, List.take_append_drop]
    rw [e, List.take_left' (by rw [rowC_len, List.length_take]; omega)]
  · rw [List.take_of_length_le (by rw [rowC_len]; omega), List.take_of_length_le (by omega)]
theorem rowC_drop (xs : List X) (k : Nat) : (rowC xs).drop (k * 11) = rowC (xs.drop k) := by
  by_cases hk : k ≤ xs.length
  · have e : rowC xs = rowC (xs.take k) ++ rowC (xs.drop k) := by rw [← rowC_append, List.take_append_drop]
    rw [e, List.drop_left' (by rw [rowC_len, List.length_take]; omega)]
  · rw [List.drop_of_length_le (by rw [rowC_len]; omega), List.drop_of_length_le (by omega)]; rfl
/-- the values of the lists are slices -/
def SlV (x : X) : Prop := (∃ a c, x.2.1 = .slice a x.1.l.length c) ∧ ∃ a c, x.2.2 = .slice a x.1.es.length c
theorem LI.slv {B : Nat → Prop} {w : World} {x : X} (h : LI B w x.1 x.2.1 x.2.2) : SlV x := by
  obtain ⟨a, c, e, _⟩ := h.1.slice
  obtain ⟨a', c', e', _⟩ := h.2.slice
  exact ⟨⟨a, c, e⟩, a', c', e'⟩
theorem rowC_one (xs : List X) (h : ∀ x ∈ xs, SlV x) : ∀ u ∈ rowC xs, u.oneCell' = true := by
  intro u hu
  obtain ⟨x, hx, hm⟩ := List.mem_flatMap.1 hu
  obtain ⟨⟨a, c, e⟩, a', c', e'⟩ := h x hx
  simp only [Msg.list, e, e', List.mem_cons, List.not_mem_nil, or_false] at hm
  rcases hm with rfl | rfl | rfl | rfl | rfl | rfl | rfl | rfl | rfl | rfl | rfl <;> rfl
/-- messages in a slice, in blocks that B admits -/
def MsgsIn (B : Nat → Prop) (w : World) (v : Value) (xs : List X) : Prop := Run B w v xs.length (rowC xs) ∧ ∀ x ∈ xs, LI B w x.1 x.2.1 x.2.2
theorem MsgsIn.mono {B B' : Nat → Prop} {w : World} {v : Value} {xs : List X} (h : MsgsIn B w v xs) (hB : ∀ k, k < w.heap.size → B k → B' k) : MsgsIn B' w v xs := ⟨h.1.mono hB, fun x hx => (h.2 x hx).mono hB⟩
theorem MsgsIn.keep {B : Nat → Prop} {w w' : World} {v : Value} {xs : List X} (h : MsgsIn B w v xs) (hs : w.heap.size ≤ w'.heap.size) (hk : ∀ g, B g → g < w.heap.size → w'.heap[g]? = w.heap[g]?) : MsgsIn B w' v xs := ⟨h.1.keep hs hk, fun x hx => (h.2 x hx).keep hs hk⟩
theorem MsgsIn.below {B : Nat → Prop} {w w' : World} {v : Value} {xs : List X} (h : MsgsIn B w v xs) (hb : Below w.heap.size w w') : MsgsIn B w' v xs := h.keep hb.size (fun g _ hl => hb.block g hl)
theorem MsgsIn.off {S : Nat → Prop} {w w' : World} {v : Value} {xs : List X} (h : MsgsIn (fun k => ¬ S k) w v xs) (hk : Kept S w w') : MsgsIn (fun k => ¬ S k) w' v xs := h.keep hk.size (fun g hg hl => hk.block g hl hg)
theorem MsgsIn.slv {B : Nat → Prop} {w : World} {v : Value} {xs : List X} (h : MsgsIn B w v xs) : ∀ x ∈ xs, SlV x := fun x hx => (h.2 x hx).slv
/-- the eleven cells of a message -/
theorem MsgsIn.get {B : Nat → Prop} {w : World} {a : Option Addr} {n c k : Nat} {xs : List X} {x : X} (h : MsgsIn B w (.slice a n c) xs) (hx : xs[k]? = some x) :
    ∃ b off, a = some ⟨b, off, none⟩ ∧ n = xs.length ∧ n ≤ c ∧ B b ∧ b < w.heap.size ∧
    w.cell? ⟨b, off + k * 11, none⟩ = some (.int .u8 x.1.k) ∧ w.cell? ⟨b, off + k * 11 + 1, none⟩ = some (.int .i64 x.1.f) ∧ w.cell? ⟨b, off + k * 11 + 2, none⟩ = some (.int .i64 x.1.t) ∧ w.cell? ⟨b, off + k * 11 + 3, none⟩ = some (.int .i64 x.1.tm) ∧ w.cell? ⟨b, off + k * 11 + 4, none⟩ = some (.int .i64 x.1.a) ∧
    w.cell? ⟨b, off + k * 11 + 5, none⟩ = some (.int .i64 x.1.b) ∧ w.cell? ⟨b, off + k * 11 + 6, none⟩ = some (.int .i64 x.1.c) ∧ w.cell? ⟨b, off + k * 11 + 7, none⟩ = some (.bool x.1.ok) ∧ w.cell? ⟨b, off + k * 11 + 8, none⟩ = some x.2.1 ∧ w.cell? ⟨b, off + k * 11 + 9, none⟩ = some x.2.2 ∧ w.cell? ⟨b, off + k * 11 + 10, none⟩ = some (.string x.1.d) := by
  have hlt := (List.getElem?_eq_some_iff.1 hx).1
  obtain ⟨a', c', e, h1, h2, h3⟩ := h.1
  cases e
  rcases h3 with h3 | ⟨b, off, rfl, hb, hl, hc⟩
  · omega
  · have g := fun i u (hi : i < 11) (hu : (x.1.list x.2.1 x.2.2)[i]? = some u) => hc (k * 11 + i) u (rowC_get xs k i x u hx hi hu)
    exact ⟨b, off, rfl, rfl, h1, hb, hl, g 0 _ (by decide) rfl, g 1 _ (by decide) rfl, g 2 _ (by decide) rfl, g 3 _ (by decide) rfl, g 4 _ (by decide) rfl, g 5 _ (by decide) rfl, g 6 _ (by decide) rfl, g 7 _ (by decide) rfl, g 8 _ (by decide) rfl, g 9 _ (by decide) rfl, g 10 _ (by decide) rfl⟩
abbrev ptrV (b : Nat) : Value := .pointer (some ⟨b, 0, none⟩)
/-- the messages of a bag: a row of its own, their lists likewise -/
structure RowM (S : Nat → Prop) (w : World) (b : Nat) (v : Value) (xs : List X) : Prop where
  row : w.ownsRow 0 38 11 v xs.length (rowC xs)
  own : ∀ g, v.ownBlock = some g → S g
  li : ∀ x ∈ xs, LI (fun k => S k ∧ k ≠ b ∧ v.ownBlock ≠ some k) w x.1 x.2.1 x.2.2
  sm : ∀ x ∈ xs, Sm x.1
structure BagO (T : TypeId) (S : Nat → Prop) (w : World) (b most : Nat) (v : Value) (xs : List X) : Prop where
  mine : S b
  block : w.heap[b]? = some (.cells #[.int .i64 (most : Int), v] T (0, 0))
  rm : RowM S w b v xs
  fit : xs.length ≤ most
  lim : most ≤ 9223372036854775807
def BagAt (T : TypeId) (S : Nat → Prop) (w : World) (b most : Nat) (ms : List Msg) : Prop := ∃ v xs, ms = xs.map (·.1) ∧ BagO T S w b most v xs
abbrev BagT : TypeId := 57
abbrev RefT : TypeId := 46
section
variable {T : TypeId} {S S' : Nat → Prop} {w w' : World} {b most : Nat} {v : Value} {xs : List X} {ms : List Msg}
theorem RowM.keep (h : RowM S w b v xs) (hs : w.heap.size ≤ w'.heap.size) (hk : ∀ g, S g → g < w.heap.size → w'.heap[g]? = w.heap[g]?) (hS : ∀ g, g < w.heap.size → S g → S' g) : RowM S' w' b v xs :=
  ⟨own_keep h.row (fun g hg _ hl => hk g (h.own g hg) hl), fun g hg => hS g (h.row.lt g hg).2 (h.own g hg), fun x hx => (((h.li x hx).mono (fun k hk' hb => ⟨⟨hS k hk' hb.1, hb.2⟩, hb.1⟩ : ∀ k, k < w.heap.size → (S k ∧ k ≠ b ∧ v.ownBlock ≠ some k) → ((S' k ∧ k ≠ b ∧ v.ownBlock ≠ some k) ∧ S k))).keep hs (fun g hg hl => hk g hg.2 hl)).mono (fun _ _ hb => hb.1), h.sm⟩
theorem BagO.lt (h : BagO T S w b most v xs) : b < w.heap.size := (Array.getElem?_eq_some_iff.1 h.block).1
theorem BagO.keep (h : BagO T S w b most v xs) (hs : w.heap.size ≤ w'.heap.size) (hk : ∀ g, S g → g < w.heap.size → w'.heap[g]? = w.heap[g]?) (hS : ∀ g, g < w.heap.size → S g → S' g) : BagO T S' w' b most v xs :=
  ⟨hS b h.lt h.mine, (hk b h.mine h.lt).trans h.block, h.rm.keep hs hk hS, h.fit, h.lim⟩
theorem BagO.c0 (h : BagO T S w b most v xs) : w.cell? ⟨b, 0, none⟩ = some (.int .i64 (most : Int)) := by rw [Lib.cell_of_heap h.block]; rfl
theorem BagO.c1 (h : BagO T S w b most v xs) : w.cell? ⟨b, 1, none⟩ = some v := by rw [Lib.cell_of_heap h.block]; rfl
theorem BagO.f (h : BagO T S w b most v xs) (j : Nat) : w.frozen? ⟨b, j, none⟩ = false := Lib.frozen_of_heap h.block j
theorem BagAt.other (h : BagAt T S w b most ms) (hk : Kept S' w w') (hS : ∀ k, k < w.heap.size → S k → ¬ S' k) : BagAt T S w' b most ms := by
  obtain ⟨v, xs, e, h⟩ := h
  exact ⟨v, xs, e, h.keep hk.size (fun g hg hl => hk.block g hl (hS g hl hg)) (fun _ _ hg => hg)⟩
theorem BagAt.mono (h : BagAt T S w b most ms) (hS : ∀ k, k < w.heap.size → S k → S' k) : BagAt T S' w b most ms := by
  obtain ⟨v, xs, e, h⟩ := h
  exact ⟨v, xs, e, h.keep (Nat.le_refl _) (fun _ _ _ => rfl) hS⟩
theorem BagAt.tight (h : BagAt T S w b most ms) : BagAt T (fun k => S k ∧ k < w.heap.size) w b most ms := h.mono (fun _ hl hk => ⟨hk, hl⟩)
theorem BagAt.below (h : BagAt T S w b most ms) (hb : Below w.heap.size w w') : BagAt T S w' b most ms := h.other (S' := fun _ => False) (Kept.of_below hb) (fun _ _ _ h => h)
/-- a bag's blocks are the old ones of S and what comes -/
theorem BagAt.narrow (h : BagAt T S w b most ms) (hb : Below w.heap.size w w') : BagAt T (fun k => (S k ∧ k < w.heap.size) ∨ w'.heap.size ≤ k) w' b most ms := (h.tight.below hb).mono (fun _ _ hk => .inl hk)
theorem BagAt.fit (h : BagAt T S w b most ms) : ms.length ≤ most := by obtain ⟨v, xs, rfl, h⟩ := h; simpa using h.fit
theorem BagAt.lim (h : BagAt T S w b most ms) : most ≤ 9223372036854775807 := by obtain ⟨v, xs, rfl, h⟩ := h; exact h.lim
theorem BagAt.sm (h : BagAt T S w b most ms) : ∀ m ∈ ms, Sm m := by
  obtain ⟨v, xs, rfl, h⟩ := h
  intro m hm
  obtain ⟨x, hx, rfl⟩ := List.mem_map.1 hm
  exact h.rm.sm x hx
/-- the row's block is not the bag's -/
theorem BagO.apart (h : BagO T S w b most v xs) (hT : T ≠ 38) : v.ownBlock ≠ some b := by
  intro e
  rcases h.rm.row.2 with ⟨rfl, _⟩ | ⟨g, cap, cur, rfl, _, hg, _⟩
  · simp [Value.ownBlock] at e
  · have : g = b := by simpa [Value.ownBlock] using e
    subst this
    have := hg.symm.trans h.block
    simp at this
    exact hT this.2.symm
theorem RowM.slice (h : RowM S w b v xs) : ∃ a c, v = .slice a xs.length c := by
  rcases h.row.2 with ⟨rfl, h0⟩ | ⟨g, cap, cur, rfl, _⟩
  · rw [h0]; exact ⟨_, _, rfl⟩
  · exact ⟨_, _, rfl⟩
theorem RowM.msgs (h : RowM S w b v xs) : MsgsIn S w v xs := by
  refine ⟨?_, fun x hx => (h.li x hx).mono (fun _ _ hb => hb.1)⟩
  have hc := fun g hg => h.row.cells (g := g) hg
  have hlt := h.row.lt
  have hown := h.own
  rcases h.row.2 with ⟨rfl, h0⟩ | ⟨g, cap, cur, rfl, _, hg, hcap, _⟩
  · rw [h0]; exact Run.nil _ _ _
  · refine ⟨_, _, rfl, hcap, (fun h => by cases h), .inr ⟨g, 0, rfl, hown g rfl, (hlt g rfl).2, fun j u hu => ?_⟩⟩
    have := hc g rfl j u hu
    rw [add_zero_off] at this; rw [Nat.zero_add]; exact this
end
set_option maxHeartbeats 1000000 in
theorem New_any {S : Nat → Prop} (w : World) (hS : ∀ k, w.heap.size ≤ k → S k) (most : Int) (hr : most ≤ 9223372036854775807) :
    Calls Try.prog 8 #[.int .i64 most] w fun e w' => e = .returned (ptrV w.heap.size) ∧ BagAt BagT S w' w.heap.size most.toNat [] ∧ Below w.heap.size w w' := by
  have hd : BagAt BagT S (w.alloc (.cells #[.int .i64 (most.toNat : Int), .slice none 0 0] BagT)) w.heap.size most.toNat [] :=
    ⟨_, [], rfl, hS _ (Nat.le_refl _), heap_alloc_new w _, ⟨World.ownsRow_nil _ _ _ _, (fun g hg => by simp [Value.ownBlock] at hg), (fun x hx => by cases hx), (fun x hx => by cases hx)⟩, Nat.zero_le _, by omega⟩
  have hm : max most 0 = (most.toNat : Int) := by omega
  have HD := Lib.hid hd
  have HM := Lib.hid hm
  clear hd hm
  go_enter Try.func8, Try.ntmps8
  go_wp2
  go_ret
  rw [HM.out]
  exact ⟨rfl, HD.out, (Below.refl _ _).alloc (Nat.le_refl _) _⟩
set_option maxHeartbeats 1000000 in
theorem refNew_any {S : Nat → Prop} (w : World) (hS : ∀ k, w.heap.size ≤ k → S k) (most : Int) (hr : most ≤ 9223372036854775807) :
    Calls Try.prog 9 #[.int .i64 most] w fun e w' => e = .returned (ptrV w.heap.size) ∧ BagAt RefT S w' w.heap.size most.toNat [] ∧ Below w.heap.size w w' := by
  have hd : BagAt RefT S (w.alloc (.cells #[.int .i64 (most.toNat : Int), .slice none 0 0] RefT)) w.heap.size most.toNat [] :=
    ⟨_, [], rfl, hS _ (Nat.le_refl _), heap_alloc_new w _, ⟨World.ownsRow_nil _ _ _ _, (fun g hg => by simp [Value.ownBlock] at hg), (fun x hx => by cases hx), (fun x hx => by cases hx)⟩, Nat.zero_le _, by omega⟩
  have hm : max most 0 = (most.toNat : Int) := by omega
  have HD := Lib.hid hd
  have HM := Lib.hid hm
  clear hd hm
  go_enter Try.func9, Try.ntmps9
  go_wp2
  go_ret
  rw [HM.out]
  exact ⟨rfl, HD.out, (Below.refl _ _).alloc (Nat.le_refl _) _⟩
set_option maxHeartbeats 1000000 in
theorem list_any {S : Nat → Prop} {w : World} {b most : Nat} {v : Value} {xs : List X} (h : BagO BagT S w b most v xs) :
    Calls Try.prog 32 #[ptrV b] w fun e w' => e = .returned v ∧ w' = w := by
  have c1 := h.c1
  obtain ⟨a, c, rfl⟩ := h.rm.slice
  clear h
  go_enter Try.func32, Try.ntmps32
  go_wp2
  go_ret
  exact ⟨rfl, rfl⟩
set_option maxHeartbeats 1000000 in
theorem Len_any {S : Nat → Prop} {w : World} {b most : Nat} {ms : List Msg} (h : BagAt BagT S w b most ms) :
    Calls Try.prog 21 #[ptrV b] w fun e w' => e = .returned (.int .i64 (ms.length : Int)) ∧ w' = w := by
  obtain ⟨v, xs, rfl, h⟩ := h
  have hl := list_any h
  obtain ⟨a, c, rfl⟩ := h.rm.slice
  clear h
  go_enter Try.func21, Try.ntmps21
  go_wp2_with fail
  refine hl.mono ?_
  rintro e w1 ⟨rfl, rfl⟩
  go_wp2
  go_ret
  exact ⟨by simp, rfl⟩
set_option maxHeartbeats 2000000 in
theorem room_any {S : Nat → Prop} {w : World} {b most : Nat} {v : Value} {xs : List X} (h : BagO BagT S w b most v xs) :
    Calls Try.prog 24 #[ptrV b] w fun e w' => e = .returned (.int .i64 ((most : Int) - (xs.length : Int))) ∧ ∃ q, w' = w.drewN q := by
  have c0 := h.c0
  have c1 := h.c1
  obtain ⟨a, c, rfl⟩ := h.rm.slice
  have hw : IntKind.i64.wrap ((most : Int) - (xs.length : Int)) = (most : Int) - (xs.length : Int) := IntWalk.i64_in _ (by have := h.fit; have := h.lim; omega)
  clear h
  go_enter Try.func24, Try.ntmps24
  go_wp2
  go_quiet (fail)
  go_wp2
  go_ret
  exact ⟨rfl, ⟨_, rfl⟩⟩
end Go.Proofs.Ytheldpdckgoniaa
