/- Waits or leases beside the document's table; an act's box. -/
import Derived.Test.YtckbbakajabhmaaLawKit7
import Derived.Test.YtckbbakajabhmaaWit7
namespace Go.Proofs.Ytckbbakajabhmaa
open Go.RowKit Go.Maps

theorem TabAt.more {T : TypeId} {S : Nat → Prop} {w : World} {b n n' : Nat} {g : G} (h : TabAt T S w b n g) (hn : n ≤ n') : TabAt T S w b n' g := by
  obtain ⟨mo, h1, h2, h3⟩ := h
  refine ⟨mo, h1, h2, ?_⟩
  rcases h3 with h3 | ⟨mb, e, h4, h5, h6⟩
  · exact .inl h3
  · exact .inr ⟨mb, e, h4, h5, h6.mono hn⟩
theorem RTab.more {S : Nat → Prop} {w : World} {b n n' : Nat} {g : G} (h : RTab S w b n g) (hn : n ≤ n') : RTab S w b n' g := by
  obtain ⟨L, v, h1, h2, h3, h4⟩ := h
  exact ⟨L, v, h1, h2, h3, Nat.le_trans h4 hn⟩
/-- an act's cells -/
theorem act_cells {B : Nat → Prop} {w : World} {a : Option Addr} {n c k : Nat} {l : List ActT} {x : ActT} (h : Run B w (.slice a n c) l.length (l.flatMap actL)) (hx : l[k]? = some x) :
    ∃ b off, a = some ⟨b, off, none⟩ ∧ B b ∧ b < w.heap.size ∧ w.cell? ⟨b, off + k * 4, none⟩ = some (.int .u8 x.k) ∧ w.cell? ⟨b, off + k * 4 + 1, none⟩ = some (.int .i64 x.key) ∧ w.cell? ⟨b, off + k * 4 + 2, none⟩ = some (.int .i64 x.n) ∧
      w.cell? ⟨b, off + k * 4 + 3, none⟩ = some (.int .i64 x.w) := by
  have hk := (List.getElem?_eq_some_iff.1 hx).1
  obtain ⟨a', c', e, h1, h2, h3⟩ := h
  cases e
  have key : ∀ (l : List ActT) (k : Nat), l[k]? = some x → ∀ j, j < 4 → (l.flatMap actL)[k * 4 + j]? = (actL x)[j]? := by
    intro l
    induction l with
    | nil => intro k h; simp at h
    | cons p t ih =>
      intro k h j hj
      simp only [List.flatMap_cons]
      cases k with
      | zero =>
        have : p = x := by simpa using h
        subst this
        rw [Nat.zero_mul, Nat.zero_add, List.getElem?_append_left (by simpa [actL] using hj)]
      | succ k =>
        rw [List.getElem?_append_right (by simp [actL]; omega)]
        have e : (k + 1) * 4 + j - (actL p).length = k * 4 + j := by simp [actL]; omega
        rw [e]
        exact ih k (by simpa using h) j hj
  rcases h3 with h3 | ⟨b, off, rfl, hb, hlt, hc⟩
  · omega
  · refine ⟨b, off, rfl, hb, hlt, ?_, ?_, ?_, ?_⟩
    · exact hc (k * 4) _ (by have := key l k hx 0 (by omega); rw [Nat.add_zero] at this; rw [this]; rfl)
    · exact hc (k * 4 + 1) _ (by rw [key l k hx 1 (by omega)]; rfl)
    · exact hc (k * 4 + 2) _ (by rw [key l k hx 2 (by omega)]; rfl)
    · exact hc (k * 4 + 3) _ (by rw [key l k hx 3 (by omega)]; rfl)

/-- waits (or leases) and the document's table -/
abbrev DuoT (T : TypeId) (tb rb n : Nat) (g : G) (m : Nat) (g' : G) : (Nat → Prop) → World → Prop := Pair (TabQ T tb n g) (RQ rb m g')
theorem duoT (T : TypeId) (tb rb n : Nat) (g : G) (m : Nat) (g' : G) : Thing (DuoT T tb rb n g m g') := pairThing (tabThing _ _ _ _) (rThing _ _ _)
section
variable {S : Nat → Prop} {w : World} {T : TypeId} {tb rb n m : Nat} {g g' : G}
theorem DuoT.tab (h : DuoT T tb rb n g m g' S w) : TabAt T S w tb n g := Pair.fst (tabThing _ _ _ _) h
theorem DuoT.ref (h : DuoT T tb rb n g m g' S w) : RTab S w rb m g' := Pair.snd (rThing _ _ _) h
theorem DuoT.call1 {n' : Nat} {g1 : G} (h : DuoT T tb rb n g m g' S w) (hS : ∀ k, w.heap.size ≤ k → S k) {f : FuncId} {args : Array Value} {X : Ending → World → Prop}
    (hc : ∀ S' : Nat → Prop, (∀ k, w.heap.size ≤ k → S' k) → TabAt T S' w tb n g → Calls Try.prog f args w fun e w' => X e w' ∧ TabAt T S' w' tb n' g1 ∧ Kept S' w w') :
    Calls Try.prog f args w fun e w' => X e w' ∧ DuoT T tb rb n' g1 m g' S w' ∧ Kept S w w' :=
  Pair.step1 (tabThing _ _ _ _) (tabThing _ _ _ _) (rThing _ _ _) h hS (fun S' h1 _ h2 => hc S' h1 h2)
theorem DuoT.call2 {n' : Nat} {g1 : G} (h : DuoT T tb rb n g m g' S w) (hS : ∀ k, w.heap.size ≤ k → S k) {f : FuncId} {args : Array Value} {X : Ending → World → Prop}
    (hc : ∀ S' : Nat → Prop, (∀ k, w.heap.size ≤ k → S' k) → RTab S' w rb m g' → Calls Try.prog f args w fun e w' => X e w' ∧ RTab S' w' rb n' g1 ∧ Kept S' w w') :
    Calls Try.prog f args w fun e w' => X e w' ∧ DuoT T tb rb n g n' g1 S w' ∧ Kept S w w' :=
  Pair.step2 (tabThing _ _ _ _) (rThing _ _ _) (rThing _ _ _) h hS (fun S' h1 _ h2 => hc S' h1 h2)
theorem DuoT.more {n' m' : Nat} (h : DuoT T tb rb n g m g' S w) (hn : n ≤ n') (hm : m ≤ m') : DuoT T tb rb n' g m' g' S w := by
  obtain ⟨Sa, Sb, h1, h2, h3⟩ := h
  exact ⟨Sa, Sb, TabAt.more h1 hn, RTab.more h2 hm, h3⟩
end
theorem pair_turn {Q1 Q2 Q3 : (Nat → Prop) → World → Prop} {S : Nat → Prop} {w : World} (h : Pair (Pair Q1 Q2) Q3 S w) : Pair (Pair Q1 Q3) Q2 S w := by
  obtain ⟨Sab, Sc, ⟨Sa, Sb, a1, b1, dab, ha, hb⟩, c1, d, hab, hc⟩ := h
  exact ⟨fun k => Sa k ∨ Sc k, Sb, ⟨Sa, Sc, a1, c1, fun k x y => d k (ha k x).1 y, fun k x => ⟨.inl x, (ha k x).2⟩, fun k x => ⟨.inr x, (hc k x).2⟩⟩, b1, fun k x y => x.elim (fun x => dab k x y) (fun x => d k (hb k y).1 x),
    fun k x => x.elim (fun x => ⟨(hab k (ha k x).1).1, (ha k x).2⟩) (fun x => hc k x), fun k x => ⟨(hab k (hb k x).1).1, (hb k x).2⟩⟩
theorem trioMore {S : Nat → Prop} {w : World} {T : TypeId} {tb rb n m n' m' : Nat} {g g' : G} {Q : (Nat → Prop) → World → Prop} (h : Pair (DuoT T tb rb n g m g') Q S w) (hn : n ≤ n') (hm : m ≤ m') : Pair (DuoT T tb rb n' g m' g') Q S w := by
  obtain ⟨Sa, Sb, h1, h2, h3⟩ := h
  exact ⟨Sa, Sb, DuoT.more h1 hn hm, h2, h3⟩
/-- an act's box: its four cells stand while only blocks of S change -/
structure BoxA (w : World) (xb : Nat) (x : ActT) : Prop where
  c0 : w.cell? ⟨xb, 0, none⟩ = some (.int .u8 x.k)
  c1 : w.cell? ⟨xb, 1, none⟩ = some (.int .i64 x.key)
  c2 : w.cell? ⟨xb, 2, none⟩ = some (.int .i64 x.n)
  c3 : w.cell? ⟨xb, 3, none⟩ = some (.int .i64 x.w)
theorem box_new (w : World) (x : ActT) : BoxA (w.alloc (.cells #[.int .u8 x.k, .int .i64 x.key, .int .i64 x.n, .int .i64 x.w] 41)) w.heap.size x :=
  ⟨by rw [Lib.cell_of_heap (heap_alloc_new w _)]; rfl, by rw [Lib.cell_of_heap (heap_alloc_new w _)]; rfl, by rw [Lib.cell_of_heap (heap_alloc_new w _)]; rfl, by rw [Lib.cell_of_heap (heap_alloc_new w _)]; rfl⟩
theorem BoxA.kept {S : Nat → Prop} {w w' : World} {xb : Nat} {x : ActT} (h : BoxA w xb x) (hk : Kept S w w') (hS : ¬ S xb) : BoxA w' xb x := by
  have hlt : xb < w.heap.size := World.block_lt_of_cell? w _ h.c0
  have e : ∀ j, w'.cell? ⟨xb, j, none⟩ = w.cell? ⟨xb, j, none⟩ := fun j => World.cell?_of_block (a := ⟨xb, j, none⟩) (hk.block xb hlt hS)
  exact ⟨(e _).trans h.c0, (e _).trans h.c1, (e _).trans h.c2, (e _).trans h.c3⟩

/-! calls that only read, in a region that draws its order -/
theorem quiet_as {f : FuncId} {args : Array Value} {w : World} {r : Ending} (h : Calls Try.prog f args w fun e w' => e = r ∧ w = w') : Calls Try.prog f args w fun e w' => e = r ∧ ∃ q, w' = w.drewN q := by
  refine h.mono ?_
  rintro e w' ⟨rfl, rfl⟩
  exact ⟨rfl, 0, rfl⟩
section
variable {S : Nat → Prop} {w : World} {tb rb n m : Nat} {g : G}
theorem over_q (h : TabAt 48 S w tb n g) (he : Ends g) {k now wait : Int} (hk : I64 k) (hnow : I64 now) (hwait : I64 wait) (q : Nat) :
    Calls Try.prog 29 #[ptrV tb, .int .i64 k, .int .i64 now, .int .i64 wait] (w.drewN q) fun e w' => e = .returned (.bool (overG g k now wait)) ∧ ∃ q', w' = (w.drewN q).drewN q' :=
  quiet_as (Over_any ((tabThing _ _ _ _).below h (below_drewN (Below.refl _ _) q)) he hk hnow hwait)
theorem rover_q (h : RTab S w rb n g) (hc : n ≤ 1099511627776) (he : Ends g) {k now wait : Int} (hnow : I64 now) (hwait : I64 wait) (q : Nat) :
    Calls Try.prog 30 #[ptrV rb, .int .i64 k, .int .i64 now, .int .i64 wait] (w.drewN q) fun e w' => e = .returned (.bool (overG g k now wait)) ∧ ∃ q', w' = (w.drewN q).drewN q' :=
  quiet_as (rOver_any ((rThing _ _ _).below h (below_drewN (Below.refl _ _) q)) hc he hnow hwait)
theorem valid_q (h : TabAt 35 S w tb n g) {k : Int} (hk : I64 k) (now : Int) (q : Nat) :
    Calls Try.prog 22 #[ptrV tb, .int .i64 k, .int .i64 now] (w.drewN q) fun e w' => e = .returned (.bool (validG g k now)) ∧ ∃ q', w' = (w.drewN q).drewN q' :=
  quiet_as (Valid_any ((tabThing _ _ _ _).below h (below_drewN (Below.refl _ _) q)) hk now)
theorem rvalid_q (h : RTab S w rb n g) (hc : n ≤ 1099511627776) (k now : Int) (q : Nat) :
    Calls Try.prog 23 #[ptrV rb, .int .i64 k, .int .i64 now] (w.drewN q) fun e w' => e = .returned (.bool (validG g k now)) ∧ ∃ q', w' = (w.drewN q).drewN q' :=
  quiet_as (rValid_any ((rThing _ _ _).below h (below_drewN (Below.refl _ _) q)) hc k now)
theorem until_q (h : TabAt 35 S w tb n g) {k : Int} (hk : I64 k) (q : Nat) :
    Calls Try.prog 24 #[ptrV tb, .int .i64 k] (w.drewN q) fun e w' => e = .returned (.int .i64 (untilG g k)) ∧ ∃ q', w' = (w.drewN q).drewN q' :=
  quiet_as (Until_any ((tabThing _ _ _ _).below h (below_drewN (Below.refl _ _) q)) hk)
theorem runtil_q (h : RTab S w rb n g) (hc : n ≤ 1099511627776) (k : Int) (q : Nat) :
    Calls Try.prog 25 #[ptrV rb, .int .i64 k] (w.drewN q) fun e w' => e = .returned (.int .i64 (untilG g k)) ∧ ∃ q', w' = (w.drewN q).drewN q' :=
  quiet_as (rUntil_any ((rThing _ _ _).below h (below_drewN (Below.refl _ _) q)) hc k)
end
end Go.Proofs.Ytckbbakajabhmaa
