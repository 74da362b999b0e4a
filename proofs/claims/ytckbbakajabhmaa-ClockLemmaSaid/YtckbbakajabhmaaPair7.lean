/- Several things in one memory, none of which touches another's blocks. -/
import Derived.Test.YtckbbakajabhmaaIMap
namespace Go.Proofs.Ytckbbakajabhmaa
open Go.RowKit Go.Maps

/-- a thing told by its blocks -/
structure Thing (Q : (Nat → Prop) → World → Prop) : Prop where
  mono : ∀ {S S' : Nat → Prop} {w : World}, Q S w → (∀ k, k < w.heap.size → S k → S' k) → Q S' w
  tight : ∀ {S : Nat → Prop} {w : World}, Q S w → Q (fun k => S k ∧ k < w.heap.size) w
  other : ∀ {S S' : Nat → Prop} {w w' : World}, Q S w → Kept S' w w' → (∀ k, k < w.heap.size → S k → ¬ S' k) → Q S w'
def Pair (Q1 Q2 : (Nat → Prop) → World → Prop) (S : Nat → Prop) (w : World) : Prop :=
  ∃ Sa Sb : Nat → Prop, Q1 Sa w ∧ Q2 Sb w ∧ (∀ k, Sa k → Sb k → False) ∧ (∀ k, Sa k → S k ∧ k < w.heap.size) ∧ (∀ k, Sb k → S k ∧ k < w.heap.size)
section
variable {Q1 Q2 Q1' Q2' : (Nat → Prop) → World → Prop} {S : Nat → Prop} {w w' : World}
theorem pairThing (t1 : Thing Q1) (t2 : Thing Q2) : Thing (Pair Q1 Q2) := by
  refine ⟨fun {S S' w} h hS => ?_, fun {S w} h => ?_, fun {S S' w w'} h hk hS => ?_⟩
  · obtain ⟨Sa, Sb, h1, h2, h3, h4, h5⟩ := h
    exact ⟨Sa, Sb, h1, h2, h3, fun k hk => ⟨hS k (h4 k hk).2 (h4 k hk).1, (h4 k hk).2⟩, fun k hk => ⟨hS k (h5 k hk).2 (h5 k hk).1, (h5 k hk).2⟩⟩
  · obtain ⟨Sa, Sb, h1, h2, h3, h4, h5⟩ := h
    exact ⟨Sa, Sb, h1, h2, h3, fun k hk => ⟨h4 k hk, (h4 k hk).2⟩, fun k hk => ⟨h5 k hk, (h5 k hk).2⟩⟩
  · obtain ⟨Sa, Sb, h1, h2, h3, h4, h5⟩ := h
    refine ⟨Sa, Sb, t1.other h1 hk (fun k hlt ha => hS k hlt (h4 k ha).1), t2.other h2 hk (fun k hlt hb => hS k hlt (h5 k hb).1), h3, fun k hk' => ⟨(h4 k hk').1, Nat.lt_of_lt_of_le (h4 k hk').2 hk.size⟩, fun k hk' => ⟨(h5 k hk').1, Nat.lt_of_lt_of_le (h5 k hk').2 hk.size⟩⟩
theorem Thing.below (t : Thing Q1) (h : Q1 S w) (hb : Below w.heap.size w w') : Q1 S w' :=
  t.other h (Kept.of_below (S := fun _ => False) hb) (fun _ _ _ h => h)
theorem Pair.fst (t1 : Thing Q1) (h : Pair Q1 Q2 S w) : Q1 S w := by
  obtain ⟨Sa, Sb, h1, h2, h3, h4, h5⟩ := h
  exact t1.mono h1 (fun k _ hk => (h4 k hk).1)
theorem Pair.snd (t2 : Thing Q2) (h : Pair Q1 Q2 S w) : Q2 S w := by
  obtain ⟨Sa, Sb, h1, h2, h3, h4, h5⟩ := h
  exact t2.mono h2 (fun k _ hk => (h5 k hk).1)
/-- a call that goes to the first -/
theorem Pair.step1 (t1 : Thing Q1) (t1' : Thing Q1') (t2 : Thing Q2) (h : Pair Q1 Q2 S w) (hS : ∀ k, w.heap.size ≤ k → S k) {P : Program} {f : FuncId} {args : Array Value} {X : Ending → World → Prop}
    (hc : ∀ T : Nat → Prop, (∀ k, w.heap.size ≤ k → T k) → (∀ k, T k → S k) → Q1 T w → Calls P f args w fun e w' => X e w' ∧ Q1' T w' ∧ Kept T w w') :
    Calls P f args w fun e w' => X e w' ∧ Pair Q1' Q2 S w' ∧ Kept S w w' := by
  obtain ⟨Sa, Sb, h1, h2, h3, h4, h5⟩ := h
  have hT : ∀ k, (Sa k ∨ w.heap.size ≤ k) → S k := fun k hk => hk.elim (fun h => (h4 k h).1) (hS k)
  refine (hc (fun k => Sa k ∨ w.heap.size ≤ k) (fun k hk => .inr hk) hT (t1.mono h1 (fun k _ hk => .inl hk))).mono ?_
  rintro e w' ⟨hx, hq, hk⟩
  refine ⟨hx, ⟨_, Sb, t1'.tight hq, t2.other h2 hk (fun k hlt hb ha => ha.elim (fun h => h3 k h hb) (fun h => by omega)), fun k ha hb => ha.1.elim (fun h => h3 k h hb) (fun h => by have := (h5 k hb).2; omega),
    fun k ha => ⟨hT k ha.1, ha.2⟩, fun k hb => ⟨(h5 k hb).1, Nat.lt_of_lt_of_le (h5 k hb).2 hk.size⟩⟩, hk.mono (fun k _ => hT k)⟩
theorem Pair.swap (h : Pair Q1 Q2 S w) : Pair Q2 Q1 S w := by
  obtain ⟨Sa, Sb, h1, h2, h3, h4, h5⟩ := h
  exact ⟨Sb, Sa, h2, h1, fun k a b => h3 k b a, h5, h4⟩
/-- .. to the second -/
theorem Pair.step2 (t1 : Thing Q1) (t2 : Thing Q2) (t2' : Thing Q2') (h : Pair Q1 Q2 S w) (hS : ∀ k, w.heap.size ≤ k → S k) {P : Program} {f : FuncId} {args : Array Value} {X : Ending → World → Prop}
    (hc : ∀ T : Nat → Prop, (∀ k, w.heap.size ≤ k → T k) → (∀ k, T k → S k) → Q2 T w → Calls P f args w fun e w' => X e w' ∧ Q2' T w' ∧ Kept T w w') :
    Calls P f args w fun e w' => X e w' ∧ Pair Q1 Q2' S w' ∧ Kept S w w' :=
  (Pair.step1 t2 t2' t1 h.swap hS hc).mono (fun _ _ hh => ⟨hh.1, hh.2.1.swap, hh.2.2⟩)
/-- a second thing beside a first -/
theorem Pair.of (t1 : Thing Q1) (t2 : Thing Q2) (h1 : Q1 S w) (hb : Below w.heap.size w w') (h2 : Q2 (fun k => w.heap.size ≤ k) w') (hS : ∀ k, w.heap.size ≤ k → S k) : Pair Q1 Q2 S w' := by
  refine ⟨fun k => S k ∧ k < w.heap.size, fun k => w.heap.size ≤ k ∧ k < w'.heap.size, t1.below (t1.tight h1) hb, t2.tight h2, fun k ha hb => by omega, fun k ha => ⟨ha.1, Nat.lt_of_lt_of_le ha.2 hb.size⟩, fun k hb => ⟨hS k hb.1, hb.2⟩⟩
end
end Go.Proofs.Ytckbbakajabhmaa
