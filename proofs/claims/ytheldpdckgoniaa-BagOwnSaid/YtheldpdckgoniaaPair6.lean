/- The bag and the document's, side by side. -/
import Derived.Test.YtheldpdckgoniaaRefT
namespace Go.Proofs.Ytheldpdckgoniaa
open Go.RowKit

/-- both bags, in blocks of S, none of which they share -/
def TwoM (S : Nat → Prop) (w : World) (bb rb most : Nat) (ms ns : List Msg) : Prop :=
  ∃ Sa Sb : Nat → Prop, BagAt BagT Sa w bb most ms ∧ BagAt RefT Sb w rb most ns ∧ (∀ k, Sa k → Sb k → False) ∧ (∀ k, Sa k → S k ∧ k < w.heap.size) ∧ (∀ k, Sb k → S k ∧ k < w.heap.size)
section
variable {S S' : Nat → Prop} {w w' : World} {bb rb most : Nat} {ms ns : List Msg}
theorem TwoM.mono (h : TwoM S w bb rb most ms ns) (hS : ∀ k, k < w.heap.size → S k → S' k) : TwoM S' w bb rb most ms ns := by
  obtain ⟨Sa, Sb, h1, h2, h3, h4, h5⟩ := h
  exact ⟨Sa, Sb, h1, h2, h3, fun k hk => ⟨hS k (h4 k hk).2 (h4 k hk).1, (h4 k hk).2⟩, fun k hk => ⟨hS k (h5 k hk).2 (h5 k hk).1, (h5 k hk).2⟩⟩
theorem TwoM.other (h : TwoM S w bb rb most ms ns) (hk : Kept S' w w') (hS : ∀ k, k < w.heap.size → S k → ¬ S' k) : TwoM S w' bb rb most ms ns := by
  obtain ⟨Sa, Sb, h1, h2, h3, h4, h5⟩ := h
  refine ⟨Sa, Sb, h1.other hk (fun k hlt ha => hS k hlt (h4 k ha).1), h2.other hk (fun k hlt hb => hS k hlt (h5 k hb).1), h3, fun k hk' => ⟨(h4 k hk').1, Nat.lt_of_lt_of_le (h4 k hk').2 hk.size⟩, fun k hk' => ⟨(h5 k hk').1, Nat.lt_of_lt_of_le (h5 k hk').2 hk.size⟩⟩
theorem TwoM.below (h : TwoM S w bb rb most ms ns) (hb : Below w.heap.size w w') : TwoM S w' bb rb most ms ns := h.other (Kept.of_below (S := fun _ => False) hb) (fun _ _ _ h => h)
theorem TwoM.fst (h : TwoM S w bb rb most ms ns) : BagAt BagT S w bb most ms := by
  obtain ⟨Sa, Sb, h1, h2, h3, h4, h5⟩ := h
  exact h1.mono (fun k _ hk => (h4 k hk).1)
theorem TwoM.snd (h : TwoM S w bb rb most ms ns) : BagAt RefT S w rb most ns := by
  obtain ⟨Sa, Sb, h1, h2, h3, h4, h5⟩ := h
  exact h2.mono (fun k _ hk => (h5 k hk).1)
theorem TwoM.of (h1 : BagAt BagT S w bb most ms) (hb : Below w.heap.size w w') (h2 : BagAt RefT (fun k => w.heap.size ≤ k) w' rb most ns) (hS : ∀ k, w.heap.size ≤ k → S k) : TwoM S w' bb rb most ms ns := by
  refine ⟨fun k => S k ∧ k < w.heap.size, fun k => w.heap.size ≤ k ∧ k < w'.heap.size, h1.tight.below hb, h2.tight, fun k ha hb => by omega, fun k ha => ⟨ha.1, Nat.lt_of_lt_of_le ha.2 hb.size⟩, fun k hb => ⟨hS k hb.1, hb.2⟩⟩
/-- a call that goes to the bag, and then one to the document's -/
theorem two_step {v : Value} {ms' : List Msg} {f g : FuncId} {x y : Array Value} (h : TwoM S w bb rb most ms ms) (hS : ∀ k, w.heap.size ≤ k → S k)
    (h1 : ∀ (T : Nat → Prop) w', (∀ k, T k → S k) → Kept S w w' → BagAt BagT T w' bb most ms → (∀ k, w'.heap.size ≤ k → T k) → Calls Try.prog f x w' fun e w'' => e = .returned v ∧ BagAt BagT T w'' bb most ms' ∧ Kept T w' w'')
    (h2 : ∀ (T : Nat → Prop) w', (∀ k, T k → S k) → Kept S w w' → BagAt RefT T w' rb most ms → (∀ k, w'.heap.size ≤ k → T k) → Calls Try.prog g y w' fun e w'' => e = .returned v ∧ BagAt RefT T w'' rb most ms' ∧ Kept T w' w'') :
    Calls Try.prog f x w fun e w' => e = .returned v ∧ Kept S w w' ∧ Calls Try.prog g y w' fun e w'' => e = .returned v ∧ TwoM S w'' bb rb most ms' ms' ∧ Kept S w w'' := by
  obtain ⟨Sa, Sb, a1, a2, a3, a4, a5⟩ := h
  have hT : ∀ k, (Sa k ∨ w.heap.size ≤ k) → S k := fun k hk => hk.elim (fun h => (a4 k h).1) (hS k)
  refine (h1 (fun k => Sa k ∨ w.heap.size ≤ k) w hT (Kept.refl _ _) (a1.mono (fun k _ hk => .inl hk)) (fun k hk => .inr hk)).mono ?_
  rintro e w1 ⟨he, b1, k1⟩
  have kS1 : Kept S w w1 := k1.mono (fun k _ => hT k)
  have b2 : BagAt RefT Sb w1 rb most ms := a2.other k1 (fun k hlt hb ha => ha.elim (fun h => a3 k h hb) (fun h => by omega))
  have hT2 : ∀ k, (Sb k ∨ w1.heap.size ≤ k) → S k := fun k hk => hk.elim (fun h => (a5 k h).1) (fun h => hS k (Nat.le_trans k1.size h))
  refine ⟨he, kS1, (h2 (fun k => Sb k ∨ w1.heap.size ≤ k) w1 hT2 kS1 (b2.mono (fun k _ hk => .inl hk)) (fun k hk => .inr hk)).mono ?_⟩
  rintro e w2 ⟨he2, c2, k2⟩
  have kS2 : Kept S w w2 := kS1.trans (k2.mono (fun k _ => hT2 k))
  refine ⟨he2, ⟨fun k => (Sa k ∨ w.heap.size ≤ k) ∧ k < w1.heap.size, fun k => (Sb k ∨ w1.heap.size ≤ k) ∧ k < w2.heap.size, b1.tight.other k2 (fun k hlt ha hb => hb.elim (fun hb => ha.1.elim (fun h => a3 k h hb) (fun h => by have := (a5 k hb).2; omega)) (fun h => by omega)), c2.tight, fun k ha hb => hb.1.elim (fun hb => ha.1.elim (fun h => a3 k h hb) (fun h => by have := (a5 k hb).2; omega)) (fun h => by omega), fun k ha => ⟨hT k ha.1, Nat.lt_of_lt_of_le ha.2 k2.size⟩, fun k hb => ⟨hT2 k hb.1, hb.2⟩⟩, kS2⟩
theorem AtRes.keep {i : Int} {lo hi : Nat} {e : Ending} (h : AtRes ms i lo hi e w) (hs : w.heap.size ≤ w'.heap.size) (hk : ∀ g, lo ≤ g → g < w.heap.size → w'.heap[g]? = w.heap[g]?) : AtRes ms i lo hi e w' := by
  obtain ⟨la, lc, ea, ec, h1, h2⟩ := h
  exact ⟨la, lc, ea, ec, h1, h2.keep hs (fun g hg hl => hk g hg.1 hl)⟩
theorem two_takeA (h : TwoM S w bb rb most ms ns) (i : Int) (hi : i ≤ 9223372036854775807) (hc : ms.length ≤ 1048576) :
    Calls Try.prog 12 #[ptrV bb, .int .i64 i] w fun e w1 => (∃ hi, AtRes ms i w.heap.size hi e w1) ∧ TwoM (fun k => S k ∧ k < w.heap.size) w1 bb rb most (takeS ms i) ns ∧ Kept (fun k => S k ∧ k < w.heap.size) w w1 := by
  obtain ⟨Sa, Sb, a1, a2, a3, a4, a5⟩ := h
  refine (Take_any a1 i hi hc).mono ?_
  rintro e w1 ⟨hi', r1, b1, k1, s1⟩
  refine ⟨⟨hi', r1⟩, ⟨_, Sb, b1, a2.other k1 (fun k hlt hb ha => a3 k ha.1 hb), fun k ha hb => a3 k ha.1 hb, fun k ha => ⟨a4 k ha.1, Nat.lt_of_lt_of_le ha.2 k1.size⟩, fun k hb => ⟨a5 k hb, Nat.lt_of_lt_of_le (a5 k hb).2 k1.size⟩⟩, k1.mono (fun k _ hk => a4 k hk.1)⟩
theorem two_takeR (h : TwoM S w bb rb most ms ns) (i : Int) (hi : i ≤ 9223372036854775807) (hc : ns.length ≤ 1048576) :
    Calls Try.prog 13 #[ptrV rb, .int .i64 i] w fun e w1 => (∃ hi, AtRes ns i w.heap.size hi e w1) ∧ TwoM (fun k => S k ∨ w.heap.size ≤ k) w1 bb rb most ms (takeS ns i) ∧ Kept S w w1 := by
  obtain ⟨Sa, Sb, a1, a2, a3, a4, a5⟩ := h
  refine (refTake_any a2 i hi hc).mono ?_
  rintro e w1 ⟨hi', r1, b1, k1, s0, s1⟩
  refine ⟨⟨hi', r1⟩, ⟨Sa, fun k => (Sb k ∨ w.heap.size ≤ k) ∧ k < w1.heap.size, a1.other k1 (fun k hlt ha hb => a3 k ha hb.1), b1.tight.mono (fun k _ hk => ⟨hk.1.elim (fun h => .inl h.1) (fun h => .inr (Nat.le_trans s0 h)), hk.2⟩), fun k ha hb => hb.1.elim (fun h => a3 k ha h) (fun h => by have := (a4 k ha).2; omega), fun k ha => ⟨.inl (a4 k ha).1, Nat.lt_of_lt_of_le (a4 k ha).2 k1.size⟩, fun k hb => ⟨hb.1.elim (fun h => .inl (a5 k h).1) .inr, hb.2⟩⟩, k1.mono (fun k _ hk => (a5 k hk.1).1)⟩
end
end Go.Proofs.Ytheldpdckgoniaa
