/- Journals beside other things: opened, appended to, within pairs. -/
import Derived.Test.YtnffjoflkeagfaaOneFile
namespace Go.Proofs.Ytnffjoflkeagfaa
open Go.RowKit Go.Maps

section
variable {Q1 Q2 : (Nat → Prop) → World → Prop} {S : Nat → Prop} {w w' : World}
theorem Pair.step1e {Q1' : Ending → (Nat → Prop) → World → Prop} (t1 : Thing Q1) (t1' : ∀ e, Thing (Q1' e)) (t2 : Thing Q2) (h : Pair Q1 Q2 S w) (hS : ∀ k, w.heap.size ≤ k → S k) {P : Program} {f : FuncId} {args : Array Value}
    (hc : ∀ T : Nat → Prop, (∀ k, w.heap.size ≤ k → T k) → (∀ k, T k → S k) → Q1 T w → Calls P f args w fun e w' => Q1' e T w' ∧ Kept T w w') :
    Calls P f args w fun e w' => Pair (Q1' e) Q2 S w' ∧ Kept S w w' := by
  obtain ⟨Sa, Sb, h1, h2, h3, h4, h5⟩ := h
  have hT : ∀ k, (Sa k ∨ w.heap.size ≤ k) → S k := fun k hk => hk.elim (fun h => (h4 k h).1) (hS k)
  refine (hc (fun k => Sa k ∨ w.heap.size ≤ k) (fun k hk => .inr hk) hT (t1.mono h1 (fun k _ hk => .inl hk))).mono ?_
  rintro e w' ⟨hq, hk⟩
  refine ⟨⟨_, Sb, (t1' e).tight hq, t2.other h2 hk (fun k hlt hb ha => ha.elim (fun h => h3 k h hb) (fun h => by omega)), fun k ha hb => ha.1.elim (fun h => h3 k h hb) (fun h => by have := (h5 k hb).2; omega),
    fun k ha => ⟨hT k ha.1, ha.2⟩, fun k hb => ⟨(h5 k hb).1, Nat.lt_of_lt_of_le (h5 k hb).2 hk.size⟩⟩, hk.mono (fun k _ => hT k)⟩
theorem Pair.imp1 {Q1' : (Nat → Prop) → World → Prop} (h : Pair Q1 Q2 S w) (hi : ∀ T, Q1 T w → Q1' T w) : Pair Q1' Q2 S w := by
  obtain ⟨Sa, Sb, h1, h2, r⟩ := h
  exact ⟨Sa, Sb, hi _ h1, h2, r⟩
theorem Pair.midw {A B C : (Nat → Prop) → World → Prop} {S : Nat → Prop} {w : World} (h : Pair (Pair A B) C S w) : Pair (Pair A C) B S w := by
  obtain ⟨Sab, Sc, ⟨Sa, Sb, a, b, d1, d2, d3⟩, c, e1, e2, e3⟩ := h
  exact ⟨fun k => Sa k ∨ Sc k, Sb, ⟨Sa, Sc, a, c, fun k h1 h2 => e1 k (d2 k h1).1 h2, fun k hk => ⟨.inl hk, (d2 k hk).2⟩, fun k hk => ⟨.inr hk, (e3 k hk).2⟩⟩, b,
    fun k h1 h2 => h1.elim (fun h => d1 k h h2) (fun h => e1 k (d3 k h2).1 h), fun k hk => hk.elim (fun h => e2 k (d2 k h).1) (fun h => e3 k h), fun k hk => e2 k (d3 k hk).1⟩
end
theorem Pair.assoc {A B C : (Nat → Prop) → World → Prop} {S : Nat → Prop} {w : World} (h : Pair (Pair A B) C S w) : Pair A (Pair B C) S w := by
  obtain ⟨Sab, Sc, ⟨Sa, Sb, a, b, d1, d2, d3⟩, c, e1, e2, e3⟩ := h
  exact ⟨Sa, fun k => Sb k ∨ Sc k, a, ⟨Sb, Sc, b, c, fun k h1 h2 => e1 k (d3 k h1).1 h2, fun k hk => ⟨.inl hk, (d3 k hk).2⟩, fun k hk => ⟨.inr hk, (e3 k hk).2⟩⟩,
    fun k h1 h2 => h2.elim (fun h => d1 k h1 h) (fun h => e1 k (d2 k h1).1 h), fun k hk => e2 k (d2 k hk).1, fun k hk => hk.elim (fun h => e2 k (d3 k h).1) (fun h => e3 k h)⟩
theorem Pair.assoc' {A B C : (Nat → Prop) → World → Prop} {S : Nat → Prop} {w : World} (h : Pair A (Pair B C) S w) : Pair (Pair A B) C S w := by
  obtain ⟨Sa, Sbc, a, ⟨Sb, Sc, b, c, d1, d2, d3⟩, e1, e2, e3⟩ := h
  exact ⟨fun k => Sa k ∨ Sb k, Sc, ⟨Sa, Sb, a, b, fun k h1 h2 => e1 k h1 (d2 k h2).1, fun k hk => ⟨.inl hk, (e2 k hk).2⟩, fun k hk => ⟨.inr hk, (d2 k hk).2⟩⟩, c,
    fun k h1 h2 => h1.elim (fun h => e1 k h (d3 k h2).1) (fun h => d1 k h h2), fun k hk => hk.elim (fun h => e2 k h) (fun h => e3 k (d2 k h).1), fun k hk => e3 k (d3 k hk).1⟩
/-- disk and journal -/
abbrev DJ (db wb : Nat) (s : St) (L : Recs) : (Nat → Prop) → World → Prop := Pair (DiskQ db s) (WalQ wb db nJ L)
theorem djThing (db wb : Nat) (s : St) (L : Recs) : Thing (DJ db wb s L) := pairThing (diskThing _ _) (walThing _ _ _ _)
def OpQ (db : Nat) (s' : St) (L : Recs) (e : Ending) : (Nat → Prop) → World → Prop := fun S w => ∃ wb, e = .returned (.tuple #[ptrV wb, .int .i64 0]) ∧ DJ db wb s' L S w
theorem opThing (db : Nat) (s' : St) (L : Recs) (e : Ending) : Thing (OpQ db s' L e) :=
  ⟨fun h hS => by obtain ⟨wb, he, h⟩ := h; exact ⟨wb, he, (djThing _ _ _ _).mono h hS⟩, fun h => by obtain ⟨wb, he, h⟩ := h; exact ⟨wb, he, (djThing _ _ _ _).tight h⟩, fun h hk hS => by obtain ⟨wb, he, h⟩ := h; exact ⟨wb, he, (djThing _ _ _ _).other h hk hS⟩⟩
section
variable {Q R : (Nat → Prop) → World → Prop} {S : Nat → Prop} {w w' : World} {db wb : Nat} {s s' : St} {L : Recs}
/-- Open, of a disk with another thing beside it -/
theorem Open_beside (tQ : Thing Q) (h : Pair (DiskQ db s) Q S w) (hS : ∀ k, w.heap.size ≤ k → S k) (hc : s.fs.length ≤ 1048576) (hu : usedF s.fs ≤ 274877906944) (he : openS s kJ = (some L, 0, s')) :
    Calls Try.prog 25 #[ptrV db, .string nJ] w fun e w' => (∃ wb, e = .returned (.tuple #[ptrV wb, .int .i64 0]) ∧ Pair (DJ db wb s' L) Q S w') ∧ Kept S w w' := by
  refine (Pair.step1e (diskThing _ _) (opThing db s' L) tQ h hS (fun T hT _ hq => (Open_some hq hT (by omega) (by omega) he).mono (fun e w' hh => ?_))).mono ?_
  · obtain ⟨wb, he, hp, hk⟩ := hh
    exact ⟨⟨wb, he, hp⟩, hk⟩
  · rintro e w' ⟨⟨Sa, Sb, ⟨wb, he, h1⟩, h2, r⟩, hk⟩
    exact ⟨⟨wb, he, Sa, Sb, h1, h2, r⟩, hk⟩
theorem wAppend_beside (tQ : Thing Q) (h : Pair (DJ db wb s L) Q S w) (hS : ∀ k, w.heap.size ≤ k → S k) (hm : s.fs.length ≤ 1048576) (hu : usedF s.fs ≤ 274877906944)
    {v : Value} {l : Recs} (hv : TxtOff S w v l) (hall : ∀ c ∈ l, c.size ≤ 65536) (hl : l.length ≤ 1048576) (hL : L.length ≤ 1048576) (hne : l ≠ []) :
    Calls Try.prog 26 #[ptrV wb, v] w fun e w' => e = .returned (.int .i64 (writeS s kJ L l).1) ∧ Pair (DJ db wb (writeS s kJ L l).2.2 (writeS s kJ L l).2.1) Q S w' ∧ Kept S w w' :=
  Pair.step1 (djThing _ _ _ _) (djThing db wb (writeS s kJ L l).2.2 (writeS s kJ L l).2.1) tQ h hS (X := fun e _ => e = .returned (.int .i64 (writeS s kJ L l).1)) (fun T hT hTS hq => wAppend_any (name := nJ) hq hT hm hu (by decide) (hv.mono hTS) hall hl hL hne)
theorem wRewrite_beside (tQ : Thing Q) (h : Pair (DJ db wb s L) Q S w) (hS : ∀ k, w.heap.size ≤ k → S k) (hm : s.fs.length ≤ 1048576) (hu : usedF s.fs ≤ 274877906944)
    {v : Value} {l : Recs} (hv : TxtOff S w v l) (hall : ∀ c ∈ l, c.size ≤ 65536) (hl : l.length ≤ 1048576) :
    Calls Try.prog 27 #[ptrV wb, v] w fun e w' => e = .returned (.int .i64 (otherS s kJ L l).1) ∧ Pair (DJ db wb (otherS s kJ L l).2.2 (otherS s kJ L l).2.1) Q S w' ∧ Kept S w w' :=
  Pair.step1 (djThing _ _ _ _) (djThing db wb (otherS s kJ L l).2.2 (otherS s kJ L l).2.1) tQ h hS (X := fun e _ => e = .returned (.int .i64 (otherS s kJ L l).1)) (fun T hT hTS hq => wRewrite_any (name := nJ) hq hT hm hu (by decide) (hv.mono hTS) hall hl)
/-- .. a literal list -/
theorem wAppend_blit (tQ : Thing Q) (h : Pair (DJ db wb s L) Q S w) (hS : ∀ k, w.heap.size ≤ k → S k) (hm : s.fs.length ≤ 1048576) (hu : usedF s.fs ≤ 274877906944)
    {l : Recs} (T : TypeId) (hall : ∀ c ∈ l, c.size ≤ 65536) (hl : l.length ≤ 1048576) (hL : L.length ≤ 1048576) (hne : l ≠ []) :
    Calls Try.prog 26 #[ptrV wb, .slice (some ⟨w.heap.size, 0, none⟩) l.length l.length] (w.alloc (.cells (cellsOf strC l).toArray T)) fun e w' => e = .returned (.int .i64 (writeS s kJ L l).1) ∧ Pair (DJ db wb (writeS s kJ L l).2.2 (writeS s kJ L l).2.1) Q S w' ∧ Kept S w w' := by
  have hb : Below w.heap.size w (w.alloc (.cells (cellsOf strC l).toArray T)) := (Below.refl _ _).alloc (Nat.le_refl _) _
  have hsz : (w.alloc (.cells (cellsOf strC l).toArray T)).heap.size = w.heap.size + 1 := by simp
  have tt := pairThing (djThing db wb s L) tQ
  have h1 := tt.below (tt.mono (S' := fun k => S k ∧ k ≠ w.heap.size) h (fun k hl hk => ⟨hk, by omega⟩)) hb
  refine (wAppend_beside tQ h1 (fun k hk => ⟨hS k (by omega), by omega⟩) hm hu (txt_lit (fun hh => hh.2 rfl) l T) hall hl hL hne).mono ?_
  rintro e w' ⟨rfl, hd, hk⟩
  exact ⟨rfl, (pairThing (djThing _ _ _ _) tQ).mono hd (fun k _ hh => hh.1), (Kept.of_below hb).trans (hk.mono (fun k _ hh => hh.1))⟩
end
/-- a row of the law's own grows -/
theorem row_grow {S : Nat → Prop} {w w1 w2 : World} {v v' : Value} {L L' : Recs} (h : RowS S w v L) (hS : ∀ k, w.heap.size ≤ k → S k) (hb : Below w.heap.size w w1) (hg : w1.grownBy w2 v.ownBlock)
    (ho : w2.ownsRow 0 9 1 v' L'.length (cellsOf strC L')) (hat : v'.ownBlock = v.ownBlock ∨ v'.ownBlock = some w1.heap.size) : RowS S w2 v' L' ∧ Kept S w w2 := by
  have k3 : Kept S w1 w2 := by
    cases e : v.ownBlock with
    | none => rw [e] at hg; exact ⟨hg.os, hg.tape, hg.output, hg.size, fun i hi _ => hg.block i hi (by simp)⟩
    | some g => rw [e] at hg; exact Kept.of_but hg (h.2 g e)
  refine ⟨⟨ho, fun g hg' => ?_⟩, (Kept.of_below hb).trans k3⟩
  rcases hat with hat | hat
  · rw [hat] at hg'; exact h.2 g hg'
  · rw [hat] at hg'
    have : w1.heap.size = g := by simpa using hg'
    exact hS g (by rw [← this]; exact hb.size)
theorem open_new (room : Int) : openS (newS room) kJ = (some [], 0, newS room) := by kernel_rfl
theorem con_new (room : Int) : Con (newS room) [] 0 := .inl ⟨rfl, rfl, rfl⟩
end Go.Proofs.Ytnffjoflkeagfaa
