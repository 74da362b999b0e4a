/- Both journals of the law: the program's, the document's. Both journals opened anew. How much a script's disk holds; both sides' appends. -/
import Derived.Test.YtnffjoflkeagfaaGreatJ3
import Derived.Test.YtnffjoflkeagfaaGreatJ4
import Derived.Test.YtnffjoflkeagfaaGreatD6
import Derived.Deep.RegionHeld3
namespace Go.Proofs.YtnffjoflkeagfaaGreat
open Go.RowKit Go.Maps

section
variable {Q1 Q2 : (Nat → Prop) → World → Prop} {S : Nat → Prop} {w w' : World}
/-- a call that goes to the first; what it hands back is met later -/
theorem Pair.step1x {ι : Type} {Q1' : ι → (Nat → Prop) → World → Prop} {X : ι → Ending → Prop} (t1 : Thing Q1) (t1' : ∀ i, Thing (Q1' i)) (t2 : Thing Q2) (h : Pair Q1 Q2 S w) (hS : ∀ k, w.heap.size ≤ k → S k) {P : Program} {f : FuncId} {args : Array Value}
    (hc : ∀ T : Nat → Prop, (∀ k, w.heap.size ≤ k → T k) → (∀ k, T k → S k) → Q1 T w → Calls P f args w fun e w' => ∃ i, X i e ∧ Q1' i T w' ∧ Kept T w w') :
    Calls P f args w fun e w' => ∃ i, X i e ∧ Pair (Q1' i) Q2 S w' ∧ Kept S w w' := by
  obtain ⟨Sa, Sb, h1, h2, h3, h4, h5⟩ := h
  have hT : ∀ k, (Sa k ∨ w.heap.size ≤ k) → S k := fun k hk => hk.elim (fun h => (h4 k h).1) (hS k)
  refine (hc (fun k => Sa k ∨ w.heap.size ≤ k) (fun k hk => .inr hk) hT (t1.mono h1 (fun k _ hk => .inl hk))).mono ?_
  rintro e w' ⟨i, hx, hq, hk⟩
  refine ⟨i, hx, ⟨_, Sb, (t1' i).tight hq, t2.other h2 hk (fun k hlt hb ha => ha.elim (fun h => h3 k h hb) (fun h => by omega)), fun k ha hb => ha.1.elim (fun h => h3 k h hb) (fun h => by have := (h5 k hb).2; omega),
    fun k ha => ⟨hT k ha.1, ha.2⟩, fun k hb => ⟨(h5 k hb).1, Nat.lt_of_lt_of_le (h5 k hb).2 hk.size⟩⟩, hk.mono (fun k _ => hT k)⟩
theorem Pair.step2x {ι : Type} {Q2' : ι → (Nat → Prop) → World → Prop} {X : ι → Ending → Prop} (t1 : Thing Q1) (t2 : Thing Q2) (t2' : ∀ i, Thing (Q2' i)) (h : Pair Q1 Q2 S w) (hS : ∀ k, w.heap.size ≤ k → S k) {P : Program} {f : FuncId} {args : Array Value}
    (hc : ∀ T : Nat → Prop, (∀ k, w.heap.size ≤ k → T k) → (∀ k, T k → S k) → Q2 T w → Calls P f args w fun e w' => ∃ i, X i e ∧ Q2' i T w' ∧ Kept T w w') :
    Calls P f args w fun e w' => ∃ i, X i e ∧ Pair Q1 (Q2' i) S w' ∧ Kept S w w' :=
  (Pair.step1x t2 t2' t1 h.swap hS hc).mono (fun _ _ ⟨i, hx, hp, hk⟩ => ⟨i, hx, hp.swap, hk⟩)
end
/-- the program's side: its disk, and a journal, if there is one -/
abbrev SideD (db : Nat) (s : St) (o : Option Recs) (pv : Value) : (Nat → Prop) → World → Prop := fun S w => OpenQ db nJ o s pv S w
abbrev SideR (rb : Nat) (s : St) (o : Option Recs) (pv : Value) : (Nat → Prop) → World → Prop := fun S w => ROpenQ rb nJ o s pv S w
theorem sideD (db : Nat) (s : St) (o : Option Recs) (pv : Value) : Thing (SideD db s o pv) := by
  cases o with
  | none => exact ⟨fun h hS => ⟨h.1, (diskThing _ _).mono h.2 hS⟩, fun h => ⟨h.1, (diskThing _ _).tight h.2⟩, fun h hk hS => ⟨h.1, (diskThing _ _).other h.2 hk hS⟩⟩
  | some L => exact ⟨fun h hS => by obtain ⟨wb, e, h⟩ := h; exact ⟨wb, e, (djThing _ _ _ _).mono h hS⟩, fun h => by obtain ⟨wb, e, h⟩ := h; exact ⟨wb, e, (djThing _ _ _ _).tight h⟩, fun h hk hS => by obtain ⟨wb, e, h⟩ := h; exact ⟨wb, e, (djThing _ _ _ _).other h hk hS⟩⟩
abbrev RJ (rb xb : Nat) (s : St) (L : Recs) : (Nat → Prop) → World → Prop := Pair (RefQ rb s) (RWalQ xb rb nJ L)
theorem rjThing (rb xb : Nat) (s : St) (L : Recs) : Thing (RJ rb xb s L) := pairThing (refThing _ _) (rwalThing _ _ _ _)
theorem sideR (rb : Nat) (s : St) (o : Option Recs) (pv : Value) : Thing (SideR rb s o pv) := by
  cases o with
  | none => exact ⟨fun h hS => ⟨h.1, (refThing _ _).mono h.2 hS⟩, fun h => ⟨h.1, (refThing _ _).tight h.2⟩, fun h hk hS => ⟨h.1, (refThing _ _).other h.2 hk hS⟩⟩
  | some L => exact ⟨fun h hS => by obtain ⟨wb, e, h⟩ := h; exact ⟨wb, e, (rjThing _ _ _ _).mono h hS⟩, fun h => by obtain ⟨wb, e, h⟩ := h; exact ⟨wb, e, (rjThing _ _ _ _).tight h⟩, fun h hk hS => by obtain ⟨wb, e, h⟩ := h; exact ⟨wb, e, (rjThing _ _ _ _).other h hk hS⟩⟩
section
variable {S : Nat → Prop} {w w' : World} {db rb : Nat} {s s' : St} {o : Option Recs} {pv : Value}
theorem sideD_disk (h : SideD db s o pv S w) : DiskAt S w db s := by
  cases o with
  | none => exact h.2
  | some L => obtain ⟨wb, _, h⟩ := h; exact Pair.fst (diskThing _ _) h
theorem sideR_ref (h : SideR rb s o pv S w) : RefAt S w rb s := by
  cases o with
  | none => exact h.2
  | some L => obtain ⟨wb, _, h⟩ := h; exact Pair.fst (refThing _ _) h
/-- a call of the disk, whatever journal there is -/
theorem sideD_step (h : SideD db s o pv S w) (hS : ∀ k, w.heap.size ≤ k → S k) {P : Program} {f : FuncId} {args : Array Value} {X : Ending → Prop}
    (hc : ∀ T : Nat → Prop, (∀ k, w.heap.size ≤ k → T k) → (∀ k, T k → S k) → DiskAt T w db s → Calls P f args w fun e w' => X e ∧ DiskAt T w' db s' ∧ Kept T w w') :
    Calls P f args w fun e w' => X e ∧ SideD db s' o pv S w' ∧ Kept S w w' := by
  cases o with
  | none => exact (hc S hS (fun _ h => h) h.2).mono (fun e w' hh => ⟨hh.1, ⟨h.1, hh.2.1⟩, hh.2.2⟩)
  | some L =>
    obtain ⟨wb, e, h⟩ := h
    exact (Pair.step1 (diskThing _ _) (diskThing db s') (walThing _ _ _ _) h hS (X := fun e _ => X e) hc).mono (fun _ w' hh => ⟨hh.1, ⟨wb, e, hh.2.1⟩, hh.2.2⟩)
theorem sideR_step (h : SideR rb s o pv S w) (hS : ∀ k, w.heap.size ≤ k → S k) {P : Program} {f : FuncId} {args : Array Value} {X : Ending → Prop}
    (hc : ∀ T : Nat → Prop, (∀ k, w.heap.size ≤ k → T k) → (∀ k, T k → S k) → RefAt T w rb s → Calls P f args w fun e w' => X e ∧ RefAt T w' rb s' ∧ Kept T w w') :
    Calls P f args w fun e w' => X e ∧ SideR rb s' o pv S w' ∧ Kept S w w' := by
  cases o with
  | none => exact (hc S hS (fun _ h => h) h.2).mono (fun e w' hh => ⟨hh.1, ⟨h.1, hh.2.1⟩, hh.2.2⟩)
  | some L =>
    obtain ⟨wb, e, h⟩ := h
    exact (Pair.step1 (refThing _ _) (refThing rb s') (rwalThing _ _ _ _) h hS (X := fun e _ => X e) hc).mono (fun _ w' hh => ⟨hh.1, ⟨wb, e, hh.2.1⟩, hh.2.2⟩)
end
/-- the law's own pair of pointers -/
abbrev twoO (db rb : Nat) (wp xp : Value) : Obj := .cells #[ptrV db, ptrV rb, wp, xp] 33 (0, 0)
def TwoQ (tb db rb : Nat) (wp xp : Value) : (Nat → Prop) → World → Prop := fun S w => S tb ∧ w.heap[tb]? = some (twoO db rb wp xp)
theorem two_lt {S : Nat → Prop} {w : World} {tb db rb : Nat} {wp xp : Value} (h : TwoQ tb db rb wp xp S w) : tb < w.heap.size := (Array.getElem?_eq_some_iff.1 h.2).1
theorem twoThing (tb db rb : Nat) (wp xp : Value) : Thing (TwoQ tb db rb wp xp) :=
  ⟨fun h hS => ⟨hS _ (two_lt h) h.1, h.2⟩, fun h => ⟨⟨h.1, two_lt h⟩, h.2⟩, fun h hk hS => ⟨h.1, (hk.block _ (two_lt h) (hS _ (two_lt h) h.1)).trans h.2⟩⟩
theorem two_cells {S : Nat → Prop} {w : World} {tb db rb : Nat} {wp xp : Value} (h : TwoQ tb db rb wp xp S w) :
    w.cell? ⟨tb, 0, none⟩ = some (ptrV db) ∧ w.cell? ⟨tb, 1, none⟩ = some (ptrV rb) ∧ w.cell? ⟨tb, 2, none⟩ = some wp ∧ w.cell? ⟨tb, 3, none⟩ = some xp ∧ ∀ j, w.frozen? ⟨tb, j, none⟩ = false := by
  refine ⟨?_, ?_, ?_, ?_, fun j => Lib.frozen_of_heap h.2 j⟩ <;> rw [Lib.cell_of_heap h.2] <;> rfl
theorem two_set2 {S : Nat → Prop} {w : World} {tb db rb : Nat} {wp xp wp' : Value} (h : TwoQ tb db rb wp xp S w) : TwoQ tb db rb wp' xp S (w.setCell ⟨tb, 2, none⟩ wp') ∧ Kept S w (w.setCell ⟨tb, 2, none⟩ wp') := by
  refine ⟨⟨h.1, ?_⟩, (Kept.refl _ _).set (.inl h.1) _⟩
  have := h.2
  simp [World.setCell, Array.getElem?_modify, this, twoO]
theorem two_set3 {S : Nat → Prop} {w : World} {tb db rb : Nat} {wp xp xp' : Value} (h : TwoQ tb db rb wp xp S w) : TwoQ tb db rb wp xp' S (w.setCell ⟨tb, 3, none⟩ xp') ∧ Kept S w (w.setCell ⟨tb, 3, none⟩ xp') := by
  refine ⟨⟨h.1, ?_⟩, (Kept.refl _ _).set (.inl h.1) _⟩
  have := h.2
  simp [World.setCell, Array.getElem?_modify, this, twoO]
/-- all of it -/
abbrev AllP (tb db rb : Nat) (s s' : St) (o o' : Option Recs) (wp xp wp' xp' : Value) : (Nat → Prop) → World → Prop := Pair (Pair (SideD db s o wp) (SideR rb s' o' xp)) (TwoQ tb db rb wp' xp')
theorem allThing (tb db rb : Nat) (s s' : St) (o o' : Option Recs) (wp xp wp' xp' : Value) : Thing (AllP tb db rb s s' o o' wp xp wp' xp') := pairThing (pairThing (sideD _ _ _ _) (sideR _ _ _ _)) (twoThing _ _ _ _ _)
section
variable {S : Nat → Prop} {w w' : World} {tb db rb : Nat} {s s' s2 : St} {o o' o2 : Option Recs} {wp xp wp' xp' wp2 : Value}
theorem all_two (h : AllP tb db rb s s' o o' wp xp wp' xp' S w) : TwoQ tb db rb wp' xp' S w := Pair.snd (twoThing _ _ _ _ _) h
theorem all_d (h : AllP tb db rb s s' o o' wp xp wp' xp' S w) : SideD db s o wp S w := Pair.fst (sideD _ _ _ _) (Pair.fst (pairThing (sideD _ _ _ _) (sideR _ _ _ _)) h)
theorem all_r (h : AllP tb db rb s s' o o' wp xp wp' xp' S w) : SideR rb s' o' xp S w := Pair.snd (sideR _ _ _ _) (Pair.fst (pairThing (sideD _ _ _ _) (sideR _ _ _ _)) h)
/-- a call on the program's side -/
theorem all_stepD {ι : Type} {Q' : ι → (Nat → Prop) → World → Prop} {X : ι → Ending → Prop} (t' : ∀ i, Thing (Q' i)) (h : AllP tb db rb s s' o o' wp xp wp' xp' S w) (hS : ∀ k, w.heap.size ≤ k → S k) {P : Program} {f : FuncId} {args : Array Value}
    (hc : ∀ T : Nat → Prop, (∀ k, w.heap.size ≤ k → T k) → (∀ k, T k → S k) → SideD db s o wp T w → Calls P f args w fun e w' => ∃ i, X i e ∧ Q' i T w' ∧ Kept T w w') :
    Calls P f args w fun e w' => ∃ i, X i e ∧ Pair (Pair (Q' i) (SideR rb s' o' xp)) (TwoQ tb db rb wp' xp') S w' ∧ Kept S w w' :=
  Pair.step1x (pairThing (sideD _ _ _ _) (sideR _ _ _ _)) (fun i => pairThing (t' i) (sideR _ _ _ _)) (twoThing _ _ _ _ _) h hS (fun T hT hTS hq =>
    Pair.step1x (sideD _ _ _ _) t' (sideR _ _ _ _) hq hT (fun T' hT' hTS' hq' => hc T' hT' (fun k hk => hTS k (hTS' k hk)) hq'))
theorem all_stepR {ι : Type} {Q' : ι → (Nat → Prop) → World → Prop} {X : ι → Ending → Prop} (t' : ∀ i, Thing (Q' i)) (h : AllP tb db rb s s' o o' wp xp wp' xp' S w) (hS : ∀ k, w.heap.size ≤ k → S k) {P : Program} {f : FuncId} {args : Array Value}
    (hc : ∀ T : Nat → Prop, (∀ k, w.heap.size ≤ k → T k) → (∀ k, T k → S k) → SideR rb s' o' xp T w → Calls P f args w fun e w' => ∃ i, X i e ∧ Q' i T w' ∧ Kept T w w') :
    Calls P f args w fun e w' => ∃ i, X i e ∧ Pair (Pair (SideD db s o wp) (Q' i)) (TwoQ tb db rb wp' xp') S w' ∧ Kept S w w' :=
  Pair.step1x (pairThing (sideD _ _ _ _) (sideR _ _ _ _)) (fun i => pairThing (sideD _ _ _ _) (t' i)) (twoThing _ _ _ _ _) h hS (fun T hT hTS hq =>
    Pair.step2x (sideD _ _ _ _) (sideR _ _ _ _) t' hq hT (fun T' hT' hTS' hq' => hc T' hT' (fun k hk => hTS k (hTS' k hk)) hq'))
theorem all_set2 (h : AllP tb db rb s s' o o' wp xp wp' xp' S w) (hS : ∀ k, w.heap.size ≤ k → S k) (v : Value) : AllP tb db rb s s' o o' wp xp v xp' S (w.setCell ⟨tb, 2, none⟩ v) ∧ Kept S w (w.setCell ⟨tb, 2, none⟩ v) :=
  Pair.upd2 (pairThing (sideD _ _ _ _) (sideR _ _ _ _)) (twoThing _ _ _ _ _) (twoThing _ _ _ _ _) h hS (fun _ _ _ hq => two_set2 hq)
theorem all_set3 (h : AllP tb db rb s s' o o' wp xp wp' xp' S w) (hS : ∀ k, w.heap.size ≤ k → S k) (v : Value) : AllP tb db rb s s' o o' wp xp wp' v S (w.setCell ⟨tb, 3, none⟩ v) ∧ Kept S w (w.setCell ⟨tb, 3, none⟩ v) :=
  Pair.upd2 (pairThing (sideD _ _ _ _) (sideR _ _ _ _)) (twoThing _ _ _ _ _) (twoThing _ _ _ _ _) h hS (fun _ _ _ hq => two_set3 hq)
end
end Go.Proofs.YtnffjoflkeagfaaGreat
namespace Go.Proofs.YtnffjoflkeagfaaGreat
open Go.RowKit Go.Maps

abbrev k2J : ByteArray := nJ
theorem Open_side {S : Nat → Prop} {w : World} {db : Nat} {s : St} {o : Option Recs} {wp : Value} (h : SideD db s o wp S w) (hS : ∀ k, w.heap.size ≤ k → S k) (hm : s.fs.length ≤ 1048576) (hu : usedF s.fs ≤ 274877906944) :
    Calls Tryz.prog 13 #[ptrV db, .string nJ] w fun e w' => ∃ pv, e = .returned (.tuple #[pv, .int .i64 (openS s kJ).2.1]) ∧ SideD db (openS s kJ).2.2 (openS s kJ).1 pv S w' ∧ Kept S w w' := by
  have := Open_any (sideD_disk h) hS ⟨by omega, by omega⟩ (by omega) nJ (by decide)
  exact this
theorem ROpen_side {S : Nat → Prop} {w : World} {rb : Nat} {s : St} {o : Option Recs} {xp : Value} (h : SideR rb s o xp S w) (hS : ∀ k, w.heap.size ≤ k → S k) (hm : s.fs.length ≤ 1048576) (hu : usedF s.fs ≤ 274877906944) :
    Calls Tryz.prog 19 #[ptrV rb, .string nJ] w fun e w' => ∃ pv, e = .returned (.tuple #[pv, .bool (openS s kJ).1.isSome]) ∧ SideR rb (openS s kJ).2.2 (openS s kJ).1 pv S w' ∧ Kept S w w' := by
  have := ROpen_any (sideR_ref h) hS (by omega) (by omega) nJ (by decide)
  exact this
set_option maxHeartbeats 4000000 in
set_option maxRecDepth 100000 in
theorem topen_any {S : Nat → Prop} {w : World} {tb db rb : Nat} {s : St} {o : Option Recs} {wp xp wp' xp' : Value} (h : AllP tb db rb s s o o wp xp wp' xp' S w) (hS : ∀ k, w.heap.size ≤ k → S k) (hm : s.fs.length ≤ 1048575) (hu : usedF s.fs ≤ 274877906944)
    (hL : ∀ L, (openS s kJ).1 = some L → L.length ≤ 1099511627776) :
    Calls Tryz.prog 8 #[ptrV tb] w fun e w' => e = .returned (.bool true) ∧ (∃ wp xp, AllP tb db rb (openS s kJ).2.2 (openS s kJ).2.2 (openS s kJ).1 (openS s kJ).1 wp xp wp xp S w') ∧ Kept S w w' := by
  obtain ⟨c0, c1, _, _, _⟩ := two_cells (all_two h)
  have HC := Lib.hid (all_stepD (fun pv => sideD db (openS s kJ).2.2 (openS s kJ).1 pv) h hS (X := fun pv e => e = .returned (.tuple #[pv, .int .i64 (openS s kJ).2.1])) (fun T hT _ hq => Open_side hq hT (by omega) hu))
  have hr : ∀ (w1 : World) (pv : Value), AllP tb db rb (openS s kJ).2.2 s (openS s kJ).1 o pv xp wp' xp' S w1 → Kept S w w1 → _ := fun w1 pv hp hk =>
    all_stepR (fun qv => sideR rb (openS s kJ).2.2 (openS s kJ).1 qv) hp (fun k hk' => hS k (Nat.le_trans hk.size hk')) (X := fun qv e => e = .returned (.tuple #[qv, .bool (openS s kJ).1.isSome])) (fun T hT _ hq => ROpen_side hq hT (by omega) hu)
  have HR := Lib.hid hr
  have hoe := open_err s kJ
  have hok := fun L => open_ok s kJ L
  clear h hr
  generalize openS s kJ = O at *
  obtain ⟨o', e', s'⟩ := O
  simp only at HC HR hoe hok hL
  go_enter Tryz.func8, Tryz.ntmps8
  go_wp2_with fail
  refine HC.out.mono ?_
  rintro e w1 ⟨pv, rfl, p1, k1⟩
  obtain ⟨d0, d1, _, _, _⟩ := two_cells (all_two p1)
  have HR1 := Lib.hid (HR.out w1 pv p1 k1)
  have K1 := Lib.hid k1
  clear p1 k1 HC HR
  go_wp2_with fail
  refine HR1.out.mono ?_
  rintro e w2 ⟨qv, rfl, p2, k2⟩
  have P2 := Lib.hid p2
  have K2 : Hid (Kept S w w2) := K1.out.trans k2
  obtain ⟨_, _, g2, g3, hfz⟩ := two_cells (all_two p2)
  have f2 := hfz 2
  have f3 := hfz 3
  have hS2 : ∀ k, w2.heap.size ≤ k → S k := fun k hk => hS k (Nat.le_trans K2.out.size hk)
  have HS2 := Lib.hid hS2
  clear k2 HR1 hfz hS2
  cases o' with
  | none =>
    obtain ⟨rfl, _⟩ := all_d p2
    obtain ⟨rfl, _⟩ := all_r p2
    have he : e' = 41 := hoe rfl
    subst he
    clear p2 hoe hok hL
    go_wp2
    go_ret
    have h3 := all_set2 P2.out HS2.out (.pointer none)
    have h4 := all_set3 h3.1 (fun k hk => HS2.out k (Nat.le_trans h3.2.size hk)) (.pointer none)
    exact ⟨rfl, ⟨_, _, h4.1⟩, (K2.out.trans h3.2).trans h4.2⟩
  | some L =>
    obtain ⟨wb, rfl, _⟩ := all_d p2
    obtain ⟨xb, rfl, _⟩ := all_r p2
    have he : e' = 0 := (hok L rfl).1
    subst he
    have h3 := all_set2 P2.out HS2.out (ptrV wb)
    have h4 := all_set3 h3.1 (fun k hk => HS2.out k (Nat.le_trans h3.2.size hk)) (ptrV xb)
    have K4 : Hid (Kept S w _) := (K2.out.trans h3.2).trans h4.2
    have P4 := Lib.hid h4.1
    obtain ⟨wb', ewb, hdj⟩ := all_d h4.1
    cases ewb
    obtain ⟨xb', exb, hrj⟩ := all_r h4.1
    cases exb
    obtain ⟨lv, hx⟩ : RWalQ xb rb nJ L S _ := Pair.snd (rwalThing _ _ _ _) hrj
    obtain ⟨la, lc, rfl⟩ := hx.row.slice
    have x2 := hx.c2
    have hxl := hx.lt
    have hLl := hL L rfl
    have hlx := Fr.ListAt.of_own hx.row.1
    have hwq : WalQ wb db nJ L S _ := Pair.snd (walThing _ _ _ _) hdj
    generalize hw4 : ((w2.setCell ⟨tb, 2, none⟩ (ptrV wb)).setCell ⟨tb, 3, none⟩ (ptrV xb)) = w4 at *
    have HW4 := Lib.hid hw4
    have hrec : ∀ w', w' = w4.drew → Calls Tryz.prog 17 #[ptrV wb] w' fun e w'' => ∃ v', e = .returned v' ∧ (w''.cell? ⟨xb, 2, none⟩ = some (.slice la L.length lc) ∧ Calls Tryz.prog 20 #[v', .slice la L.length lc] w'' fun e w3 => e = .returned (.bool true) ∧ w3.cell? ⟨xb, 2, none⟩ = some (.slice la L.length lc) ∧ Below w4.heap.size w4 w3) := by
      rintro w' rfl
      have hb0 : Below w4.heap.size w4 w4.drew := (Below.refl _ _).drew
      refine (Records_any ((walThing _ _ _ _).below hwq hb0) hLl).mono ?_
      rintro e w'' ⟨v', rfl, ho, hb⟩
      have hb1 : Below w4.heap.size w4 w'' := hb0.trans hb
      refine ⟨v', rfl, (hb1.cell (p := ⟨xb, 2, none⟩) hxl).trans x2, (Fr.same_n _ _ L L.length w'' (Fr.ListAt.of_own ho) (hlx.below hb1) rfl hLl).mono ?_⟩
      rintro e w3 ⟨rfl, hb3⟩
      have hb4 := bw hb1 hb3
      exact ⟨rfl, (hb4.cell (p := ⟨xb, 2, none⟩) hxl).trans x2, hb4⟩
    have HREC := Lib.hid hrec
    have X2 := Lib.hid x2
    have HG := Lib.hid (And.intro g2 (And.intro g3 (And.intro f2 f3)))
    clear p2 hoe hok hL h3 h4 hdj hrj hx hlx hwq hrec hxl x2
    go_wp2_with fail
    go_region_held3 (fun w' => w'.cell? ⟨xb, 2, none⟩ = some (.slice la L.length lc))
      (first
        | exact X2.out
        | exact HM1.out
        | exact HM2.out)
      (first
        | (go_at_call 17; refine (HREC.out _ (by first | rfl | rw [HW4.out])).mono ?_; rintro e w5 ⟨v', rfl, m1, hs⟩; have HM1 := Lib.hid m1; have HSC := Lib.hid hs; clear m1 hs HREC)
        | (go_at_call 20; refine HSC.out.mono ?_; rintro e w6 ⟨rfl, m2, hb6⟩; have HM2 := Lib.hid m2; have HB6 := Lib.hid hb6; clear m2 hb6 HSC))
    all_goals
      go_wp2
      go_ret
      exact ⟨rfl, ⟨_, _, (allThing _ _ _ _ _ _ _ _ _ _ _).below P4.out HB6.out⟩, K4.out.trans (Kept.of_below HB6.out)⟩
end Go.Proofs.YtnffjoflkeagfaaGreat
namespace Go.Proofs.YtnffjoflkeagfaaGreat
open Go.RowKit Go.Maps

structure Mo (s : St) (n u : Nat) : Prop where
  most : Most s n u 281474976710656
  sorted : Sorted s.fs
theorem Mo.mono {s : St} {n u n' u' : Nat} (h : Mo s n u) (hn : n ≤ n') (hu : u ≤ u') : Mo s n' u' := ⟨most_mono h.most hn hu, h.sorted⟩
theorem sorted_change {s : St} (hs : Sorted s.fs) {e : Int} {f1 f2 : Fs} (h1 : Sorted f1) (h2 : Sorted f2) : Sorted (changeS s e f1 f2).2.fs := by
  rcases changeS_fs s e f1 f2 with h | h | h <;> rw [h] <;> assumption
theorem mo_append {s : St} {n u : Nat} (h : Mo s n u) (k b : List UInt8) (hk : k.length ≤ 281474976710656) : Mo (appendS s k b).2 (n + 1) (u + b.length) :=
  ⟨most_append h.most h.sorted hk, sorted_change h.sorted (sorted_put h.sorted _ _) (sorted_put h.sorted _ _)⟩
theorem mo_sync {s : St} {n u : Nat} (h : Mo s n u) (k : List UInt8) (hk : k.length ≤ 281474976710656) : Mo (syncS s k).2 (n + 1) u :=
  ⟨most_sync h.most h.sorted hk, sorted_change h.sorted (sorted_put h.sorted _ _) h.sorted⟩
theorem mo_cut {s : St} {n u : Nat} (h : Mo s n u) (k : List UInt8) (z : Int) (hk : k.length ≤ 281474976710656) : Mo (cutS s k z).2 (n + 1) u :=
  ⟨most_cut h.most h.sorted hk, sorted_change h.sorted (sorted_put h.sorted _ _) h.sorted⟩
theorem mo_replace {s : St} {n u : Nat} (h : Mo s n u) (k b : List UInt8) (hk : k.length ≤ 281474976710656) : Mo (replaceS s k b).2 (n + 1) (u + b.length) :=
  ⟨most_replace h.most h.sorted hk, sorted_change h.sorted (sorted_put h.sorted _ _) h.sorted⟩
theorem mo_crash {s : St} {n u : Nat} (h : Mo s n u) (keep : List Int) : Mo (crashS s keep) n u := by
  refine ⟨most_crash h.most keep, ?_⟩
  have hs := h.sorted
  have : ∀ (l : Fs) (kp : List Int), Sorted l → Sorted (crashF l kp) := by
    intro l
    induction l with
    | nil => intro kp _; exact List.Pairwise.nil
    | cons q r ih =>
      intro kp hs
      obtain ⟨h1, h2⟩ := List.pairwise_cons.1 hs
      unfold crashF
      split
      · exact ih _ h2
      · refine List.pairwise_cons.2 ⟨fun y hy => ?_, ih _ h2⟩
        obtain ⟨z, hz, e⟩ := mem_crash hy
        rw [← e]; exact h1 z hz
  exact this _ _ hs
theorem mo_break {s : St} {n u : Nat} (h : Mo s n u) (z : Int) : Mo (breakS s z) n u := by
  unfold breakS
  split
  · exact h
  · exact ⟨⟨h.most.count, h.most.bytes, h.most.keys⟩, h.sorted⟩
theorem mo_write {s : St} {n u : Nat} (h : Mo s n u) (L l : Recs) : Mo (writeS s kJ L l).2.2 (n + 2) (u + (Fr.joinB l).length) := by
  have h1 := mo_append h kJ (Fr.joinB l) (by decide)
  unfold writeS
  split
  · have h2 := mo_sync h1 kJ (by decide)
    split
    · exact h2
    · exact h2
  · exact h1.mono (by omega) (Nat.le_refl _)
theorem mo_other {s : St} {n u : Nat} (h : Mo s n u) (L l : Recs) : Mo (otherS s kJ L l).2.2 (n + 2) (u + (Fr.joinB l).length) := by
  have h1 := mo_replace h kJ (Fr.joinB l) (by decide)
  unfold otherS
  split
  · exact h1.mono (by omega) (Nat.le_refl _)
  · exact h1.mono (by omega) (Nat.le_refl _)
theorem mo_open {s : St} {n u : Nat} (h : Mo s n u) : Mo (openS s kJ).2.2 (n + 1) u := by
  unfold openS
  split
  · exact h.mono (by omega) (Nat.le_refl _)
  · unfold cutsS
    have h1 := mo_cut h kJ (Fr.scanN (getF s.fs kJ).b : Int) (by decide)
    split
    · split
      · exact h1
      · exact h1
    · exact h.mono (by omega) (Nat.le_refl _)
theorem open_len (s : St) (L : Recs) (h : (openS s kJ).1 = some L) : L.length ≤ usedF s.fs := by
  unfold openS at h
  split at h
  · cases h
  · have h1 := Fr.scan_len (getF s.fs kJ).b
    have h2 := get_le s.fs kJ
    unfold cutsS at h
    split at h
    · split at h
      · cases h; omega
      · cases h
    · cases h; omega
/-- the bound of a script's state -/
structure Bd (s : St) (o : Option Recs) (N : Nat) : Prop where
  mo : Mo s (4 * N) (2000000 * N)
  recs : ∀ L, o = some L → L.length ≤ 2000000 * N
/-- Append, of any list -/
def apS (s : St) (L l : Recs) : Int × Recs × St := if l = [] then (0, L, s) else writeS s kJ L l
theorem apS_len (s : St) (L l : Recs) : (apS s L l).2.1.length ≤ L.length + l.length := by
  unfold apS writeS
  split
  · simp
  · split
    · split
      · simp
      · simp
    · simp
theorem otherS_len (s : St) (L l : Recs) : (otherS s kJ L l).2.1.length ≤ L.length + l.length := by
  unfold otherS
  split <;> simp
theorem mo_ap {s : St} {n u : Nat} (h : Mo s n u) (L l : Recs) : Mo (apS s L l).2.2 (n + 2) (u + (Fr.joinB l).length) := by
  unfold apS
  split
  · exact h.mono (by omega) (by omega)
  · exact mo_write h L l
section
variable {S : Nat → Prop} {w : World} {db rb wb xb : Nat} {s : St} {L : Recs}
theorem wAppend_side (h : SideD db s (some L) (ptrV wb) S w) (hS : ∀ k, w.heap.size ≤ k → S k) (hm : s.fs.length ≤ 1048576) (hu : usedF s.fs ≤ 274877906944) {v : Value} {l : Recs} (hv : TxtOff S w v l) (hall : ∀ c ∈ l, c.size ≤ 65536) (hl : l.length ≤ 1048576) (hL : L.length ≤ 1099511627776) :
    Calls Tryz.prog 14 #[ptrV wb, v] w fun e w' => e = .returned (.int .i64 (apS s L l).1) ∧ SideD db (apS s L l).2.2 (some (apS s L l).2.1) (ptrV wb) S w' ∧ Kept S w w' := by
  obtain ⟨wb', e, h⟩ := h
  cases e
  unfold apS
  by_cases hne : l = []
  · rw [if_pos hne]
    subst hne
    refine (wAppend_none v (ptrV wb) w hv.slice).mono ?_
    rintro e w' ⟨rfl, rfl⟩
    exact ⟨rfl, ⟨wb, rfl, h⟩, Kept.refl _ _⟩
  · rw [if_neg hne]
    exact (wAppend_any (name := nJ) h hS hm hu (by decide) hv hall hl hL hne).mono (fun _ _ hh => ⟨hh.1, ⟨wb, rfl, hh.2.1⟩, hh.2.2⟩)
theorem rAppend_side (h : SideR rb s (some L) (ptrV xb) S w) (hS : ∀ k, w.heap.size ≤ k → S k) (hm : s.fs.length ≤ 1048576) (hu : usedF s.fs ≤ 274877906944) {v : Value} {l : Recs} (hv : TxtOff S w v l) (hall : ∀ c ∈ l, c.size ≤ 65536) (hl : l.length ≤ 1048576) (hL : L.length ≤ 1099511627776) :
    Calls Tryz.prog 21 #[ptrV xb, v] w fun e w' => e = .returned (.int .i64 (apS s L l).1) ∧ SideR rb (apS s L l).2.2 (some (apS s L l).2.1) (ptrV xb) S w' ∧ Kept S w w' := by
  obtain ⟨wb', e, h⟩ := h
  cases e
  unfold apS
  by_cases hne : l = []
  · rw [if_pos hne]
    subst hne
    refine (rAppend_none v (ptrV xb) w hv.slice).mono ?_
    rintro e w' ⟨rfl, rfl⟩
    exact ⟨rfl, ⟨xb, rfl, h⟩, Kept.refl _ _⟩
  · rw [if_neg hne]
    exact (rAppend_any (name := nJ) h hS hm hu (by decide) hv hall hl hL hne).mono (fun _ _ hh => ⟨hh.1, ⟨xb, rfl, hh.2.1⟩, hh.2.2⟩)
theorem wRewrite_side (h : SideD db s (some L) (ptrV wb) S w) (hS : ∀ k, w.heap.size ≤ k → S k) (hm : s.fs.length ≤ 1048576) (hu : usedF s.fs ≤ 274877906944) {v : Value} {l : Recs} (hv : TxtOff S w v l) (hall : ∀ c ∈ l, c.size ≤ 65536) (hl : l.length ≤ 1048576) :
    Calls Tryz.prog 22 #[ptrV wb, v] w fun e w' => e = .returned (.int .i64 (otherS s kJ L l).1) ∧ SideD db (otherS s kJ L l).2.2 (some (otherS s kJ L l).2.1) (ptrV wb) S w' ∧ Kept S w w' := by
  obtain ⟨wb', e, h⟩ := h
  cases e
  exact (wRewrite_any (name := nJ) h hS hm hu (by decide) hv hall hl).mono (fun _ _ hh => ⟨hh.1, ⟨wb, rfl, hh.2.1⟩, hh.2.2⟩)
theorem rRewrite_side (h : SideR rb s (some L) (ptrV xb) S w) (hS : ∀ k, w.heap.size ≤ k → S k) (hm : s.fs.length ≤ 1048576) (hu : usedF s.fs ≤ 274877906944) {v : Value} {l : Recs} (hv : TxtOff S w v l) (hall : ∀ c ∈ l, c.size ≤ 65536) (hl : l.length ≤ 1048576) :
    Calls Tryz.prog 23 #[ptrV xb, v] w fun e w' => e = .returned (.int .i64 (otherS s kJ L l).1) ∧ SideR rb (otherS s kJ L l).2.2 (some (otherS s kJ L l).2.1) (ptrV xb) S w' ∧ Kept S w w' := by
  obtain ⟨wb', e, h⟩ := h
  cases e
  exact (rRewrite_any (name := nJ) h hS hm hu (by decide) hv hall hl).mono (fun _ _ hh => ⟨hh.1, ⟨xb, rfl, hh.2.1⟩, hh.2.2⟩)
/-- both sides, one call each -/
theorem both_sides {tb : Nat} {s s' : St} {o o' : Option Recs} {wp xp wq xq : Value} (h : AllP tb db rb s s o o wp xp wq xq S w) (hS : ∀ k, w.heap.size ≤ k → S k) {f g : FuncId} {x y : Array Value} {X : Ending → Prop}
    (h1 : ∀ (T : Nat → Prop) w', Kept S w w' → (∀ k, w'.heap.size ≤ k → T k) → (∀ k, T k → S k) → SideD db s o wp T w' → Calls Tryz.prog f x w' fun e w'' => X e ∧ SideD db s' o' wp T w'' ∧ Kept T w' w'')
    (h2 : ∀ (T : Nat → Prop) w', Kept S w w' → (∀ k, w'.heap.size ≤ k → T k) → (∀ k, T k → S k) → SideR rb s o xp T w' → Calls Tryz.prog g y w' fun e w'' => X e ∧ SideR rb s' o' xp T w'' ∧ Kept T w' w'') :
    Calls Tryz.prog f x w fun e w' => X e ∧ AllP tb db rb s' s o' o wp xp wq xq S w' ∧ Kept S w w' ∧ ∀ w2, Below w'.heap.size w' w2 → Calls Tryz.prog g y w2 fun e w'' => X e ∧ AllP tb db rb s' s' o' o' wp xp wq xq S w'' ∧ Kept S w w'' := by
  refine (all_stepD (ι := Unit) (fun _ => sideD db s' o' wp) h hS (X := fun _ e => X e) (fun T hT hTS hq => (h1 T w (Kept.refl _ _) hT hTS hq).mono (fun _ _ hh => ⟨(), hh⟩))).mono ?_
  rintro e w' ⟨_, hx, hp, hk⟩
  refine ⟨hx, hp, hk, fun w2 hb => ?_⟩
  have hk2 : Kept S w w2 := hk.trans (Kept.of_below hb)
  refine (all_stepR (ι := Unit) (fun _ => sideR rb s' o' xp) ((allThing _ _ _ _ _ _ _ _ _ _ _).below hp hb) (fun k hk' => hS k (Nat.le_trans hk2.size hk')) (X := fun _ e => X e) (fun T hT hTS hq => (h2 T w2 hk2 hT hTS hq).mono (fun _ _ hh => ⟨(), hh⟩))).mono ?_
  rintro e w'' ⟨_, hx, hp, hk⟩
  exact ⟨hx, hp, hk2.trans hk⟩
end
/-- the records of both, told alike -/
theorem recs_same {S : Nat → Prop} {w4 : World} {tb db rb wb xb : Nat} {s : St} {L : Recs} (h : AllP tb db rb s s (some L) (some L) (ptrV wb) (ptrV xb) (ptrV wb) (ptrV xb) S w4) (hLl : L.length ≤ 1099511627776) :
    ∃ la lc, (w4.cell? ⟨tb, 2, none⟩ = some (ptrV wb) ∧ w4.cell? ⟨tb, 3, none⟩ = some (ptrV xb) ∧ w4.cell? ⟨xb, 2, none⟩ = some (.slice la L.length lc)) ∧
      ∀ w', w' = w4.drew → Calls Tryz.prog 17 #[ptrV wb] w' fun e w'' => ∃ v', e = .returned v' ∧ (w''.cell? ⟨tb, 2, none⟩ = some (ptrV wb) ∧ w''.cell? ⟨tb, 3, none⟩ = some (ptrV xb) ∧ w''.cell? ⟨xb, 2, none⟩ = some (.slice la L.length lc)) ∧
        Calls Tryz.prog 20 #[v', .slice la L.length lc] w'' fun e w3 => e = .returned (.bool true) ∧ (w3.cell? ⟨tb, 2, none⟩ = some (ptrV wb) ∧ w3.cell? ⟨tb, 3, none⟩ = some (ptrV xb) ∧ w3.cell? ⟨xb, 2, none⟩ = some (.slice la L.length lc)) ∧ Below w4.heap.size w4 w3 := by
  obtain ⟨_, _, g2, g3, _⟩ := two_cells (all_two h)
  have htl := two_lt (all_two h)
  obtain ⟨wb', ewb, hdj⟩ := all_d h
  cases ewb
  obtain ⟨xb', exb, hrj⟩ := all_r h
  cases exb
  obtain ⟨lv, hx⟩ : RWalQ xb rb nJ L S _ := Pair.snd (rwalThing _ _ _ _) hrj
  obtain ⟨la, lc, rfl⟩ := hx.row.slice
  have x2 := hx.c2
  have hxl := hx.lt
  have hlx := Fr.ListAt.of_own hx.row.1
  have hwq : WalQ wb db nJ L S _ := Pair.snd (walThing _ _ _ _) hdj
  have hc : ∀ w'', Below w4.heap.size w4 w'' → (w''.cell? ⟨tb, 2, none⟩ = some (ptrV wb) ∧ w''.cell? ⟨tb, 3, none⟩ = some (ptrV xb) ∧ w''.cell? ⟨xb, 2, none⟩ = some (.slice la L.length lc)) := fun w'' hb =>
    ⟨(hb.cell (p := ⟨tb, 2, none⟩) htl).trans g2, (hb.cell (p := ⟨tb, 3, none⟩) htl).trans g3, (hb.cell (p := ⟨xb, 2, none⟩) hxl).trans x2⟩
  refine ⟨la, lc, ⟨g2, g3, x2⟩, ?_⟩
  rintro w' rfl
  have hb0 : Below w4.heap.size w4 w4.drew := (Below.refl _ _).drew
  refine (Records_any ((walThing _ _ _ _).below hwq hb0) hLl).mono ?_
  rintro e w'' ⟨v', rfl, ho, hb⟩
  have hb1 : Below w4.heap.size w4 w'' := hb0.trans hb
  refine ⟨v', rfl, hc _ hb1, (Fr.same_n _ _ L L.length w'' (Fr.ListAt.of_own ho) (hlx.below hb1) rfl hLl).mono ?_⟩
  rintro e w3 ⟨rfl, hb3⟩
  exact ⟨rfl, hc _ (bw hb1 hb3), bw hb1 hb3⟩
end Go.Proofs.YtnffjoflkeagfaaGreat
