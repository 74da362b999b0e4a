/- A range over a bag's All: what the iterator promises of the message that it hands over, and the statement's law. -/
import Derived.Test.YtheldpdckgoniaaTake
import Derived.RangeFuncNested
import Derived.RangeFuncBound
import Derived.RangeFuncCalls
import Derived.RangeFuncLeaves
import Derived.Shelf.Abstract
import Derived.Shelf.RegionOpen
import Derived.OwnWalkIn
import Derived.TacticsInMore
import Derived.LoopNIn
import Derived.LoopIn
namespace Go.Proofs.Ytheldpdckgoniaa
open Go.RowKit
section
variable {P : Program}
/-- the blocks of T lie as they lay -/
def KeepT (T : Nat → Prop) (W W' : World) : Prop := W.heap.size ≤ W'.heap.size ∧ ∀ k, T k → k < W.heap.size → W'.heap[k]? = W.heap[k]?
theorem KeepT.refl (T : Nat → Prop) (W : World) : KeepT T W W := ⟨Nat.le_refl _, fun _ _ _ => rfl⟩
theorem KeepT.trans {T : Nat → Prop} {A B C : World} (h : KeepT T A B) (k : KeepT T B C) : KeepT T A C := ⟨Nat.le_trans h.1 k.1, fun i hi hl => (k.2 i hi (Nat.lt_of_lt_of_le hl h.1)).trans (h.2 i hi hl)⟩
theorem KeepT.of_below {T : Nat → Prop} {A B : World} (h : Below A.heap.size A B) : KeepT T A B := ⟨h.size, fun k _ hl => h.block k hl⟩
theorem KeepT.set {T : Nat → Prop} {A B : World} (h : KeepT T A B) {p : Addr} (hp : ¬ T p.block) (u : Value) : KeepT T A (B.setCell p u) :=
  ⟨by simp [World.setCell]; exact h.1, fun k hk hl => (Below.heap_setCell _ _ _ _ (fun e => hp (by rw [← e]; exact hk))).trans (h.2 k hk hl)⟩
/-- an iterator that hands over N pairs: a number from 0 on, and a value of which R holds then and there; the blocks of T must lie as they lay behind each round -/
def Comes (P : Program) (gf : Nat) (lb : Array Value) (T : Nat → Prop) (N : Nat) (R : Nat → Nat → Value → World → Prop) (w : World) : Prop :=
  ∀ (l : Nat) (J Jx : Nat → World → Prop) (W : World), Below w.heap.size w W → (∀ k A B, J k A → Below A.heap.size A B → J k B) →
    (∀ k v W0 W1, k < N → J k W0 → Below W0.heap.size W0 W1 → R W0.heap.size k v W1 → YieldAt Fence.wide 1 P l #[.int .i64 (k : Int), v] W1 fun e W' => (e = .returned (.bool true) ∧ J (k + 1) W' ∧ KeepT T W1 W') ∨ (e = .returned (.bool false) ∧ Jx (k + 1) W')) →
    J 0 W → CallsIn Fence.wide 2 P gf (#[.func (.yield l) #[] #[]] ++ lb) W fun e W' => (∃ v, e = .returned v) ∧ (J N W' ∨ ∃ k, 0 < k ∧ k ≤ N ∧ Jx k W')
/-- how a round's body may be left -/
def leftBy (B : Nat) (T : Nat → Prop) (I : World → Prop) (Ix : Code → World → Prop) (W : World) : Exit → Act → World → Prop
  | .normal, _, W' => KeepsFrom B W W' ∧ KeepT T W W' ∧ I W'
  | .ret, _, W' => KeepsFrom B W W' ∧ Ix .ret W'
  | .exit id, _, W' => KeepsFrom B W W' ∧ Ix (.exit id) W'
  | .goto t, _, W' => KeepsFrom B W W' ∧ Ix (.goto t) W'
  | .panic _, _, _ => False
  | .outgrown, _, _ => False
/-- a function that ranges over an iterator, walked in the plain way -/
theorem calls_marks {f : FuncId} {fn : Func} {c : Code} {args : Array Value} {w : World} {R : Ending → World → Prop} (hf : P.funcs[f]? = some fn) (hb : fn.body = some c)
    (h : c.wp P (bodyPostM Fence.wide 3 P fn R) { tmps := args ++ Array.replicate (fn.ntmps - args.size) undef, defers := [] } w) : Calls P f args w R :=
  callsIn_wide.1 (callsIn_of_wp_marks (F := Fence.wide) (n := 3) hf hb trivial (wpIn_wide.2 h) rfl)
/-- .. and left with its mark -/
theorem left_marks {fn : Func} {a : Act} {w : World} {R : Ending → World → Prop} {D : Nat} {v : Value} (hd : a.defers = [{ target := .collected D, args := #[] }]) (hK : w.heap[D]? = some (.deferred (some [])))
    (hr : (results fn a.tmps).run P (w.putObj D (.deferred none)) = .ok v (w.putObj D (.deferred none))) (h : R (.returned v) (w.putObj D (.deferred none))) : bodyPostM Fence.wide 3 P fn R .ret a w := by
  show LeavesInM _ _ _ _ _ _ a.defers _ _
  rw [hd]
  exact ⟨by simp, .inl ⟨_, _, rfl, run_takeDeferred hK, ⟨_, hr, h⟩⟩⟩
/-- the two blocks of the statement's own -/
structure Book (B : Nat) (r : Loop) (W : World) : Prop where
  loop : W.heap[B + 1]? = some (.loop r)
  mark : W.heap[B]? = some (.deferred (some []))
theorem Book.below {B : Nat} {r : Loop} {W W' : World} (h : Book B r W) (hb : Below W.heap.size W W') : Book B r W' :=
  ⟨(hb.block _ (Array.getElem?_eq_some_iff.1 h.loop).1).trans h.loop, (hb.block _ (Array.getElem?_eq_some_iff.1 h.mark).1).trans h.mark⟩
theorem Book.from {B : Nat} {r : Loop} {W W' : World} (h : Book B r W) (hk : KeepsFrom B W W') : Book B r W' :=
  ⟨hk.same _ _ (Nat.le_succ _) h.loop rfl, hk.same _ _ (Nat.le_refl _) h.mark rfl⟩
theorem Book.turn {B : Nat} {r : Loop} {W : World} (h : Book B r W) (r' : Loop) : Book B r' (W.putObj (B + 1) (.loop r')) :=
  ⟨World.putObj_heap_same (Array.getElem?_eq_some_iff.1 h.loop).1, (World.putObj_heap_other (by omega)).trans h.mark⟩
theorem keepT_putObj {T : Nat → Prop} {l : Nat} {W : World} {o' : Obj} (hn : ∀ k, T k → k < l) : KeepT T W (W.putObj l o') :=
  ⟨by simp, fun k hk _ => World.putObj_heap_other (by have := hn k hk; omega)⟩
theorem own_below {β : Type} {B : Nat} {I : β → World → Prop} (h : OwnFrom B I) {s : β} {A A' : World} (hs : I s A) (hb : Below A.heap.size A A') : I s A' :=
  h s A A' none hs ⟨hb.os, hb.tape, hb.output, hb.size, fun k hk _ => hb.block k hk⟩ (fun r e => by cases e)
/-- THE STATEMENT -/
theorem range_walk {g : Operand} {ps : Array Tmp} {assign body : Code} {Q : Exit → Act → World → Prop} {a : Act} {w : World} {gf : Nat} {lb : Array Value} (hg : a.eval g = .func (.func gf) #[] lb) (eg : ∀ args w, (callFunc gf args).run P w = .ok (.enter gf args) w) (hps : ps.size = 2)
    {T : Nat → Prop} {N : Nat} {R : Nat → Nat → Value → World → Prop} (hseq : Comes P gf lb T N R w) (hn : ∀ k, T k → k < w.heap.size)
    (I : Nat → World → Prop) (Ix : Code → Nat → World → Prop) (hI : OwnFrom w.heap.size I) (hIx : ∀ c, OwnFrom w.heap.size (Ix c)) (h0 : I 0 w)
    (Ax : Nat → Value → Act → World → Prop) (hAx : ∀ k v a', OwnFrom w.heap.size (fun (_ : Unit) W => Ax k v a' W))
    (hassign : ∀ (l k : Nat) (v : Value) (W0 W : World) (K : Act → World → Prop), w.heap.size ≤ W0.heap.size → k < N → I k W0 → Below W0.heap.size W0 W → R W0.heap.size k v W → (∀ a' W', KeepsFrom w.heap.size W W' → KeepT T W W' → I k W' → Ax k v a' W' → K a' W') →
      assign.wpIn (Fence.wide.inRound l) 1 P (Exit.then K (fun _ _ _ => False)) { tmps := (ps.zip #[.int .i64 (k : Int), v]).foldl (fun t (p, v) => t.setIfInBounds p v) a.tmps, defers := [] } W)
    (hbody : ∀ (l k : Nat) (v : Value) (a' : Act) (W : World), w.heap.size ≤ l → k < N → I k W → Ax k v a' W → body.wpIn (Fence.wide.inRound l) 1 P (leftBy w.heap.size T (I (k + 1)) (fun c => Ix c (k + 1)) W) a' W)
    (hdone : ∀ (D : Nat) (W : World), w.heap.size ≤ D → I N W → W.heap[D]? = some (.deferred (some [])) → Q .normal { a with defers := { target := .collected D, args := #[] } :: a.defers } W)
    (hstop : ∀ (D k : Nat) (c : Code) (W : World), w.heap.size ≤ D → 0 < k → k ≤ N → Ix c k W → W.heap[D]? = some (.deferred (some [])) → c.wp P Q { a with defers := { target := .collected D, args := #[] } :: a.defers } W) :
    (Code.rangeFunc g ps assign body).wp P Q a w := by
  refine (wpIn_wide (n := 3)).1 (wpIn_rangeFunc fun fn _ => ?_)
  obtain ⟨rec, hrec⟩ : ∃ rec : LoopState → Option Code → Loop, rec = fun st pe => { state := st, pending := pe, fn, tmps := a.tmps, params := ps, assign, body, defers := w.heap.size } := ⟨_, rfl⟩
  have hbk : Book w.heap.size (rec .ready none) ((w.alloc (.deferred (some []))).alloc (.loop (rec .ready none))) :=
    ⟨by have := heap_alloc_new (w.alloc (.deferred (some []))) (.loop (rec .ready none)); rwa [World.size_alloc] at this, (Below.heap_alloc _ _ _ (by simp)).trans (heap_alloc_new w _)⟩
  have hb1 : Below w.heap.size w ((w.alloc (.deferred (some []))).alloc (.loop (rec .ready none))) := ((Below.refl _ w).alloc (Nat.le_refl _) _).alloc (by simp) _
  have hI1 : I 0 ((w.alloc (.deferred (some []))).alloc (.loop (rec .ready none))) := hI.alloc _ (hI.alloc _ h0)
  obtain ⟨W1, hW1⟩ : ∃ W1, (w.alloc (.deferred (some []))).alloc (.loop (rec .ready none)) = W1 := ⟨_, rfl⟩
  rw [hW1] at hbk hb1 hI1
  refine ⟨w.heap.size + 1, [{ target := .collected w.heap.size, args := #[] }], W1, { target := .fn (.func gf) lb, args := #[.func (.yield (w.heap.size + 1)) #[] #[]] }, W1, gf, #[.func (.yield (w.heap.size + 1)) #[] #[]] ++ lb, W1,
    by rw [← hW1, hrec]; exact run_enterLoop_outer _ _ _ _ _, by simp only [resolve, hg]; simp [go_sem], fun _ _ => trivial, by simp [invoke, go_sem, eg], fun h => by simp [Fence.wide] at h, ?_⟩
  -- how a round ends
  have fin : ∀ (W3 : World) (jump : Option Code), Book w.heap.size (rec .busy none) W3 → (Instr.endRound (w.heap.size + 1) jump).run P W3 = .ok (.bool jump.isNone) (W3.putObj (w.heap.size + 1) (.loop (rec (if jump.isNone then .ready else .done) jump))) := fun W3 jump h3 => by
    have := run_endRound (P := P) jump h3.loop
    rw [hrec] at this ⊢
    exact this
  refine (hseq (w.heap.size + 1) (fun k W => I k W ∧ Book w.heap.size (rec .ready none) W) (fun k W => ∃ c, Ix c k W ∧ Book w.heap.size (rec .done (some c)) W) W1 hb1
    (fun k A B hA hb => ⟨own_below hI hA.1 hb, hA.2.below hb⟩) ?_ ⟨hI1, hbk⟩).mono ?_
  · rintro k v W0 W hk ⟨hi, hB0⟩ hbel hR
    have hB := hB0.below hbel
    have hsz0 : w.heap.size ≤ W0.heap.size := Nat.le_of_lt (Array.getElem?_eq_some_iff.1 hB0.mark).1
    have hy := run_yield (P := P) (args := #[.int .i64 (k : Int), v]) hB.loop (by rw [hrec]; exact hps.symm)
    rw [hrec] at hy
    refine ⟨fn, _, assign, body, hy, roundIn_of_wpIn (n := 1) trivial (hassign _ k v W0 W _ hsz0 hk hi hbel hR fun a' Wa hkf hbl hia hax => ?_)⟩
    clear hy
    have hBa := hB.from hkf
    refine ⟨_, run_beginRound hBa.loop (by rw [hrec]), ?_⟩
    have hBt := hBa.turn (rec .busy none)
    have e0 : ({ rec .ready none with state := .busy } : Loop) = rec .busy none := by rw [hrec]
    rw [e0]
    have hbt : KeepT T Wa (Wa.putObj (w.heap.size + 1) (.loop (rec .busy none))) := keepT_putObj (fun k hk => Nat.lt_succ_of_lt (hn k hk))
    refine wpIn_mono (hbody _ k v a' _ (Nat.le_succ _) hk (hI.putObj _ hia (Nat.le_succ _) hBa.loop rfl) ((hAx k v a').putObj (s := ()) _ hax (Nat.le_succ _) hBa.loop rfl)) ?_
    rintro e a3 W3 hp
    have stop : ∀ c : Code, KeepsFrom w.heap.size (Wa.putObj (w.heap.size + 1) (.loop (rec .busy none))) W3 → Ix c (k + 1) W3 → ∃ v w', (Instr.endRound (w.heap.size + 1) (some c)).run P W3 = .ok v w' ∧
        ((Ending.returned v = .returned (.bool true) ∧ (I (k + 1) w' ∧ Book w.heap.size (rec .ready none) w') ∧ KeepT T W w') ∨ (Ending.returned v = .returned (.bool false) ∧ ∃ c, Ix c (k + 1) w' ∧ Book w.heap.size (rec .done (some c)) w')) := fun c hk3 hx3 => by
      have h3 := hBt.from hk3
      exact ⟨_, _, fin W3 (some c) h3, .inr ⟨rfl, c, (hIx c).putObj _ hx3 (Nat.le_succ _) h3.loop rfl, h3.turn _⟩⟩
    cases e with
    | normal =>
      obtain ⟨hk3, hb3, hi3⟩ := hp
      have h3 := hBt.from hk3
      exact ⟨_, _, fin W3 none h3, .inl ⟨rfl, ⟨hI.putObj _ hi3 (Nat.le_succ _) h3.loop rfl, h3.turn _⟩, ((hbl.trans hbt).trans hb3).trans (keepT_putObj (fun k hk => Nat.lt_succ_of_lt (hn k hk)))⟩⟩
    | ret => exact stop _ hp.1 hp.2
    | exit id => exact stop _ hp.1 hp.2
    | goto t => exact stop _ hp.1 hp.2
    | panic ch => exact hp.elim
    | outgrown => exact hp.elim
  · rintro e W2 ⟨⟨v, rfl⟩, (⟨hi, hB⟩ | ⟨k, hk0, hkN, c, hx, hB⟩)⟩
    · refine ⟨none, _, by have := run_endLoop (P := P) hB.loop (by rw [hrec]; simp); rw [hrec] at this; exact this, ?_⟩
      exact hdone _ _ (Nat.le_refl _) (hI.putObj _ hi (Nat.le_succ _) hB.loop rfl) ((World.putObj_heap_other (by omega)).trans hB.mark)
    · refine ⟨some c, _, by have := run_endLoop (P := P) hB.loop (by rw [hrec]; simp); rw [hrec] at this; exact this, ?_⟩
      exact wpIn_wide.2 (hstop _ k c _ (Nat.le_refl _) hk0 hkN ((hIx c).putObj _ hx (Nat.le_succ _) hB.loop rfl) ((World.putObj_heap_other (by omega)).trans hB.mark))
end
end Go.Proofs.Ytheldpdckgoniaa
