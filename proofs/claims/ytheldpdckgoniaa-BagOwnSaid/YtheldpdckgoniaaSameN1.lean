/- SameMsg. -/
import Derived.Test.YtheldpdckgoniaaSame
namespace Go.Proofs.Ytheldpdckgoniaa
open Go.RowKit

set_option maxHeartbeats 8000000 in
set_option maxRecDepth 100000 in
theorem sameN0 (w : World) (x y : Msg) (xa xb ya yb : Option Addr) (xc xd yc yd : Nat) (e0 : (x.k == y.k) = false) :
    Calls Try.prog 14 #[x.agg (.slice xa x.l.length xc) (.slice xb x.es.length xd), y.agg (.slice ya y.l.length yc) (.slice yb y.es.length yd)] w fun e w' => e = .returned (.bool false) ∧ Below w.heap.size w w' := by
  go_enter Try.func14, Try.ntmps14
  go_wp2
  go_ret
  exact ⟨rfl, ((Below.refl _ _).alloc (Nat.le_refl _) _).alloc (by simp) _⟩
set_option maxHeartbeats 8000000 in
set_option maxRecDepth 100000 in
theorem sameN1 (w : World) (x y : Msg) (xa xb ya yb : Option Addr) (xc xd yc yd : Nat) (e0 : (x.k == y.k) = true) (e1 : (x.f == y.f) = false) :
    Calls Try.prog 14 #[x.agg (.slice xa x.l.length xc) (.slice xb x.es.length xd), y.agg (.slice ya y.l.length yc) (.slice yb y.es.length yd)] w fun e w' => e = .returned (.bool false) ∧ Below w.heap.size w w' := by
  go_enter Try.func14, Try.ntmps14
  go_wp2
  go_ret
  exact ⟨rfl, ((Below.refl _ _).alloc (Nat.le_refl _) _).alloc (by simp) _⟩
set_option maxHeartbeats 8000000 in
set_option maxRecDepth 100000 in
theorem sameN2 (w : World) (x y : Msg) (xa xb ya yb : Option Addr) (xc xd yc yd : Nat) (e0 : (x.k == y.k) = true) (e1 : (x.f == y.f) = true) (e2 : (x.t == y.t) = false) :
    Calls Try.prog 14 #[x.agg (.slice xa x.l.length xc) (.slice xb x.es.length xd), y.agg (.slice ya y.l.length yc) (.slice yb y.es.length yd)] w fun e w' => e = .returned (.bool false) ∧ Below w.heap.size w w' := by
  go_enter Try.func14, Try.ntmps14
  go_wp2
  go_ret
  exact ⟨rfl, ((Below.refl _ _).alloc (Nat.le_refl _) _).alloc (by simp) _⟩
set_option maxHeartbeats 8000000 in
set_option maxRecDepth 100000 in
theorem sameN3 (w : World) (x y : Msg) (xa xb ya yb : Option Addr) (xc xd yc yd : Nat) (e0 : (x.k == y.k) = true) (e1 : (x.f == y.f) = true) (e2 : (x.t == y.t) = true) (e3 : (x.tm == y.tm) = false) :
    Calls Try.prog 14 #[x.agg (.slice xa x.l.length xc) (.slice xb x.es.length xd), y.agg (.slice ya y.l.length yc) (.slice yb y.es.length yd)] w fun e w' => e = .returned (.bool false) ∧ Below w.heap.size w w' := by
  go_enter Try.func14, Try.ntmps14
  go_wp2
  go_ret
  exact ⟨rfl, ((Below.refl _ _).alloc (Nat.le_refl _) _).alloc (by simp) _⟩
set_option maxHeartbeats 8000000 in
set_option maxRecDepth 100000 in
theorem sameN4 (w : World) (x y : Msg) (xa xb ya yb : Option Addr) (xc xd yc yd : Nat) (e0 : (x.k == y.k) = true) (e1 : (x.f == y.f) = true) (e2 : (x.t == y.t) = true) (e3 : (x.tm == y.tm) = true) (e4 : (x.a == y.a) = false) :
    Calls Try.prog 14 #[x.agg (.slice xa x.l.length xc) (.slice xb x.es.length xd), y.agg (.slice ya y.l.length yc) (.slice yb y.es.length yd)] w fun e w' => e = .returned (.bool false) ∧ Below w.heap.size w w' := by
  go_enter Try.func14, Try.ntmps14
  go_wp2
  go_ret
  exact ⟨rfl, ((Below.refl _ _).alloc (Nat.le_refl _) _).alloc (by simp) _⟩
end Go.Proofs.Ytheldpdckgoniaa
