/-
  No cell of these rows narrows 'for every input' (looked for: loops, veiled, ifaces, maps, wideKeys, modest, calm, conditions, laid).
  DERIVED. THE GIVEN ROWS OF THIS SEAT. 6 by the template 'for every input the law returns true; each argument reads behind the call as it read before'; 0 by the template 'total and deterministic' (their statements: YtckbbakajabhmaaTotals.lean).
  GIVEN WITH THE SEED: the statements are not yours to turn. If you find one false, say at which input.
  Laid BY PROGRAM, IN A SANDBOX (cutbox-rows.mjs): the forced cells as the released guide's own fill.sh prints them over the translation d4179a1b98b114aa… (all of the seat's roots in one cut). By AI agents, Wed Nov 11 2026. No macro, syntax, notation, axiom, sorry.
-/
import Derived.Test.YtckbbakajabhmaaChecked
import GoSem.Claim
import GoSem.ClaimJoined
import GoSem.ClaimMapViews
import Derived.JoinedTies
import Derived.KernelRfl
namespace Go.Proofs.Ytckbbakajabhmaa
/- THE CELL 'sum', in the pinned program and in every row, IS THE sha256 OF THE DUMP (.gsa) THAT YtckbbakajabhmaaProg.lean LOADS. Nothing in Lean hashes anything: it is a label: what it is worth is what the hold of that sum in a sandbox is worth. -/
noncomputable def Try.pinned : Pinned := { name := "ytckbbakajabhmaa", sum := "d4179a1b98b114aa061a920eeff5b585cf656bf6b8472fd1055687d4161cd6ee", checked := Try.checked }
namespace Rows
def none {H : Type} : Left H := { results := [], args := [] }

/-- 'corncriblaw07.ClockTicks': WHATEVER THE INPUT: true; the input reads as it did. -/
def clockTicksSpec : ChangeSpec := { name := "clockTicks", fn := fun _ => fun
  | [d1, d2] => { results := [.lit (.bool true)], args := [d1, d2] }
  | _ => none }
def clockTicksRow : OpenClaim := { program := "ytckbbakajabhmaa", sum := "d4179a1b98b114aa061a920eeff5b585cf656bf6b8472fd1055687d4161cd6ee", func := "corncrib/corncriblaw07.ClockTicks", spec := "clockTicks", apart := false }
def ClockTicksSaid : Prop := clockTicksRow.holds Try.pinned (OpenSpec.ofChange clockTicksSpec)

/-- ITS FALSE NEIGHBOUR: 'it returns false'. Refute it at one input. -/
def clockTicksWrong : ChangeSpec := { name := "clockTicks", fn := fun _ => fun
  | [d1, d2] => { results := [.lit (.bool false)], args := [d1, d2] }
  | _ => none }
def ClockTicksWrongFalsely : Prop := clockTicksRow.holds Try.pinned (OpenSpec.ofChange clockTicksWrong)

/-- 'corncriblaw07.ClockDrift': WHATEVER THE INPUT: true; the input reads as it did. -/
def clockDriftSpec : ChangeSpec := { name := "clockDrift", fn := fun _ => fun
  | [d1, d2, d3, d4, d5] => { results := [.lit (.bool true)], args := [d1, d2, d3, d4, d5] }
  | _ => none }
def clockDriftRow : OpenClaim := { program := "ytckbbakajabhmaa", sum := "d4179a1b98b114aa061a920eeff5b585cf656bf6b8472fd1055687d4161cd6ee", func := "corncrib/corncriblaw07.ClockDrift", spec := "clockDrift", apart := false }
def ClockDriftSaid : Prop := clockDriftRow.holds Try.pinned (OpenSpec.ofChange clockDriftSpec)

/-- ITS FALSE NEIGHBOUR: 'it returns false'. Refute it at one input. -/
def clockDriftWrong : ChangeSpec := { name := "clockDrift", fn := fun _ => fun
  | [d1, d2, d3, d4, d5] => { results := [.lit (.bool false)], args := [d1, d2, d3, d4, d5] }
  | _ => none }
def ClockDriftWrongFalsely : Prop := clockDriftRow.holds Try.pinned (OpenSpec.ofChange clockDriftWrong)

/-- 'corncriblaw07.ClockLeases': WHATEVER THE INPUT: true; the input reads as it did. -/
def clockLeasesSpec : ChangeSpec := { name := "clockLeases", fn := fun _ => fun
  | [d] => { results := [.lit (.bool true)], args := [d] }
  | _ => none }
def clockLeasesRow : OpenClaim := { program := "ytckbbakajabhmaa", sum := "d4179a1b98b114aa061a920eeff5b585cf656bf6b8472fd1055687d4161cd6ee", func := "corncrib/corncriblaw07.ClockLeases", spec := "clockLeases", apart := false }
def ClockLeasesSaid : Prop := clockLeasesRow.holds Try.pinned (OpenSpec.ofChange clockLeasesSpec)

/-- ITS FALSE NEIGHBOUR: 'it returns false'. Refute it at one input. -/
def clockLeasesWrong : ChangeSpec := { name := "clockLeases", fn := fun _ => fun
  | [d] => { results := [.lit (.bool false)], args := [d] }
  | _ => none }
def ClockLeasesWrongFalsely : Prop := clockLeasesRow.holds Try.pinned (OpenSpec.ofChange clockLeasesWrong)

/-- 'corncriblaw07.ClockWaits': WHATEVER THE INPUT: true; the input reads as it did. -/
def clockWaitsSpec : ChangeSpec := { name := "clockWaits", fn := fun _ => fun
  | [d] => { results := [.lit (.bool true)], args := [d] }
  | _ => none }
def clockWaitsRow : OpenClaim := { program := "ytckbbakajabhmaa", sum := "d4179a1b98b114aa061a920eeff5b585cf656bf6b8472fd1055687d4161cd6ee", func := "corncrib/corncriblaw07.ClockWaits", spec := "clockWaits", apart := false }
def ClockWaitsSaid : Prop := clockWaitsRow.holds Try.pinned (OpenSpec.ofChange clockWaitsSpec)

/-- ITS FALSE NEIGHBOUR: 'it returns false'. Refute it at one input. -/
def clockWaitsWrong : ChangeSpec := { name := "clockWaits", fn := fun _ => fun
  | [d] => { results := [.lit (.bool false)], args := [d] }
  | _ => none }
def ClockWaitsWrongFalsely : Prop := clockWaitsRow.holds Try.pinned (OpenSpec.ofChange clockWaitsWrong)

/-- 'corncriblaw07.ClockLemma': WHATEVER THE INPUT: true; the input reads as it did. -/
def clockLemmaSpec : ChangeSpec := { name := "clockLemma", fn := fun _ => fun
  | [d1, d2, d3, d4, d5, d6, d7, d8, d9] => { results := [.lit (.bool true)], args := [d1, d2, d3, d4, d5, d6, d7, d8, d9] }
  | _ => none }
def clockLemmaRow : OpenClaim := { program := "ytckbbakajabhmaa", sum := "d4179a1b98b114aa061a920eeff5b585cf656bf6b8472fd1055687d4161cd6ee", func := "corncrib/corncriblaw07.ClockLemma", spec := "clockLemma", apart := false }
def ClockLemmaSaid : Prop := clockLemmaRow.holds Try.pinned (OpenSpec.ofChange clockLemmaSpec)

/-- ITS FALSE NEIGHBOUR: 'it returns false'. Refute it at one input. -/
def clockLemmaWrong : ChangeSpec := { name := "clockLemma", fn := fun _ => fun
  | [d1, d2, d3, d4, d5, d6, d7, d8, d9] => { results := [.lit (.bool false)], args := [d1, d2, d3, d4, d5, d6, d7, d8, d9] }
  | _ => none }
def ClockLemmaWrongFalsely : Prop := clockLemmaRow.holds Try.pinned (OpenSpec.ofChange clockLemmaWrong)

/-- 'corncriblaw07.ClockLess': WHATEVER THE INPUT: true; the input reads as it did. -/
def clockLessSpec : ChangeSpec := { name := "clockLess", fn := fun _ => fun
  | [d1, d2, d3, d4, d5, d6] => { results := [.lit (.bool true)], args := [d1, d2, d3, d4, d5, d6] }
  | _ => none }
def clockLessRow : OpenClaim := { program := "ytckbbakajabhmaa", sum := "d4179a1b98b114aa061a920eeff5b585cf656bf6b8472fd1055687d4161cd6ee", func := "corncrib/corncriblaw07.ClockLess", spec := "clockLess", apart := false }
def ClockLessSaid : Prop := clockLessRow.holds Try.pinned (OpenSpec.ofChange clockLessSpec)

/-- ITS FALSE NEIGHBOUR: 'it returns false'. Refute it at one input. -/
def clockLessWrong : ChangeSpec := { name := "clockLess", fn := fun _ => fun
  | [d1, d2, d3, d4, d5, d6] => { results := [.lit (.bool false)], args := [d1, d2, d3, d4, d5, d6] }
  | _ => none }
def ClockLessWrongFalsely : Prop := clockLessRow.holds Try.pinned (OpenSpec.ofChange clockLessWrong)

/- THE SECOND FORM. 'bulk': how many values and letters a reading holds, each counted each time it is reached (what is shared counts as often as it is met; a slice's spare places count too). A statement '..UptoSaid' is the law's where the arguments, and the package variables that the reading takes, are together of bulk at most 1048576: NARROWER than '..Said'. Prove '..Said' where nothing that the law and all that it calls make is longer than what came in: it says more and counts as full. Else prove '..UptoSaid'. A law counts once. -/
mutual
def uptoBulk {H : Type} : DataW H → Nat
  | .lit (.string bytes) => bytes.length + 1
  | .lit _ => 1
  | .nil => 1
  | .ptr d => uptoBulk d + 1
  | .slice elems spare => uptoBulkAll elems + uptoBulkAll spare + 1
  | .agg parts => uptoBulkAll parts + 1
  | .iface _ d => uptoBulk d + 1
  | .map entries => uptoBulkEntries entries + 1
  | .held _ => 1
def uptoBulkAll {H : Type} : List (DataW H) → Nat
  | [] => 0
  | d :: r => uptoBulk d + uptoBulkAll r
def uptoBulkEntries {H : Type} : List (Lit × DataW H) → Nat
  | [] => 0
  | x :: r => uptoBulkEntry x + uptoBulkEntries r
def uptoBulkEntry {H : Type} : Lit × DataW H → Nat
  | (.string bytes, d) => bytes.length + uptoBulk d + 1
  | (_, d) => uptoBulk d + 1
 end
def uptoSmall : (H : Type) → List (DataW H) → Bool := fun _ ds => decide (uptoBulkAll ds ≤ 1048576)
def OpenSpec.upto (s : _root_.Go.ChangeSpec) : _root_.Go.OpenSpec := { _root_.Go.OpenSpec.ofChange s with cond := some uptoSmall }

/-- 'corncriblaw07.ClockTicks', WHERE WHAT IT READS IS OF BULK AT MOST 1048576: true; the input reads as it did. -/
def clockTicksUptoRow : OpenClaim := { program := "ytckbbakajabhmaa", sum := "d4179a1b98b114aa061a920eeff5b585cf656bf6b8472fd1055687d4161cd6ee", func := "corncrib/corncriblaw07.ClockTicks", spec := "clockTicks", apart := false, narrowed := true }
def ClockTicksUptoSaid : Prop := clockTicksUptoRow.holds Try.pinned (OpenSpec.upto clockTicksSpec)

/-- 'corncriblaw07.ClockDrift', WHERE WHAT IT READS IS OF BULK AT MOST 1048576: true; the input reads as it did. -/
def clockDriftUptoRow : OpenClaim := { program := "ytckbbakajabhmaa", sum := "d4179a1b98b114aa061a920eeff5b585cf656bf6b8472fd1055687d4161cd6ee", func := "corncrib/corncriblaw07.ClockDrift", spec := "clockDrift", apart := false, narrowed := true }
def ClockDriftUptoSaid : Prop := clockDriftUptoRow.holds Try.pinned (OpenSpec.upto clockDriftSpec)

/-- 'corncriblaw07.ClockLeases', WHERE WHAT IT READS IS OF BULK AT MOST 1048576: true; the input reads as it did. -/
def clockLeasesUptoRow : OpenClaim := { program := "ytckbbakajabhmaa", sum := "d4179a1b98b114aa061a920eeff5b585cf656bf6b8472fd1055687d4161cd6ee", func := "corncrib/corncriblaw07.ClockLeases", spec := "clockLeases", apart := false, narrowed := true }
def ClockLeasesUptoSaid : Prop := clockLeasesUptoRow.holds Try.pinned (OpenSpec.upto clockLeasesSpec)

/-- 'corncriblaw07.ClockWaits', WHERE WHAT IT READS IS OF BULK AT MOST 1048576: true; the input reads as it did. -/
def clockWaitsUptoRow : OpenClaim := { program := "ytckbbakajabhmaa", sum := "d4179a1b98b114aa061a920eeff5b585cf656bf6b8472fd1055687d4161cd6ee", func := "corncrib/corncriblaw07.ClockWaits", spec := "clockWaits", apart := false, narrowed := true }
def ClockWaitsUptoSaid : Prop := clockWaitsUptoRow.holds Try.pinned (OpenSpec.upto clockWaitsSpec)

/-- 'corncriblaw07.ClockLemma', WHERE WHAT IT READS IS OF BULK AT MOST 1048576: true; the input reads as it did. -/
def clockLemmaUptoRow : OpenClaim := { program := "ytckbbakajabhmaa", sum := "d4179a1b98b114aa061a920eeff5b585cf656bf6b8472fd1055687d4161cd6ee", func := "corncrib/corncriblaw07.ClockLemma", spec := "clockLemma", apart := false, narrowed := true }
def ClockLemmaUptoSaid : Prop := clockLemmaUptoRow.holds Try.pinned (OpenSpec.upto clockLemmaSpec)

/-- 'corncriblaw07.ClockLess', WHERE WHAT IT READS IS OF BULK AT MOST 1048576: true; the input reads as it did. -/
def clockLessUptoRow : OpenClaim := { program := "ytckbbakajabhmaa", sum := "d4179a1b98b114aa061a920eeff5b585cf656bf6b8472fd1055687d4161cd6ee", func := "corncrib/corncriblaw07.ClockLess", spec := "clockLess", apart := false, narrowed := true }
def ClockLessUptoSaid : Prop := clockLessUptoRow.holds Try.pinned (OpenSpec.upto clockLessSpec)

end Rows
end Go.Proofs.Ytckbbakajabhmaa
