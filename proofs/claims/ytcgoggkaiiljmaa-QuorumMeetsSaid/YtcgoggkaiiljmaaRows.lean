/-
  No cell of these rows narrows 'for every input' (looked for: loops, veiled, ifaces, maps, wideKeys, modest, calm, conditions, laid).
  DERIVED. THE GIVEN ROWS OF THIS SEAT. 6 by the template 'for every input the law returns true; each argument reads behind the call as it read before'; 0 by the template 'total and deterministic' (their statements: YtcgoggkaiiljmaaTotals.lean).
  GIVEN WITH THE SEED: the statements are not yours to turn. If you find one false, say at which input.
  Laid BY PROGRAM, IN A SANDBOX (cutbox-rows.mjs): the forced cells as the released guide's own fill.sh prints them over the translation a37e7cbec66a073a… (all of the seat's roots in one cut). By AI agents, Wed Nov 11 2026. No macro, syntax, notation, axiom, sorry.
-/
import Derived.Test.YtcgoggkaiiljmaaChecked
import GoSem.Claim
import GoSem.ClaimJoined
import GoSem.ClaimMapViews
import Derived.JoinedTies
import Derived.KernelRfl
namespace Go.Proofs.Ytcgoggkaiiljmaa
/- THE CELL 'sum', in the pinned program and in every row, IS THE sha256 OF THE DUMP (.gsa) THAT YtcgoggkaiiljmaaProg.lean LOADS. Nothing in Lean hashes anything: it is a label: what it is worth is what the hold of that sum in a sandbox is worth. -/
noncomputable def Try.pinned : Pinned := { name := "ytcgoggkaiiljmaa", sum := "a37e7cbec66a073a87c97473fe6446b816fa19a3c3aa16e3f54bbdaf712d79e1", checked := Try.checked }
namespace Rows
def none {H : Type} : Left H := { results := [], args := [] }

/-- 'corncriblaw08.QuorumCommits': WHATEVER THE INPUT: true; the input reads as it did. -/
def quorumCommitsSpec : ChangeSpec := { name := "quorumCommits", fn := fun _ => fun
  | [d1, d2] => { results := [.lit (.bool true)], args := [d1, d2] }
  | _ => none }
def quorumCommitsRow : OpenClaim := { program := "ytcgoggkaiiljmaa", sum := "a37e7cbec66a073a87c97473fe6446b816fa19a3c3aa16e3f54bbdaf712d79e1", func := "corncrib/corncriblaw08.QuorumCommits", spec := "quorumCommits", unfollowed := true, recurses := true, apart := false }
def QuorumCommitsSaid : Prop := quorumCommitsRow.holds Try.pinned (OpenSpec.ofChange quorumCommitsSpec)

/-- ITS FALSE NEIGHBOUR: 'it returns false'. Refute it at one input. -/
def quorumCommitsWrong : ChangeSpec := { name := "quorumCommits", fn := fun _ => fun
  | [d1, d2] => { results := [.lit (.bool false)], args := [d1, d2] }
  | _ => none }
def QuorumCommitsWrongFalsely : Prop := quorumCommitsRow.holds Try.pinned (OpenSpec.ofChange quorumCommitsWrong)

/-- 'corncriblaw08.QuorumReached': WHATEVER THE INPUT: true; the input reads as it did. -/
def quorumReachedSpec : ChangeSpec := { name := "quorumReached", fn := fun _ => fun
  | [d1, d2, d3] => { results := [.lit (.bool true)], args := [d1, d2, d3] }
  | _ => none }
def quorumReachedRow : OpenClaim := { program := "ytcgoggkaiiljmaa", sum := "a37e7cbec66a073a87c97473fe6446b816fa19a3c3aa16e3f54bbdaf712d79e1", func := "corncrib/corncriblaw08.QuorumReached", spec := "quorumReached", unfollowed := true, recurses := true, apart := false }
def QuorumReachedSaid : Prop := quorumReachedRow.holds Try.pinned (OpenSpec.ofChange quorumReachedSpec)

/-- ITS FALSE NEIGHBOUR: 'it returns false'. Refute it at one input. -/
def quorumReachedWrong : ChangeSpec := { name := "quorumReached", fn := fun _ => fun
  | [d1, d2, d3] => { results := [.lit (.bool false)], args := [d1, d2, d3] }
  | _ => none }
def QuorumReachedWrongFalsely : Prop := quorumReachedRow.holds Try.pinned (OpenSpec.ofChange quorumReachedWrong)

/-- 'corncriblaw08.QuorumSets': WHATEVER THE INPUT: true; the input reads as it did. -/
def quorumSetsSpec : ChangeSpec := { name := "quorumSets", fn := fun _ => fun
  | [d1, d2, d3] => { results := [.lit (.bool true)], args := [d1, d2, d3] }
  | _ => none }
def quorumSetsRow : OpenClaim := { program := "ytcgoggkaiiljmaa", sum := "a37e7cbec66a073a87c97473fe6446b816fa19a3c3aa16e3f54bbdaf712d79e1", func := "corncrib/corncriblaw08.QuorumSets", spec := "quorumSets", unfollowed := true, recurses := true, apart := false }
def QuorumSetsSaid : Prop := quorumSetsRow.holds Try.pinned (OpenSpec.ofChange quorumSetsSpec)

/-- ITS FALSE NEIGHBOUR: 'it returns false'. Refute it at one input. -/
def quorumSetsWrong : ChangeSpec := { name := "quorumSets", fn := fun _ => fun
  | [d1, d2, d3] => { results := [.lit (.bool false)], args := [d1, d2, d3] }
  | _ => none }
def QuorumSetsWrongFalsely : Prop := quorumSetsRow.holds Try.pinned (OpenSpec.ofChange quorumSetsWrong)

/-- 'corncriblaw08.QuorumMeets': WHATEVER THE INPUT: true; the input reads as it did. -/
def quorumMeetsSpec : ChangeSpec := { name := "quorumMeets", fn := fun _ => fun
  | [d1, d2, d3] => { results := [.lit (.bool true)], args := [d1, d2, d3] }
  | _ => none }
def quorumMeetsRow : OpenClaim := { program := "ytcgoggkaiiljmaa", sum := "a37e7cbec66a073a87c97473fe6446b816fa19a3c3aa16e3f54bbdaf712d79e1", func := "corncrib/corncriblaw08.QuorumMeets", spec := "quorumMeets", unfollowed := true, recurses := true, apart := false }
def QuorumMeetsSaid : Prop := quorumMeetsRow.holds Try.pinned (OpenSpec.ofChange quorumMeetsSpec)

/-- ITS FALSE NEIGHBOUR: 'it returns false'. Refute it at one input. -/
def quorumMeetsWrong : ChangeSpec := { name := "quorumMeets", fn := fun _ => fun
  | [d1, d2, d3] => { results := [.lit (.bool false)], args := [d1, d2, d3] }
  | _ => none }
def QuorumMeetsWrongFalsely : Prop := quorumMeetsRow.holds Try.pinned (OpenSpec.ofChange quorumMeetsWrong)

/-- 'corncriblaw08.QuorumLaws': WHATEVER THE INPUT: true; the input reads as it did. -/
def quorumLawsSpec : ChangeSpec := { name := "quorumLaws", fn := fun _ => fun
  | [d1, d2] => { results := [.lit (.bool true)], args := [d1, d2] }
  | _ => none }
def quorumLawsRow : OpenClaim := { program := "ytcgoggkaiiljmaa", sum := "a37e7cbec66a073a87c97473fe6446b816fa19a3c3aa16e3f54bbdaf712d79e1", func := "corncrib/corncriblaw08.QuorumLaws", spec := "quorumLaws", unfollowed := true, recurses := true, apart := false }
def QuorumLawsSaid : Prop := quorumLawsRow.holds Try.pinned (OpenSpec.ofChange quorumLawsSpec)

/-- ITS FALSE NEIGHBOUR: 'it returns false'. Refute it at one input. -/
def quorumLawsWrong : ChangeSpec := { name := "quorumLaws", fn := fun _ => fun
  | [d1, d2] => { results := [.lit (.bool false)], args := [d1, d2] }
  | _ => none }
def QuorumLawsWrongFalsely : Prop := quorumLawsRow.holds Try.pinned (OpenSpec.ofChange quorumLawsWrong)

/-- 'corncriblaw08.QuorumFirst': WHATEVER THE INPUT: true; the input reads as it did. -/
def quorumFirstSpec : ChangeSpec := { name := "quorumFirst", fn := fun _ => fun
  | [d1, d2] => { results := [.lit (.bool true)], args := [d1, d2] }
  | _ => none }
def quorumFirstRow : OpenClaim := { program := "ytcgoggkaiiljmaa", sum := "a37e7cbec66a073a87c97473fe6446b816fa19a3c3aa16e3f54bbdaf712d79e1", func := "corncrib/corncriblaw08.QuorumFirst", spec := "quorumFirst", unfollowed := true, recurses := true, apart := false }
def QuorumFirstSaid : Prop := quorumFirstRow.holds Try.pinned (OpenSpec.ofChange quorumFirstSpec)

/-- ITS FALSE NEIGHBOUR: 'it returns false'. Refute it at one input. -/
def quorumFirstWrong : ChangeSpec := { name := "quorumFirst", fn := fun _ => fun
  | [d1, d2] => { results := [.lit (.bool false)], args := [d1, d2] }
  | _ => none }
def QuorumFirstWrongFalsely : Prop := quorumFirstRow.holds Try.pinned (OpenSpec.ofChange quorumFirstWrong)

/- THE SECOND FORM. 'bulk': how many values and letters a reading holds, each counted each time it is reached (what is shared counts as often as it is met; a slice's spare places count too). A statement '..UptoSaid' is the law's where the arguments, and the package variables that the reading takes, are together of bulk at most 1048576: NARROWER than '..Said'. Prove '..Said' where nothing that the law and all that it calls make is longer than what came in: it says more and counts as full. Else prove '..UptoSaid'. A law counts once. -/
mutual
def uptoBulk {H : Type} : DataW H → Nat
  | .lit (.string bytes) => bytes.length + 1
  | .lit _ => 1
  | .nil => 1
  | .ptr d => uptoBulk d + 1
  | .slice elems spare => uptoBulkAll elems + uptoBulkAll spare + 1
  | .agg parts => uptoBulkAll parts + 1
  | .iface _ d => uptoBulk d + 1
  | .map entries => uptoBulkEntries entries + 1
  | .held _ => 1
def uptoBulkAll {H : Type} : List (DataW H) → Nat
  | [] => 0
  | d :: r => uptoBulk d + uptoBulkAll r
def uptoBulkEntries {H : Type} : List (Lit × DataW H) → Nat
  | [] => 0
  | x :: r => uptoBulkEntry x + uptoBulkEntries r
def uptoBulkEntry {H : Type} : Lit × DataW H → Nat
  | (.string bytes, d) => bytes.length + uptoBulk d + 1
  | (_, d) => uptoBulk d + 1
 end
def uptoSmall : (H : Type) → List (DataW H) → Bool := fun _ ds => decide (uptoBulkAll ds ≤ 1048576)
def OpenSpec.upto (s : _root_.Go.ChangeSpec) : _root_.Go.OpenSpec := { _root_.Go.OpenSpec.ofChange s with cond := some uptoSmall }

/-- 'corncriblaw08.QuorumCommits', WHERE WHAT IT READS IS OF BULK AT MOST 1048576: true; the input reads as it did. -/
def quorumCommitsUptoRow : OpenClaim := { program := "ytcgoggkaiiljmaa", sum := "a37e7cbec66a073a87c97473fe6446b816fa19a3c3aa16e3f54bbdaf712d79e1", func := "corncrib/corncriblaw08.QuorumCommits", spec := "quorumCommits", unfollowed := true, recurses := true, apart := false, narrowed := true }
def QuorumCommitsUptoSaid : Prop := quorumCommitsUptoRow.holds Try.pinned (OpenSpec.upto quorumCommitsSpec)

/-- 'corncriblaw08.QuorumReached', WHERE WHAT IT READS IS OF BULK AT MOST 1048576: true; the input reads as it did. -/
def quorumReachedUptoRow : OpenClaim := { program := "ytcgoggkaiiljmaa", sum := "a37e7cbec66a073a87c97473fe6446b816fa19a3c3aa16e3f54bbdaf712d79e1", func := "corncrib/corncriblaw08.QuorumReached", spec := "quorumReached", unfollowed := true, recurses := true, apart := false, narrowed := true }
def QuorumReachedUptoSaid : Prop := quorumReachedUptoRow.holds Try.pinned (OpenSpec.upto quorumReachedSpec)

/-- 'corncriblaw08.QuorumSets', WHERE WHAT IT READS IS OF BULK AT MOST 1048576: true; the input reads as it did. -/
def quorumSetsUptoRow : OpenClaim := { program := "ytcgoggkaiiljmaa", sum := "a37e7cbec66a073a87c97473fe6446b816fa19a3c3aa16e3f54bbdaf712d79e1", func := "corncrib/corncriblaw08.QuorumSets", spec := "quorumSets", unfollowed := true, recurses := true, apart := false, narrowed := true }
def QuorumSetsUptoSaid : Prop := quorumSetsUptoRow.holds Try.pinned (OpenSpec.upto quorumSetsSpec)

/-- 'corncriblaw08.QuorumMeets', WHERE WHAT IT READS IS OF BULK AT MOST 1048576: true; the input reads as it did. -/
def quorumMeetsUptoRow : OpenClaim := { program := "ytcgoggkaiiljmaa", sum := "a37e7cbec66a073a87c97473fe6446b816fa19a3c3aa16e3f54bbdaf712d79e1", func := "corncrib/corncriblaw08.QuorumMeets", spec := "quorumMeets", unfollowed := true, recurses := true, apart := false, narrowed := true }
def QuorumMeetsUptoSaid : Prop := quorumMeetsUptoRow.holds Try.pinned (OpenSpec.upto quorumMeetsSpec)

/-- 'corncriblaw08.QuorumLaws', WHERE WHAT IT READS IS OF BULK AT MOST 1048576: true; the input reads as it did. -/
def quorumLawsUptoRow : OpenClaim := { program := "ytcgoggkaiiljmaa", sum := "a37e7cbec66a073a87c97473fe6446b816fa19a3c3aa16e3f54bbdaf712d79e1", func := "corncrib/corncriblaw08.QuorumLaws", spec := "quorumLaws", unfollowed := true, recurses := true, apart := false, narrowed := true }
def QuorumLawsUptoSaid : Prop := quorumLawsUptoRow.holds Try.pinned (OpenSpec.upto quorumLawsSpec)

/-- 'corncriblaw08.QuorumFirst', WHERE WHAT IT READS IS OF BULK AT MOST 1048576: true; the input reads as it did. -/
def quorumFirstUptoRow : OpenClaim := { program := "ytcgoggkaiiljmaa", sum := "a37e7cbec66a073a87c97473fe6446b816fa19a3c3aa16e3f54bbdaf712d79e1", func := "corncrib/corncriblaw08.QuorumFirst", spec := "quorumFirst", unfollowed := true, recurses := true, apart := false, narrowed := true }
def QuorumFirstUptoSaid : Prop := quorumFirstUptoRow.holds Try.pinned (OpenSpec.upto quorumFirstSpec)

end Rows
end Go.Proofs.Ytcgoggkaiiljmaa
