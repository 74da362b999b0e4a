/-
  DERIVED. GIVEN WITH THE SEED: THE CARDS: each row of YthkkphfnfggpaaaDoorRows.lean that lists a variable, with what it lists TIED to the program's text (the seventh form; the later family's looks); each row that meets fmt, with fmt's text TOLD by the authors' own Lean function (tested against real Go, not proved from fmt's source: count such statements apart). THE CARD IS WHAT COUNTS. Prove the row's statement (the work); the ties are given (YthkkphfnfggpaaaDoorTie.lean); close each card by the builder's one call (the guide's Derived/Test/ToyasCard.lean, 'card_holds'). Laid BY PROGRAM, IN A SANDBOX (cutbox-door.mjs). By AI agents, Wed Nov 11 2026. No macro, syntax, notation, axiom, sorry.
-/
import Derived.Test.YthkkphfnfggpaaaDoorRows
import GoSem.ClaimSeven
namespace Go.Proofs.YthkkphfnfggpaaaDoor
namespace Rows

/-- THE TIED CARD OF 'corncriblaw01.RunesPieces'. -/
def runesPiecesCard : Claim7 := { stood := { row := runesPiecesRow, standIns := [], harness := (true, "d04f42608e5cf1aa4cef8ad26e4a03388f13103601656d52c42166929d2c1549"), looks := false }, kinds := [], alts := [], laidByText := true, laidKinds := [.data, .pinned], laidTests := true, laidLooks := .later }
def RunesPiecesCardSaid : Prop := Claim7.holds Tryd.pinned (.plain (OpenSpec.ofChange runesPiecesSpec)) runesPiecesCard

/-- THE TIED CARD OF 'corncriblaw01.RunesBack'. -/
def runesBackCard : Claim7 := { stood := { row := runesBackRow, standIns := [], harness := (true, "d04f42608e5cf1aa4cef8ad26e4a03388f13103601656d52c42166929d2c1549"), looks := false }, kinds := [], alts := [], laidByText := true, laidKinds := [.data, .pinned], laidTests := true, laidLooks := .later }
def RunesBackCardSaid : Prop := Claim7.holds Tryd.pinned (.plain (OpenSpec.ofChange runesBackSpec)) runesBackCard

/-- THE TIED CARD OF 'corncriblaw01.RunesOrder'. -/
def runesOrderCard : Claim7 := { stood := { row := runesOrderRow, standIns := [], harness := (true, "d04f42608e5cf1aa4cef8ad26e4a03388f13103601656d52c42166929d2c1549"), looks := false }, kinds := [], alts := [], laidByText := true, laidKinds := [.data, .pinned], laidTests := true, laidLooks := .later }
def RunesOrderCardSaid : Prop := Claim7.holds Tryd.pinned (.plain (OpenSpec.ofChange runesOrderSpec)) runesOrderCard

/-- THE TIED CARD OF 'corncriblaw01.RunesNames'. -/
def runesNamesCard : Claim7 := { stood := { row := runesNamesRow, standIns := [], harness := (true, "d04f42608e5cf1aa4cef8ad26e4a03388f13103601656d52c42166929d2c1549"), looks := false }, kinds := [], alts := [], laidByText := true, laidKinds := [.data, .pinned], laidTests := true, laidLooks := .later }
def RunesNamesCardSaid : Prop := Claim7.holds Tryd.pinned (.plain (OpenSpec.ofChange runesNamesSpec)) runesNamesCard

/-- THE TIED CARD OF 'corncriblaw01.RunesPatterns'. -/
def runesPatternsCard : Claim7 := { stood := { row := runesPatternsRow, standIns := [], harness := (true, "d04f42608e5cf1aa4cef8ad26e4a03388f13103601656d52c42166929d2c1549"), looks := false }, kinds := [], alts := [], laidByText := true, laidKinds := [.data, .pinned], laidTests := true, laidLooks := .later }
def RunesPatternsCardSaid : Prop := Claim7.holds Tryd.pinned (.plain (OpenSpec.ofChange runesPatternsSpec)) runesPatternsCard

/-- THE TIED CARD OF 'corncriblaw01.RunesStars'. -/
def runesStarsCard : Claim7 := { stood := { row := runesStarsRow, standIns := [], harness := (true, "d04f42608e5cf1aa4cef8ad26e4a03388f13103601656d52c42166929d2c1549"), looks := false }, kinds := [], alts := [], laidByText := true, laidKinds := [.data, .pinned], laidTests := true, laidLooks := .later }
def RunesStarsCardSaid : Prop := Claim7.holds Tryd.pinned (.plain (OpenSpec.ofChange runesStarsSpec)) runesStarsCard

/-- THE TIED CARD OF 'corncriblaw01.RunesJoin'. -/
def runesJoinCard : Claim7 := { stood := { row := runesJoinRow, standIns := [], harness := (true, "d04f42608e5cf1aa4cef8ad26e4a03388f13103601656d52c42166929d2c1549"), looks := false }, kinds := [], alts := [], laidByText := true, laidKinds := [.data, .pinned], laidTests := true, laidLooks := .later }
def RunesJoinCardSaid : Prop := Claim7.holds Tryd.pinned (.plain (OpenSpec.ofChange runesJoinSpec)) runesJoinCard

/-- THE TIED CARD OF 'corncriblaw01.RunesPlain'. -/
def runesPlainCard : Claim7 := { stood := { row := runesPlainRow, standIns := [], harness := (true, "d04f42608e5cf1aa4cef8ad26e4a03388f13103601656d52c42166929d2c1549"), looks := false }, kinds := [], alts := [], laidByText := true, laidKinds := [.data, .pinned], laidTests := true, laidLooks := .later }
def RunesPlainCardSaid : Prop := Claim7.holds Tryd.pinned (.plain (OpenSpec.ofChange runesPlainSpec)) runesPlainCard

/-- THE SECOND FORM's CARD OF 'corncriblaw01.RunesPieces'. -/
def runesPiecesUptoCard : Claim7 := { stood := { row := runesPiecesUptoRow, standIns := [], harness := (true, "d04f42608e5cf1aa4cef8ad26e4a03388f13103601656d52c42166929d2c1549"), looks := false }, kinds := [], alts := [], laidByText := true, laidKinds := [.data, .pinned], laidTests := true, laidLooks := .later }
def RunesPiecesUptoCardSaid : Prop := Claim7.holds Tryd.pinned (.plain (OpenSpec.upto runesPiecesSpec)) runesPiecesUptoCard

/-- THE SECOND FORM's CARD OF 'corncriblaw01.RunesBack'. -/
def runesBackUptoCard : Claim7 := { stood := { row := runesBackUptoRow, standIns := [], harness := (true, "d04f42608e5cf1aa4cef8ad26e4a03388f13103601656d52c42166929d2c1549"), looks := false }, kinds := [], alts := [], laidByText := true, laidKinds := [.data, .pinned], laidTests := true, laidLooks := .later }
def RunesBackUptoCardSaid : Prop := Claim7.holds Tryd.pinned (.plain (OpenSpec.upto runesBackSpec)) runesBackUptoCard

/-- THE SECOND FORM's CARD OF 'corncriblaw01.RunesOrder'. -/
def runesOrderUptoCard : Claim7 := { stood := { row := runesOrderUptoRow, standIns := [], harness := (true, "d04f42608e5cf1aa4cef8ad26e4a03388f13103601656d52c42166929d2c1549"), looks := false }, kinds := [], alts := [], laidByText := true, laidKinds := [.data, .pinned], laidTests := true, laidLooks := .later }
def RunesOrderUptoCardSaid : Prop := Claim7.holds Tryd.pinned (.plain (OpenSpec.upto runesOrderSpec)) runesOrderUptoCard

/-- THE SECOND FORM's CARD OF 'corncriblaw01.RunesNames'. -/
def runesNamesUptoCard : Claim7 := { stood := { row := runesNamesUptoRow, standIns := [], harness := (true, "d04f42608e5cf1aa4cef8ad26e4a03388f13103601656d52c42166929d2c1549"), looks := false }, kinds := [], alts := [], laidByText := true, laidKinds := [.data, .pinned], laidTests := true, laidLooks := .later }
def RunesNamesUptoCardSaid : Prop := Claim7.holds Tryd.pinned (.plain (OpenSpec.upto runesNamesSpec)) runesNamesUptoCard

/-- THE SECOND FORM's CARD OF 'corncriblaw01.RunesPatterns'. -/
def runesPatternsUptoCard : Claim7 := { stood := { row := runesPatternsUptoRow, standIns := [], harness := (true, "d04f42608e5cf1aa4cef8ad26e4a03388f13103601656d52c42166929d2c1549"), looks := false }, kinds := [], alts := [], laidByText := true, laidKinds := [.data, .pinned], laidTests := true, laidLooks := .later }
def RunesPatternsUptoCardSaid : Prop := Claim7.holds Tryd.pinned (.plain (OpenSpec.upto runesPatternsSpec)) runesPatternsUptoCard

/-- THE SECOND FORM's CARD OF 'corncriblaw01.RunesStars'. -/
def runesStarsUptoCard : Claim7 := { stood := { row := runesStarsUptoRow, standIns := [], harness := (true, "d04f42608e5cf1aa4cef8ad26e4a03388f13103601656d52c42166929d2c1549"), looks := false }, kinds := [], alts := [], laidByText := true, laidKinds := [.data, .pinned], laidTests := true, laidLooks := .later }
def RunesStarsUptoCardSaid : Prop := Claim7.holds Tryd.pinned (.plain (OpenSpec.upto runesStarsSpec)) runesStarsUptoCard

/-- THE SECOND FORM's CARD OF 'corncriblaw01.RunesJoin'. -/
def runesJoinUptoCard : Claim7 := { stood := { row := runesJoinUptoRow, standIns := [], harness := (true, "d04f42608e5cf1aa4cef8ad26e4a03388f13103601656d52c42166929d2c1549"), looks := false }, kinds := [], alts := [], laidByText := true, laidKinds := [.data, .pinned], laidTests := true, laidLooks := .later }
def RunesJoinUptoCardSaid : Prop := Claim7.holds Tryd.pinned (.plain (OpenSpec.upto runesJoinSpec)) runesJoinUptoCard

/-- THE SECOND FORM's CARD OF 'corncriblaw01.RunesPlain'. -/
def runesPlainUptoCard : Claim7 := { stood := { row := runesPlainUptoRow, standIns := [], harness := (true, "d04f42608e5cf1aa4cef8ad26e4a03388f13103601656d52c42166929d2c1549"), looks := false }, kinds := [], alts := [], laidByText := true, laidKinds := [.data, .pinned], laidTests := true, laidLooks := .later }
def RunesPlainUptoCardSaid : Prop := Claim7.holds Tryd.pinned (.plain (OpenSpec.upto runesPlainSpec)) runesPlainUptoCard
end Rows
end Go.Proofs.YthkkphfnfggpaaaDoor
