/-
  DERIVED. GIVEN WITH THE SEED: THE CARDS: each row of YtlbaaiglebpjiaaGreatDoorRows.lean that lists a variable, with what it lists TIED to the program's text (the seventh form; the later family's looks); each row that meets fmt, with fmt's text TOLD by the authors' own Lean function (tested against real Go, not proved from fmt's source: count such statements apart). THE CARD IS WHAT COUNTS. Prove the row's statement (the work); the ties are given (YtlbaaiglebpjiaaGreatDoorTie.lean); close each card by the builder's one call (the guide's Derived/Test/ToyasCard.lean, 'card_holds'). Laid BY PROGRAM, IN A SANDBOX (cutbox-door.mjs). By AI agents, Wed Nov 11 2026. No macro, syntax, notation, axiom, sorry.
-/
import Derived.Test.YtlbaaiglebpjiaaGreatDoorRows
import GoSem.ClaimSeven
namespace Go.Proofs.YtlbaaiglebpjiaaGreatDoor
namespace Rows

/-- THE TIED CARD OF 'confluentlaw03.SyntaxShapes'. -/
def syntaxShapesCard : Claim7 := { stood := { row := syntaxShapesRow, standIns := [], harness := (true, "345669eaac9c54ac8f4af562791ab7e308d123e5771bdc2c1d86465f2fae16f7"), looks := true }, kinds := [], alts := [], laidByText := true, laidKinds := [.data, .data, .data, .sentinel, .sentinel], laidTests := true, laidLooks := .later }
def SyntaxShapesCardSaid : Prop := Claim7.holds Tryz.pinned (.plain (OpenSpec.ofChange syntaxShapesSpec)) syntaxShapesCard

/-- THE TIED CARD OF 'confluentlaw03.SyntaxPaths'. -/
def syntaxPathsCard : Claim7 := { stood := { row := syntaxPathsRow, standIns := [], harness := (true, "345669eaac9c54ac8f4af562791ab7e308d123e5771bdc2c1d86465f2fae16f7"), looks := true }, kinds := [], alts := [], laidByText := true, laidKinds := [.data, .data, .data, .sentinel, .sentinel], laidTests := true, laidLooks := .later }
def SyntaxPathsCardSaid : Prop := Claim7.holds Tryz.pinned (.plain (OpenSpec.ofChange syntaxPathsSpec)) syntaxPathsCard

/-- THE TIED CARD OF 'confluentlaw03.SyntaxTrees'. -/
def syntaxTreesCard : Claim7 := { stood := { row := syntaxTreesRow, standIns := [], harness := (true, "345669eaac9c54ac8f4af562791ab7e308d123e5771bdc2c1d86465f2fae16f7"), looks := true }, kinds := [], alts := [], laidByText := true, laidKinds := [.data, .data, .data, .sentinel, .sentinel], laidTests := true, laidLooks := .later }
def SyntaxTreesCardSaid : Prop := Claim7.holds Tryz.pinned (.plain (OpenSpec.ofChange syntaxTreesSpec)) syntaxTreesCard

/-- THE TIED CARD OF 'confluentlaw03.SyntaxReplaces'. -/
def syntaxReplacesCard : Claim7 := { stood := { row := syntaxReplacesRow, standIns := [], harness := (true, "345669eaac9c54ac8f4af562791ab7e308d123e5771bdc2c1d86465f2fae16f7"), looks := true }, kinds := [], alts := [], laidByText := true, laidKinds := [.data, .data, .data, .sentinel, .sentinel], laidTests := true, laidLooks := .later }
def SyntaxReplacesCardSaid : Prop := Claim7.holds Tryz.pinned (.plain (OpenSpec.ofChange syntaxReplacesSpec)) syntaxReplacesCard

/-- THE TIED CARD OF 'confluentlaw03.SyntaxInverse'. -/
def syntaxInverseCard : Claim7 := { stood := { row := syntaxInverseRow, standIns := [], harness := (true, "345669eaac9c54ac8f4af562791ab7e308d123e5771bdc2c1d86465f2fae16f7"), looks := true }, kinds := [], alts := [], laidByText := true, laidKinds := [.data, .data, .data, .sentinel, .sentinel], laidTests := true, laidLooks := .later }
def SyntaxInverseCardSaid : Prop := Claim7.holds Tryz.pinned (.plain (OpenSpec.ofChange syntaxInverseSpec)) syntaxInverseCard

/-- THE TIED CARD OF 'confluentlaw03.SyntaxPlaces'. -/
def syntaxPlacesCard : Claim7 := { stood := { row := syntaxPlacesRow, standIns := [], harness := (true, "345669eaac9c54ac8f4af562791ab7e308d123e5771bdc2c1d86465f2fae16f7"), looks := true }, kinds := [], alts := [], laidByText := true, laidKinds := [.data, .data, .data, .sentinel, .sentinel], laidTests := true, laidLooks := .later }
def SyntaxPlacesCardSaid : Prop := Claim7.holds Tryz.pinned (.plain (OpenSpec.ofChange syntaxPlacesSpec)) syntaxPlacesCard

/-- THE TIED CARD OF 'confluentlaw03.SyntaxSpoils'. -/
def syntaxSpoilsCard : Claim7 := { stood := { row := syntaxSpoilsRow, standIns := [], harness := (true, "345669eaac9c54ac8f4af562791ab7e308d123e5771bdc2c1d86465f2fae16f7"), looks := true }, kinds := [], alts := [], laidByText := true, laidKinds := [.data, .data, .data, .sentinel, .sentinel], laidTests := true, laidLooks := .later }
def SyntaxSpoilsCardSaid : Prop := Claim7.holds Tryz.pinned (.plain (OpenSpec.ofChange syntaxSpoilsSpec)) syntaxSpoilsCard

/-- THE TIED CARD OF 'confluentlaw03.SyntaxApart'. -/
def syntaxApartCard : Claim7 := { stood := { row := syntaxApartRow, standIns := [], harness := (true, "345669eaac9c54ac8f4af562791ab7e308d123e5771bdc2c1d86465f2fae16f7"), looks := true }, kinds := [], alts := [], laidByText := true, laidKinds := [.data, .data, .data, .sentinel, .sentinel], laidTests := true, laidLooks := .later }
def SyntaxApartCardSaid : Prop := Claim7.holds Tryz.pinned (.plain (OpenSpec.ofChange syntaxApartSpec)) syntaxApartCard

/-- THE SECOND FORM's CARD OF 'confluentlaw03.SyntaxShapes'. -/
def syntaxShapesUptoCard : Claim7 := { stood := { row := syntaxShapesUptoRow, standIns := [], harness := (true, "345669eaac9c54ac8f4af562791ab7e308d123e5771bdc2c1d86465f2fae16f7"), looks := true }, kinds := [], alts := [], laidByText := true, laidKinds := [.data, .data, .data, .sentinel, .sentinel], laidTests := true, laidLooks := .later }
def SyntaxShapesUptoCardSaid : Prop := Claim7.holds Tryz.pinned (.plain (OpenSpec.upto syntaxShapesSpec)) syntaxShapesUptoCard

/-- THE SECOND FORM's CARD OF 'confluentlaw03.SyntaxPaths'. -/
def syntaxPathsUptoCard : Claim7 := { stood := { row := syntaxPathsUptoRow, standIns := [], harness := (true, "345669eaac9c54ac8f4af562791ab7e308d123e5771bdc2c1d86465f2fae16f7"), looks := true }, kinds := [], alts := [], laidByText := true, laidKinds := [.data, .data, .data, .sentinel, .sentinel], laidTests := true, laidLooks := .later }
def SyntaxPathsUptoCardSaid : Prop := Claim7.holds Tryz.pinned (.plain (OpenSpec.upto syntaxPathsSpec)) syntaxPathsUptoCard

/-- THE SECOND FORM's CARD OF 'confluentlaw03.SyntaxTrees'. -/
def syntaxTreesUptoCard : Claim7 := { stood := { row := syntaxTreesUptoRow, standIns := [], harness := (true, "345669eaac9c54ac8f4af562791ab7e308d123e5771bdc2c1d86465f2fae16f7"), looks := true }, kinds := [], alts := [], laidByText := true, laidKinds := [.data, .data, .data, .sentinel, .sentinel], laidTests := true, laidLooks := .later }
def SyntaxTreesUptoCardSaid : Prop := Claim7.holds Tryz.pinned (.plain (OpenSpec.upto syntaxTreesSpec)) syntaxTreesUptoCard

/-- THE SECOND FORM's CARD OF 'confluentlaw03.SyntaxReplaces'. -/
def syntaxReplacesUptoCard : Claim7 := { stood := { row := syntaxReplacesUptoRow, standIns := [], harness := (true, "345669eaac9c54ac8f4af562791ab7e308d123e5771bdc2c1d86465f2fae16f7"), looks := true }, kinds := [], alts := [], laidByText := true, laidKinds := [.data, .data, .data, .sentinel, .sentinel], laidTests := true, laidLooks := .later }
def SyntaxReplacesUptoCardSaid : Prop := Claim7.holds Tryz.pinned (.plain (OpenSpec.upto syntaxReplacesSpec)) syntaxReplacesUptoCard

/-- THE SECOND FORM's CARD OF 'confluentlaw03.SyntaxInverse'. -/
def syntaxInverseUptoCard : Claim7 := { stood := { row := syntaxInverseUptoRow, standIns := [], harness := (true, "345669eaac9c54ac8f4af562791ab7e308d123e5771bdc2c1d86465f2fae16f7"), looks := true }, kinds := [], alts := [], laidByText := true, laidKinds := [.data, .data, .data, .sentinel, .sentinel], laidTests := true, laidLooks := .later }
def SyntaxInverseUptoCardSaid : Prop := Claim7.holds Tryz.pinned (.plain (OpenSpec.upto syntaxInverseSpec)) syntaxInverseUptoCard

/-- THE SECOND FORM's CARD OF 'confluentlaw03.SyntaxPlaces'. -/
def syntaxPlacesUptoCard : Claim7 := { stood := { row := syntaxPlacesUptoRow, standIns := [], harness := (true, "345669eaac9c54ac8f4af562791ab7e308d123e5771bdc2c1d86465f2fae16f7"), looks := true }, kinds := [], alts := [], laidByText := true, laidKinds := [.data, .data, .data, .sentinel, .sentinel], laidTests := true, laidLooks := .later }
def SyntaxPlacesUptoCardSaid : Prop := Claim7.holds Tryz.pinned (.plain (OpenSpec.upto syntaxPlacesSpec)) syntaxPlacesUptoCard

/-- THE SECOND FORM's CARD OF 'confluentlaw03.SyntaxSpoils'. -/
def syntaxSpoilsUptoCard : Claim7 := { stood := { row := syntaxSpoilsUptoRow, standIns := [], harness := (true, "345669eaac9c54ac8f4af562791ab7e308d123e5771bdc2c1d86465f2fae16f7"), looks := true }, kinds := [], alts := [], laidByText := true, laidKinds := [.data, .data, .data, .sentinel, .sentinel], laidTests := true, laidLooks := .later }
def SyntaxSpoilsUptoCardSaid : Prop := Claim7.holds Tryz.pinned (.plain (OpenSpec.upto syntaxSpoilsSpec)) syntaxSpoilsUptoCard

/-- THE SECOND FORM's CARD OF 'confluentlaw03.SyntaxApart'. -/
def syntaxApartUptoCard : Claim7 := { stood := { row := syntaxApartUptoRow, standIns := [], harness := (true, "345669eaac9c54ac8f4af562791ab7e308d123e5771bdc2c1d86465f2fae16f7"), looks := true }, kinds := [], alts := [], laidByText := true, laidKinds := [.data, .data, .data, .sentinel, .sentinel], laidTests := true, laidLooks := .later }
def SyntaxApartUptoCardSaid : Prop := Claim7.holds Tryz.pinned (.plain (OpenSpec.upto syntaxApartSpec)) syntaxApartUptoCard
end Rows
end Go.Proofs.YtlbaaiglebpjiaaGreatDoor
