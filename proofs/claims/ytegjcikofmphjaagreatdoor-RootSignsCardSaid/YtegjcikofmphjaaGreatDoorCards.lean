/-
  DERIVED. GIVEN WITH THE SEED: THE CARDS: each row of YtegjcikofmphjaaGreatDoorRows.lean that lists a variable, with what it lists TIED to the program's text (the seventh form; the later family's looks); each row that meets fmt, with fmt's text TOLD by the authors' own Lean function (tested against real Go, not proved from fmt's source: count such statements apart). THE CARD IS WHAT COUNTS. Prove the row's statement (the work); the ties are given (YtegjcikofmphjaaGreatDoorTie.lean); close each card by the builder's one call (the guide's Derived/Test/ToyasCard.lean, 'card_holds'). Laid BY PROGRAM, IN A SANDBOX (cutbox-door.mjs). By AI agents, Wed Nov 11 2026. No macro, syntax, notation, axiom, sorry.
-/
import Derived.Test.YtegjcikofmphjaaGreatDoorRows
import GoSem.ClaimSeven
namespace Go.Proofs.YtegjcikofmphjaaGreatDoor
namespace Rows

/-- THE TIED CARD OF 'etchantlaw02.RootOf'. -/
def rootOfCard : Claim7 := { stood := { row := rootOfRow, standIns := [], harness := (true, "36c85bb9c5da7266d082608ffe87c34421c0d85df6aac819a38e723dbdc2b85c"), looks := false }, kinds := [], alts := [], laidByText := true, laidKinds := [.data, .data, .data], laidTests := true, laidLooks := .later }
def RootOfCardSaid : Prop := Claim7.holds Tryz.pinned (.plain (OpenSpec.ofChange rootOfSpec)) rootOfCard

/-- THE TIED CARD OF 'etchantlaw02.RootSigns'. -/
def rootSignsCard : Claim7 := { stood := { row := rootSignsRow, standIns := [], harness := (true, "36c85bb9c5da7266d082608ffe87c34421c0d85df6aac819a38e723dbdc2b85c"), looks := false }, kinds := [], alts := [], laidByText := true, laidKinds := [.data, .data, .data], laidTests := true, laidLooks := .later }
def RootSignsCardSaid : Prop := Claim7.holds Tryz.pinned (.plain (OpenSpec.ofChange rootSignsSpec)) rootSignsCard

/-- THE TIED CARD OF 'etchantlaw02.RootCmps'. -/
def rootCmpsCard : Claim7 := { stood := { row := rootCmpsRow, standIns := [], harness := (true, "36c85bb9c5da7266d082608ffe87c34421c0d85df6aac819a38e723dbdc2b85c"), looks := false }, kinds := [], alts := [], laidByText := true, laidKinds := [.data, .data, .data], laidTests := true, laidLooks := .later }
def RootCmpsCardSaid : Prop := Claim7.holds Tryz.pinned (.plain (OpenSpec.ofChange rootCmpsSpec)) rootCmpsCard

/-- THE TIED CARD OF 'etchantlaw02.RootOrder'. -/
def rootOrderCard : Claim7 := { stood := { row := rootOrderRow, standIns := [], harness := (true, "36c85bb9c5da7266d082608ffe87c34421c0d85df6aac819a38e723dbdc2b85c"), looks := false }, kinds := [], alts := [], laidByText := true, laidKinds := [.data, .data, .data], laidTests := true, laidLooks := .later }
def RootOrderCardSaid : Prop := Claim7.holds Tryz.pinned (.plain (OpenSpec.ofChange rootOrderSpec)) rootOrderCard

/-- THE TIED CARD OF 'etchantlaw02.RootWhole'. -/
def rootWholeCard : Claim7 := { stood := { row := rootWholeRow, standIns := [], harness := (true, "36c85bb9c5da7266d082608ffe87c34421c0d85df6aac819a38e723dbdc2b85c"), looks := false }, kinds := [], alts := [], laidByText := true, laidKinds := [.data, .data, .data], laidTests := true, laidLooks := .later }
def RootWholeCardSaid : Prop := Claim7.holds Tryz.pinned (.plain (OpenSpec.ofChange rootWholeSpec)) rootWholeCard

/-- THE TIED CARD OF 'etchantlaw02.RootBounds'. -/
def rootBoundsCard : Claim7 := { stood := { row := rootBoundsRow, standIns := [], harness := (true, "36c85bb9c5da7266d082608ffe87c34421c0d85df6aac819a38e723dbdc2b85c"), looks := false }, kinds := [], alts := [], laidByText := true, laidKinds := [.data, .data, .data], laidTests := true, laidLooks := .later }
def RootBoundsCardSaid : Prop := Claim7.holds Tryz.pinned (.plain (OpenSpec.ofChange rootBoundsSpec)) rootBoundsCard

/-- THE TIED CARD OF 'etchantlaw02.RootTexts'. -/
def rootTextsCard : Claim7 := { stood := { row := rootTextsRow, standIns := [], harness := (true, "36c85bb9c5da7266d082608ffe87c34421c0d85df6aac819a38e723dbdc2b85c"), looks := false }, kinds := [], alts := [], laidByText := true, laidKinds := [.data, .data, .data], laidTests := true, laidLooks := .later }
def RootTextsCardSaid : Prop := Claim7.holds Tryz.pinned (.plain (OpenSpec.ofChange rootTextsSpec)) rootTextsCard

/-- THE SECOND FORM's CARD OF 'etchantlaw02.RootOf'. -/
def rootOfUptoCard : Claim7 := { stood := { row := rootOfUptoRow, standIns := [], harness := (true, "36c85bb9c5da7266d082608ffe87c34421c0d85df6aac819a38e723dbdc2b85c"), looks := false }, kinds := [], alts := [], laidByText := true, laidKinds := [.data, .data, .data], laidTests := true, laidLooks := .later }
def RootOfUptoCardSaid : Prop := Claim7.holds Tryz.pinned (.plain (OpenSpec.upto rootOfSpec)) rootOfUptoCard

/-- THE SECOND FORM's CARD OF 'etchantlaw02.RootSigns'. -/
def rootSignsUptoCard : Claim7 := { stood := { row := rootSignsUptoRow, standIns := [], harness := (true, "36c85bb9c5da7266d082608ffe87c34421c0d85df6aac819a38e723dbdc2b85c"), looks := false }, kinds := [], alts := [], laidByText := true, laidKinds := [.data, .data, .data], laidTests := true, laidLooks := .later }
def RootSignsUptoCardSaid : Prop := Claim7.holds Tryz.pinned (.plain (OpenSpec.upto rootSignsSpec)) rootSignsUptoCard

/-- THE SECOND FORM's CARD OF 'etchantlaw02.RootCmps'. -/
def rootCmpsUptoCard : Claim7 := { stood := { row := rootCmpsUptoRow, standIns := [], harness := (true, "36c85bb9c5da7266d082608ffe87c34421c0d85df6aac819a38e723dbdc2b85c"), looks := false }, kinds := [], alts := [], laidByText := true, laidKinds := [.data, .data, .data], laidTests := true, laidLooks := .later }
def RootCmpsUptoCardSaid : Prop := Claim7.holds Tryz.pinned (.plain (OpenSpec.upto rootCmpsSpec)) rootCmpsUptoCard

/-- THE SECOND FORM's CARD OF 'etchantlaw02.RootOrder'. -/
def rootOrderUptoCard : Claim7 := { stood := { row := rootOrderUptoRow, standIns := [], harness := (true, "36c85bb9c5da7266d082608ffe87c34421c0d85df6aac819a38e723dbdc2b85c"), looks := false }, kinds := [], alts := [], laidByText := true, laidKinds := [.data, .data, .data], laidTests := true, laidLooks := .later }
def RootOrderUptoCardSaid : Prop := Claim7.holds Tryz.pinned (.plain (OpenSpec.upto rootOrderSpec)) rootOrderUptoCard

/-- THE SECOND FORM's CARD OF 'etchantlaw02.RootWhole'. -/
def rootWholeUptoCard : Claim7 := { stood := { row := rootWholeUptoRow, standIns := [], harness := (true, "36c85bb9c5da7266d082608ffe87c34421c0d85df6aac819a38e723dbdc2b85c"), looks := false }, kinds := [], alts := [], laidByText := true, laidKinds := [.data, .data, .data], laidTests := true, laidLooks := .later }
def RootWholeUptoCardSaid : Prop := Claim7.holds Tryz.pinned (.plain (OpenSpec.upto rootWholeSpec)) rootWholeUptoCard

/-- THE SECOND FORM's CARD OF 'etchantlaw02.RootBounds'. -/
def rootBoundsUptoCard : Claim7 := { stood := { row := rootBoundsUptoRow, standIns := [], harness := (true, "36c85bb9c5da7266d082608ffe87c34421c0d85df6aac819a38e723dbdc2b85c"), looks := false }, kinds := [], alts := [], laidByText := true, laidKinds := [.data, .data, .data], laidTests := true, laidLooks := .later }
def RootBoundsUptoCardSaid : Prop := Claim7.holds Tryz.pinned (.plain (OpenSpec.upto rootBoundsSpec)) rootBoundsUptoCard

/-- THE SECOND FORM's CARD OF 'etchantlaw02.RootTexts'. -/
def rootTextsUptoCard : Claim7 := { stood := { row := rootTextsUptoRow, standIns := [], harness := (true, "36c85bb9c5da7266d082608ffe87c34421c0d85df6aac819a38e723dbdc2b85c"), looks := false }, kinds := [], alts := [], laidByText := true, laidKinds := [.data, .data, .data], laidTests := true, laidLooks := .later }
def RootTextsUptoCardSaid : Prop := Claim7.holds Tryz.pinned (.plain (OpenSpec.upto rootTextsSpec)) rootTextsUptoCard
end Rows
end Go.Proofs.YtegjcikofmphjaaGreatDoor
