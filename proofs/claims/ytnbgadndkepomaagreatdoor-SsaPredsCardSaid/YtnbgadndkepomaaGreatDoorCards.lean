/-
  DERIVED. GIVEN WITH THE SEED: THE CARDS: each row of YtnbgadndkepomaaGreatDoorRows.lean that lists a variable, with what it lists TIED to the program's text (the seventh form; the later family's looks); each row that meets fmt, with fmt's text TOLD by the authors' own Lean function (tested against real Go, not proved from fmt's source: count such statements apart). THE CARD IS WHAT COUNTS. Prove the row's statement (the work); the ties are given (YtnbgadndkepomaaGreatDoorTie.lean); close each card by the builder's one call (the guide's Derived/Test/ToyasCard.lean, 'card_holds'). Laid BY PROGRAM, IN A SANDBOX (cutbox-door.mjs). By AI agents, Wed Nov 11 2026. No macro, syntax, notation, axiom, sorry.
-/
import Derived.Test.YtnbgadndkepomaaGreatDoorRows
import GoSem.ClaimSeven
namespace Go.Proofs.YtnbgadndkepomaaGreatDoor
namespace Rows

/-- THE TIED CARD OF 'formfinderlaw06.SsaMatchesReference'. -/
def ssaMatchesReferenceCard : Claim7 := { stood := { row := ssaMatchesReferenceRow, standIns := [], harness := (true, "b1d4facf6db010f2789387b12509905d6b9670202200b63b5f2c4fe492c9276e"), looks := true }, kinds := [], alts := [], laidByText := true, laidKinds := [.data, .data, .data, .sentinel, .sentinel], laidTests := true, laidLooks := .later }
def SsaMatchesReferenceCardSaid : Prop := Claim7.holds Tryz.pinned (.plain (OpenSpec.ofChange ssaMatchesReferenceSpec)) ssaMatchesReferenceCard

/-- THE TIED CARD OF 'formfinderlaw06.SsaDefined'. -/
def ssaDefinedCard : Claim7 := { stood := { row := ssaDefinedRow, standIns := [], harness := (true, "b1d4facf6db010f2789387b12509905d6b9670202200b63b5f2c4fe492c9276e"), looks := true }, kinds := [], alts := [], laidByText := true, laidKinds := [.data, .data, .data, .sentinel, .sentinel], laidTests := true, laidLooks := .later }
def SsaDefinedCardSaid : Prop := Claim7.holds Tryz.pinned (.plain (OpenSpec.ofChange ssaDefinedSpec)) ssaDefinedCard

/-- THE TIED CARD OF 'formfinderlaw06.SsaOrder'. -/
def ssaOrderCard : Claim7 := { stood := { row := ssaOrderRow, standIns := [], harness := (true, "b1d4facf6db010f2789387b12509905d6b9670202200b63b5f2c4fe492c9276e"), looks := true }, kinds := [], alts := [], laidByText := true, laidKinds := [.data, .data, .data, .sentinel, .sentinel], laidTests := true, laidLooks := .later }
def SsaOrderCardSaid : Prop := Claim7.holds Tryz.pinned (.plain (OpenSpec.ofChange ssaOrderSpec)) ssaOrderCard

/-- THE TIED CARD OF 'formfinderlaw06.SsaPreds'. -/
def ssaPredsCard : Claim7 := { stood := { row := ssaPredsRow, standIns := [], harness := (true, "b1d4facf6db010f2789387b12509905d6b9670202200b63b5f2c4fe492c9276e"), looks := true }, kinds := [], alts := [], laidByText := true, laidKinds := [.data, .data, .data, .sentinel, .sentinel], laidTests := true, laidLooks := .later }
def SsaPredsCardSaid : Prop := Claim7.holds Tryz.pinned (.plain (OpenSpec.ofChange ssaPredsSpec)) ssaPredsCard

/-- THE TIED CARD OF 'formfinderlaw06.SsaUses'. -/
def ssaUsesCard : Claim7 := { stood := { row := ssaUsesRow, standIns := [], harness := (true, "b1d4facf6db010f2789387b12509905d6b9670202200b63b5f2c4fe492c9276e"), looks := true }, kinds := [], alts := [], laidByText := true, laidKinds := [.data, .data, .data, .sentinel, .sentinel], laidTests := true, laidLooks := .later }
def SsaUsesCardSaid : Prop := Claim7.holds Tryz.pinned (.plain (OpenSpec.ofChange ssaUsesSpec)) ssaUsesCard

/-- THE TIED CARD OF 'formfinderlaw06.SsaDamage'. -/
def ssaDamageCard : Claim7 := { stood := { row := ssaDamageRow, standIns := [], harness := (true, "b1d4facf6db010f2789387b12509905d6b9670202200b63b5f2c4fe492c9276e"), looks := true }, kinds := [], alts := [], laidByText := true, laidKinds := [.data, .data, .data, .sentinel, .sentinel], laidTests := true, laidLooks := .later }
def SsaDamageCardSaid : Prop := Claim7.holds Tryz.pinned (.plain (OpenSpec.ofChange ssaDamageSpec)) ssaDamageCard

/-- THE TIED CARD OF 'formfinderlaw06.SsaPlaces'. -/
def ssaPlacesCard : Claim7 := { stood := { row := ssaPlacesRow, standIns := [], harness := (true, "b1d4facf6db010f2789387b12509905d6b9670202200b63b5f2c4fe492c9276e"), looks := true }, kinds := [], alts := [], laidByText := true, laidKinds := [.data, .data, .data, .sentinel, .sentinel], laidTests := true, laidLooks := .later }
def SsaPlacesCardSaid : Prop := Claim7.holds Tryz.pinned (.plain (OpenSpec.ofChange ssaPlacesSpec)) ssaPlacesCard

/-- THE TIED CARD OF 'formfinderlaw06.SsaUnused'. -/
def ssaUnusedCard : Claim7 := { stood := { row := ssaUnusedRow, standIns := [], harness := (true, "b1d4facf6db010f2789387b12509905d6b9670202200b63b5f2c4fe492c9276e"), looks := true }, kinds := [], alts := [], laidByText := true, laidKinds := [.data, .data, .data, .sentinel, .sentinel], laidTests := true, laidLooks := .later }
def SsaUnusedCardSaid : Prop := Claim7.holds Tryz.pinned (.plain (OpenSpec.ofChange ssaUnusedSpec)) ssaUnusedCard

/-- THE SECOND FORM's CARD OF 'formfinderlaw06.SsaMatchesReference'. -/
def ssaMatchesReferenceUptoCard : Claim7 := { stood := { row := ssaMatchesReferenceUptoRow, standIns := [], harness := (true, "b1d4facf6db010f2789387b12509905d6b9670202200b63b5f2c4fe492c9276e"), looks := true }, kinds := [], alts := [], laidByText := true, laidKinds := [.data, .data, .data, .sentinel, .sentinel], laidTests := true, laidLooks := .later }
def SsaMatchesReferenceUptoCardSaid : Prop := Claim7.holds Tryz.pinned (.plain (OpenSpec.upto ssaMatchesReferenceSpec)) ssaMatchesReferenceUptoCard

/-- THE SECOND FORM's CARD OF 'formfinderlaw06.SsaDefined'. -/
def ssaDefinedUptoCard : Claim7 := { stood := { row := ssaDefinedUptoRow, standIns := [], harness := (true, "b1d4facf6db010f2789387b12509905d6b9670202200b63b5f2c4fe492c9276e"), looks := true }, kinds := [], alts := [], laidByText := true, laidKinds := [.data, .data, .data, .sentinel, .sentinel], laidTests := true, laidLooks := .later }
def SsaDefinedUptoCardSaid : Prop := Claim7.holds Tryz.pinned (.plain (OpenSpec.upto ssaDefinedSpec)) ssaDefinedUptoCard

/-- THE SECOND FORM's CARD OF 'formfinderlaw06.SsaOrder'. -/
def ssaOrderUptoCard : Claim7 := { stood := { row := ssaOrderUptoRow, standIns := [], harness := (true, "b1d4facf6db010f2789387b12509905d6b9670202200b63b5f2c4fe492c9276e"), looks := true }, kinds := [], alts := [], laidByText := true, laidKinds := [.data, .data, .data, .sentinel, .sentinel], laidTests := true, laidLooks := .later }
def SsaOrderUptoCardSaid : Prop := Claim7.holds Tryz.pinned (.plain (OpenSpec.upto ssaOrderSpec)) ssaOrderUptoCard

/-- THE SECOND FORM's CARD OF 'formfinderlaw06.SsaPreds'. -/
def ssaPredsUptoCard : Claim7 := { stood := { row := ssaPredsUptoRow, standIns := [], harness := (true, "b1d4facf6db010f2789387b12509905d6b9670202200b63b5f2c4fe492c9276e"), looks := true }, kinds := [], alts := [], laidByText := true, laidKinds := [.data, .data, .data, .sentinel, .sentinel], laidTests := true, laidLooks := .later }
def SsaPredsUptoCardSaid : Prop := Claim7.holds Tryz.pinned (.plain (OpenSpec.upto ssaPredsSpec)) ssaPredsUptoCard

/-- THE SECOND FORM's CARD OF 'formfinderlaw06.SsaUses'. -/
def ssaUsesUptoCard : Claim7 := { stood := { row := ssaUsesUptoRow, standIns := [], harness := (true, "b1d4facf6db010f2789387b12509905d6b9670202200b63b5f2c4fe492c9276e"), looks := true }, kinds := [], alts := [], laidByText := true, laidKinds := [.data, .data, .data, .sentinel, .sentinel], laidTests := true, laidLooks := .later }
def SsaUsesUptoCardSaid : Prop := Claim7.holds Tryz.pinned (.plain (OpenSpec.upto ssaUsesSpec)) ssaUsesUptoCard

/-- THE SECOND FORM's CARD OF 'formfinderlaw06.SsaDamage'. -/
def ssaDamageUptoCard : Claim7 := { stood := { row := ssaDamageUptoRow, standIns := [], harness := (true, "b1d4facf6db010f2789387b12509905d6b9670202200b63b5f2c4fe492c9276e"), looks := true }, kinds := [], alts := [], laidByText := true, laidKinds := [.data, .data, .data, .sentinel, .sentinel], laidTests := true, laidLooks := .later }
def SsaDamageUptoCardSaid : Prop := Claim7.holds Tryz.pinned (.plain (OpenSpec.upto ssaDamageSpec)) ssaDamageUptoCard

/-- THE SECOND FORM's CARD OF 'formfinderlaw06.SsaPlaces'. -/
def ssaPlacesUptoCard : Claim7 := { stood := { row := ssaPlacesUptoRow, standIns := [], harness := (true, "b1d4facf6db010f2789387b12509905d6b9670202200b63b5f2c4fe492c9276e"), looks := true }, kinds := [], alts := [], laidByText := true, laidKinds := [.data, .data, .data, .sentinel, .sentinel], laidTests := true, laidLooks := .later }
def SsaPlacesUptoCardSaid : Prop := Claim7.holds Tryz.pinned (.plain (OpenSpec.upto ssaPlacesSpec)) ssaPlacesUptoCard

/-- THE SECOND FORM's CARD OF 'formfinderlaw06.SsaUnused'. -/
def ssaUnusedUptoCard : Claim7 := { stood := { row := ssaUnusedUptoRow, standIns := [], harness := (true, "b1d4facf6db010f2789387b12509905d6b9670202200b63b5f2c4fe492c9276e"), looks := true }, kinds := [], alts := [], laidByText := true, laidKinds := [.data, .data, .data, .sentinel, .sentinel], laidTests := true, laidLooks := .later }
def SsaUnusedUptoCardSaid : Prop := Claim7.holds Tryz.pinned (.plain (OpenSpec.upto ssaUnusedSpec)) ssaUnusedUptoCard
end Rows
end Go.Proofs.YtnbgadndkepomaaGreatDoor
