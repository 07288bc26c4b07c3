/-
  DERIVED. GIVEN WITH THE SEED: THE CARDS: each row of YtmkehecapjdfdaaGreatDoorRows.lean that lists a variable, with what it lists TIED to the program's text (the seventh form; the later family's looks); each row that meets fmt, with fmt's text TOLD by the authors' own Lean function (tested against real Go, not proved from fmt's source: count such statements apart). THE CARD IS WHAT COUNTS. Prove the row's statement (the work); the ties are given (YtmkehecapjdfdaaGreatDoorTie.lean); close each card by the builder's one call (the guide's Derived/Test/ToyasCard.lean, 'card_holds'). Laid BY PROGRAM, IN A SANDBOX (cutbox-door.mjs). By AI agents, Wed Nov 11 2026. No macro, syntax, notation, axiom, sorry.
-/
import Derived.Test.YtmkehecapjdfdaaGreatDoorRows
import GoSem.ClaimSeven
namespace Go.Proofs.YtmkehecapjdfdaaGreatDoor
namespace Rows

/-- THE TIED CARD OF 'formfinderlaw03.ParserMatchesReference'. -/
def parserMatchesReferenceCard : Claim7 := { stood := { row := parserMatchesReferenceRow, standIns := [], harness := (true, "5ac830854b31537d07dabadeb0ec5df51728ea41ca3197efdcf725755e4c071f"), looks := true }, kinds := [], alts := [], laidByText := true, laidKinds := [.data, .data, .data, .data, .sentinel, .sentinel, .data, .data, .pinned], laidTests := true, laidLooks := .later }
def ParserMatchesReferenceCardSaid : Prop := Claim7.holds Tryz.pinned (.plain (OpenSpec.ofChange parserMatchesReferenceSpec)) parserMatchesReferenceCard

/-- THE TIED CARD OF 'formfinderlaw03.ParserTrees'. -/
def parserTreesCard : Claim7 := { stood := { row := parserTreesRow, standIns := [], harness := (true, "5ac830854b31537d07dabadeb0ec5df51728ea41ca3197efdcf725755e4c071f"), looks := true }, kinds := [], alts := [], laidByText := true, laidKinds := [.data, .data, .data, .data, .sentinel, .sentinel, .data, .data, .pinned], laidTests := true, laidLooks := .later }
def ParserTreesCardSaid : Prop := Claim7.holds Tryz.pinned (.plain (OpenSpec.ofChange parserTreesSpec)) parserTreesCard

/-- THE TIED CARD OF 'formfinderlaw03.ParserGaps'. -/
def parserGapsCard : Claim7 := { stood := { row := parserGapsRow, standIns := [], harness := (true, "5ac830854b31537d07dabadeb0ec5df51728ea41ca3197efdcf725755e4c071f"), looks := true }, kinds := [], alts := [], laidByText := true, laidKinds := [.data, .data, .data, .data, .sentinel, .sentinel, .data, .data, .pinned], laidTests := true, laidLooks := .later }
def ParserGapsCardSaid : Prop := Claim7.holds Tryz.pinned (.plain (OpenSpec.ofChange parserGapsSpec)) parserGapsCard

/-- THE TIED CARD OF 'formfinderlaw03.ParserTexts'. -/
def parserTextsCard : Claim7 := { stood := { row := parserTextsRow, standIns := [], harness := (true, "5ac830854b31537d07dabadeb0ec5df51728ea41ca3197efdcf725755e4c071f"), looks := true }, kinds := [], alts := [], laidByText := true, laidKinds := [.data, .data, .data, .data, .sentinel, .sentinel, .data, .data, .pinned], laidTests := true, laidLooks := .later }
def ParserTextsCardSaid : Prop := Claim7.holds Tryz.pinned (.plain (OpenSpec.ofChange parserTextsSpec)) parserTextsCard

/-- THE TIED CARD OF 'formfinderlaw03.ParserBeginnings'. -/
def parserBeginningsCard : Claim7 := { stood := { row := parserBeginningsRow, standIns := [], harness := (true, "5ac830854b31537d07dabadeb0ec5df51728ea41ca3197efdcf725755e4c071f"), looks := true }, kinds := [], alts := [], laidByText := true, laidKinds := [.data, .data, .data, .data, .sentinel, .sentinel, .data, .data, .pinned], laidTests := true, laidLooks := .later }
def ParserBeginningsCardSaid : Prop := Claim7.holds Tryz.pinned (.plain (OpenSpec.ofChange parserBeginningsSpec)) parserBeginningsCard

/-- THE TIED CARD OF 'formfinderlaw03.ParserWrong'. -/
def parserWrongCard : Claim7 := { stood := { row := parserWrongRow, standIns := [], harness := (true, "5ac830854b31537d07dabadeb0ec5df51728ea41ca3197efdcf725755e4c071f"), looks := true }, kinds := [], alts := [], laidByText := true, laidKinds := [.data, .data, .data, .data, .sentinel, .sentinel, .data, .data, .pinned], laidTests := true, laidLooks := .later }
def ParserWrongCardSaid : Prop := Claim7.holds Tryz.pinned (.plain (OpenSpec.ofChange parserWrongSpec)) parserWrongCard

/-- THE TIED CARD OF 'formfinderlaw03.ParserDeep'. -/
def parserDeepCard : Claim7 := { stood := { row := parserDeepRow, standIns := [], harness := (true, "5ac830854b31537d07dabadeb0ec5df51728ea41ca3197efdcf725755e4c071f"), looks := true }, kinds := [], alts := [], laidByText := true, laidKinds := [.data, .data, .data, .data, .sentinel, .sentinel, .data, .data, .pinned], laidTests := true, laidLooks := .later }
def ParserDeepCardSaid : Prop := Claim7.holds Tryz.pinned (.plain (OpenSpec.ofChange parserDeepSpec)) parserDeepCard

/-- THE SECOND FORM's CARD OF 'formfinderlaw03.ParserMatchesReference'. -/
def parserMatchesReferenceUptoCard : Claim7 := { stood := { row := parserMatchesReferenceUptoRow, standIns := [], harness := (true, "5ac830854b31537d07dabadeb0ec5df51728ea41ca3197efdcf725755e4c071f"), looks := true }, kinds := [], alts := [], laidByText := true, laidKinds := [.data, .data, .data, .data, .sentinel, .sentinel, .data, .data, .pinned], laidTests := true, laidLooks := .later }
def ParserMatchesReferenceUptoCardSaid : Prop := Claim7.holds Tryz.pinned (.plain (OpenSpec.upto parserMatchesReferenceSpec)) parserMatchesReferenceUptoCard

/-- THE SECOND FORM's CARD OF 'formfinderlaw03.ParserTrees'. -/
def parserTreesUptoCard : Claim7 := { stood := { row := parserTreesUptoRow, standIns := [], harness := (true, "5ac830854b31537d07dabadeb0ec5df51728ea41ca3197efdcf725755e4c071f"), looks := true }, kinds := [], alts := [], laidByText := true, laidKinds := [.data, .data, .data, .data, .sentinel, .sentinel, .data, .data, .pinned], laidTests := true, laidLooks := .later }
def ParserTreesUptoCardSaid : Prop := Claim7.holds Tryz.pinned (.plain (OpenSpec.upto parserTreesSpec)) parserTreesUptoCard

/-- THE SECOND FORM's CARD OF 'formfinderlaw03.ParserGaps'. -/
def parserGapsUptoCard : Claim7 := { stood := { row := parserGapsUptoRow, standIns := [], harness := (true, "5ac830854b31537d07dabadeb0ec5df51728ea41ca3197efdcf725755e4c071f"), looks := true }, kinds := [], alts := [], laidByText := true, laidKinds := [.data, .data, .data, .data, .sentinel, .sentinel, .data, .data, .pinned], laidTests := true, laidLooks := .later }
def ParserGapsUptoCardSaid : Prop := Claim7.holds Tryz.pinned (.plain (OpenSpec.upto parserGapsSpec)) parserGapsUptoCard

/-- THE SECOND FORM's CARD OF 'formfinderlaw03.ParserTexts'. -/
def parserTextsUptoCard : Claim7 := { stood := { row := parserTextsUptoRow, standIns := [], harness := (true, "5ac830854b31537d07dabadeb0ec5df51728ea41ca3197efdcf725755e4c071f"), looks := true }, kinds := [], alts := [], laidByText := true, laidKinds := [.data, .data, .data, .data, .sentinel, .sentinel, .data, .data, .pinned], laidTests := true, laidLooks := .later }
def ParserTextsUptoCardSaid : Prop := Claim7.holds Tryz.pinned (.plain (OpenSpec.upto parserTextsSpec)) parserTextsUptoCard

/-- THE SECOND FORM's CARD OF 'formfinderlaw03.ParserBeginnings'. -/
def parserBeginningsUptoCard : Claim7 := { stood := { row := parserBeginningsUptoRow, standIns := [], harness := (true, "5ac830854b31537d07dabadeb0ec5df51728ea41ca3197efdcf725755e4c071f"), looks := true }, kinds := [], alts := [], laidByText := true, laidKinds := [.data, .data, .data, .data, .sentinel, .sentinel, .data, .data, .pinned], laidTests := true, laidLooks := .later }
def ParserBeginningsUptoCardSaid : Prop := Claim7.holds Tryz.pinned (.plain (OpenSpec.upto parserBeginningsSpec)) parserBeginningsUptoCard

/-- THE SECOND FORM's CARD OF 'formfinderlaw03.ParserWrong'. -/
def parserWrongUptoCard : Claim7 := { stood := { row := parserWrongUptoRow, standIns := [], harness := (true, "5ac830854b31537d07dabadeb0ec5df51728ea41ca3197efdcf725755e4c071f"), looks := true }, kinds := [], alts := [], laidByText := true, laidKinds := [.data, .data, .data, .data, .sentinel, .sentinel, .data, .data, .pinned], laidTests := true, laidLooks := .later }
def ParserWrongUptoCardSaid : Prop := Claim7.holds Tryz.pinned (.plain (OpenSpec.upto parserWrongSpec)) parserWrongUptoCard

/-- THE SECOND FORM's CARD OF 'formfinderlaw03.ParserDeep'. -/
def parserDeepUptoCard : Claim7 := { stood := { row := parserDeepUptoRow, standIns := [], harness := (true, "5ac830854b31537d07dabadeb0ec5df51728ea41ca3197efdcf725755e4c071f"), looks := true }, kinds := [], alts := [], laidByText := true, laidKinds := [.data, .data, .data, .data, .sentinel, .sentinel, .data, .data, .pinned], laidTests := true, laidLooks := .later }
def ParserDeepUptoCardSaid : Prop := Claim7.holds Tryz.pinned (.plain (OpenSpec.upto parserDeepSpec)) parserDeepUptoCard
end Rows
end Go.Proofs.YtmkehecapjdfdaaGreatDoor
