/-
  No cell of these rows narrows 'for every input' (looked for: loops, veiled, ifaces, maps, wideKeys, modest, calm, conditions, laid).
  DERIVED. THE GIVEN ROWS OF THIS SEAT. 7 by the template 'for every input the law returns true; each argument reads behind the call as it read before'; 0 by the template 'total and deterministic' (their statements: YteibkmignbbekaaTotals.lean).
  GIVEN WITH THE SEED: the statements are not yours to turn. If you find one false, say at which input.
  Laid BY PROGRAM, IN A SANDBOX (cutbox-rows.mjs): the forced cells as the released guide's own fill.sh prints them over the translation 073ffa0de0b9dd40… (all of the seat's roots in one cut). By AI agents, Wed Nov 11 2026. No macro, syntax, notation, axiom, sorry.
-/
import Derived.Test.YteibkmignbbekaaChecked
import GoSem.Claim
import GoSem.ClaimJoined
import GoSem.ClaimMapViews
import Derived.JoinedTies
import Derived.KernelRfl
namespace Go.Proofs.Yteibkmignbbekaa
/- THE CELL 'sum', in the pinned program and in every row, IS THE sha256 OF THE DUMP (.gsa) THAT YteibkmignbbekaaProg.lean LOADS. Nothing in Lean hashes anything: it is a label: what it is worth is what the hold of that sum in a sandbox is worth. -/
noncomputable def Try.pinned : Pinned := { name := "yteibkmignbbekaa", sum := "073ffa0de0b9dd409edf033de17d0e25576316284f26855d062a9617786dccbd", checked := Try.checked }
namespace Rows
def none {H : Type} : Left H := { results := [], args := [] }

/-- 'formfinderlaw01.BitsMatchesReference': WHATEVER THE INPUT: true; the input reads as it did. -/
def bitsMatchesReferenceSpec : ChangeSpec := { name := "bitsMatchesReference", fn := fun _ => fun
  | [d1, d2, d3, d4, d5] => { results := [.lit (.bool true)], args := [d1, d2, d3, d4, d5] }
  | _ => none }
def bitsMatchesReferenceRow : OpenClaim := { program := "yteibkmignbbekaa", sum := "073ffa0de0b9dd409edf033de17d0e25576316284f26855d062a9617786dccbd", func := "formfinder/formfinderlaw01.BitsMatchesReference", spec := "bitsMatchesReference", unfollowed := true, recurses := true, apart := false }
def BitsMatchesReferenceSaid : Prop := bitsMatchesReferenceRow.holds Try.pinned (OpenSpec.ofChange bitsMatchesReferenceSpec)

/-- ITS FALSE NEIGHBOUR: 'it returns false'. Refute it at one input. -/
def bitsMatchesReferenceWrong : ChangeSpec := { name := "bitsMatchesReference", fn := fun _ => fun
  | [d1, d2, d3, d4, d5] => { results := [.lit (.bool false)], args := [d1, d2, d3, d4, d5] }
  | _ => none }
def BitsMatchesReferenceWrongFalsely : Prop := bitsMatchesReferenceRow.holds Try.pinned (OpenSpec.ofChange bitsMatchesReferenceWrong)

/-- 'formfinderlaw01.BitsRing': WHATEVER THE INPUT: true; the input reads as it did. -/
def bitsRingSpec : ChangeSpec := { name := "bitsRing", fn := fun _ => fun
  | [d1, d2, d3] => { results := [.lit (.bool true)], args := [d1, d2, d3] }
  | _ => none }
def bitsRingRow : OpenClaim := { program := "yteibkmignbbekaa", sum := "073ffa0de0b9dd409edf033de17d0e25576316284f26855d062a9617786dccbd", func := "formfinder/formfinderlaw01.BitsRing", spec := "bitsRing", unfollowed := true, recurses := true, apart := false }
def BitsRingSaid : Prop := bitsRingRow.holds Try.pinned (OpenSpec.ofChange bitsRingSpec)

/-- ITS FALSE NEIGHBOUR: 'it returns false'. Refute it at one input. -/
def bitsRingWrong : ChangeSpec := { name := "bitsRing", fn := fun _ => fun
  | [d1, d2, d3] => { results := [.lit (.bool false)], args := [d1, d2, d3] }
  | _ => none }
def BitsRingWrongFalsely : Prop := bitsRingRow.holds Try.pinned (OpenSpec.ofChange bitsRingWrong)

/-- 'formfinderlaw01.BitsLogic': WHATEVER THE INPUT: true; the input reads as it did. -/
def bitsLogicSpec : ChangeSpec := { name := "bitsLogic", fn := fun _ => fun
  | [d1, d2] => { results := [.lit (.bool true)], args := [d1, d2] }
  | _ => none }
def bitsLogicRow : OpenClaim := { program := "yteibkmignbbekaa", sum := "073ffa0de0b9dd409edf033de17d0e25576316284f26855d062a9617786dccbd", func := "formfinder/formfinderlaw01.BitsLogic", spec := "bitsLogic", unfollowed := true, recurses := true, apart := false }
def BitsLogicSaid : Prop := bitsLogicRow.holds Try.pinned (OpenSpec.ofChange bitsLogicSpec)

/-- ITS FALSE NEIGHBOUR: 'it returns false'. Refute it at one input. -/
def bitsLogicWrong : ChangeSpec := { name := "bitsLogic", fn := fun _ => fun
  | [d1, d2] => { results := [.lit (.bool false)], args := [d1, d2] }
  | _ => none }
def BitsLogicWrongFalsely : Prop := bitsLogicRow.holds Try.pinned (OpenSpec.ofChange bitsLogicWrong)

/-- 'formfinderlaw01.BitsDivision': WHATEVER THE INPUT: true; the input reads as it did. -/
def bitsDivisionSpec : ChangeSpec := { name := "bitsDivision", fn := fun _ => fun
  | [d1, d2] => { results := [.lit (.bool true)], args := [d1, d2] }
  | _ => none }
def bitsDivisionRow : OpenClaim := { program := "yteibkmignbbekaa", sum := "073ffa0de0b9dd409edf033de17d0e25576316284f26855d062a9617786dccbd", func := "formfinder/formfinderlaw01.BitsDivision", spec := "bitsDivision", unfollowed := true, recurses := true, apart := false }
def BitsDivisionSaid : Prop := bitsDivisionRow.holds Try.pinned (OpenSpec.ofChange bitsDivisionSpec)

/-- ITS FALSE NEIGHBOUR: 'it returns false'. Refute it at one input. -/
def bitsDivisionWrong : ChangeSpec := { name := "bitsDivision", fn := fun _ => fun
  | [d1, d2] => { results := [.lit (.bool false)], args := [d1, d2] }
  | _ => none }
def BitsDivisionWrongFalsely : Prop := bitsDivisionRow.holds Try.pinned (OpenSpec.ofChange bitsDivisionWrong)

/-- 'formfinderlaw01.BitsShifts': WHATEVER THE INPUT: true; the input reads as it did. -/
def bitsShiftsSpec : ChangeSpec := { name := "bitsShifts", fn := fun _ => fun
  | [d1, d2] => { results := [.lit (.bool true)], args := [d1, d2] }
  | _ => none }
def bitsShiftsRow : OpenClaim := { program := "yteibkmignbbekaa", sum := "073ffa0de0b9dd409edf033de17d0e25576316284f26855d062a9617786dccbd", func := "formfinder/formfinderlaw01.BitsShifts", spec := "bitsShifts", unfollowed := true, recurses := true, apart := false }
def BitsShiftsSaid : Prop := bitsShiftsRow.holds Try.pinned (OpenSpec.ofChange bitsShiftsSpec)

/-- ITS FALSE NEIGHBOUR: 'it returns false'. Refute it at one input. -/
def bitsShiftsWrong : ChangeSpec := { name := "bitsShifts", fn := fun _ => fun
  | [d1, d2] => { results := [.lit (.bool false)], args := [d1, d2] }
  | _ => none }
def BitsShiftsWrongFalsely : Prop := bitsShiftsRow.holds Try.pinned (OpenSpec.ofChange bitsShiftsWrong)

/-- 'formfinderlaw01.BitsOrder': WHATEVER THE INPUT: true; the input reads as it did. -/
def bitsOrderSpec : ChangeSpec := { name := "bitsOrder", fn := fun _ => fun
  | [d1, d2, d3] => { results := [.lit (.bool true)], args := [d1, d2, d3] }
  | _ => none }
def bitsOrderRow : OpenClaim := { program := "yteibkmignbbekaa", sum := "073ffa0de0b9dd409edf033de17d0e25576316284f26855d062a9617786dccbd", func := "formfinder/formfinderlaw01.BitsOrder", spec := "bitsOrder", unfollowed := true, recurses := true, apart := false }
def BitsOrderSaid : Prop := bitsOrderRow.holds Try.pinned (OpenSpec.ofChange bitsOrderSpec)

/-- ITS FALSE NEIGHBOUR: 'it returns false'. Refute it at one input. -/
def bitsOrderWrong : ChangeSpec := { name := "bitsOrder", fn := fun _ => fun
  | [d1, d2, d3] => { results := [.lit (.bool false)], args := [d1, d2, d3] }
  | _ => none }
def BitsOrderWrongFalsely : Prop := bitsOrderRow.holds Try.pinned (OpenSpec.ofChange bitsOrderWrong)

/-- 'formfinderlaw01.BitsParts': WHATEVER THE INPUT: true; the input reads as it did. -/
def bitsPartsSpec : ChangeSpec := { name := "bitsParts", fn := fun _ => fun
  | [d1, d2, d3, d4] => { results := [.lit (.bool true)], args := [d1, d2, d3, d4] }
  | _ => none }
def bitsPartsRow : OpenClaim := { program := "yteibkmignbbekaa", sum := "073ffa0de0b9dd409edf033de17d0e25576316284f26855d062a9617786dccbd", func := "formfinder/formfinderlaw01.BitsParts", spec := "bitsParts", unfollowed := true, recurses := true, apart := false }
def BitsPartsSaid : Prop := bitsPartsRow.holds Try.pinned (OpenSpec.ofChange bitsPartsSpec)

/-- ITS FALSE NEIGHBOUR: 'it returns false'. Refute it at one input. -/
def bitsPartsWrong : ChangeSpec := { name := "bitsParts", fn := fun _ => fun
  | [d1, d2, d3, d4] => { results := [.lit (.bool false)], args := [d1, d2, d3, d4] }
  | _ => none }
def BitsPartsWrongFalsely : Prop := bitsPartsRow.holds Try.pinned (OpenSpec.ofChange bitsPartsWrong)

/- THE SECOND FORM. 'bulk': how many values and letters a reading holds, each counted each time it is reached (what is shared counts as often as it is met; a slice's spare places count too). A statement '..UptoSaid' is the law's where the arguments, and the package variables that the reading takes, are together of bulk at most 1048576: NARROWER than '..Said'. Prove '..Said' where nothing that the law and all that it calls make is longer than what came in: it says more and counts as full. Else prove '..UptoSaid'. A law counts once. -/
mutual
def uptoBulk {H : Type} : DataW H → Nat
  | .lit (.string bytes) => bytes.length + 1
  | .lit _ => 1
  | .nil => 1
  | .ptr d => uptoBulk d + 1
  | .slice elems spare => uptoBulkAll elems + uptoBulkAll spare + 1
  | .agg parts => uptoBulkAll parts + 1
  | .iface _ d => uptoBulk d + 1
  | .map entries => uptoBulkEntries entries + 1
  | .held _ => 1
def uptoBulkAll {H : Type} : List (DataW H) → Nat
  | [] => 0
  | d :: r => uptoBulk d + uptoBulkAll r
def uptoBulkEntries {H : Type} : List (Lit × DataW H) → Nat
  | [] => 0
  | x :: r => uptoBulkEntry x + uptoBulkEntries r
def uptoBulkEntry {H : Type} : Lit × DataW H → Nat
  | (.string bytes, d) => bytes.length + uptoBulk d + 1
  | (_, d) => uptoBulk d + 1
 end
def uptoSmall : (H : Type) → List (DataW H) → Bool := fun _ ds => decide (uptoBulkAll ds ≤ 1048576)
def OpenSpec.upto (s : _root_.Go.ChangeSpec) : _root_.Go.OpenSpec := { _root_.Go.OpenSpec.ofChange s with cond := some uptoSmall }

/-- 'formfinderlaw01.BitsMatchesReference', WHERE WHAT IT READS IS OF BULK AT MOST 1048576: true; the input reads as it did. -/
def bitsMatchesReferenceUptoRow : OpenClaim := { program := "yteibkmignbbekaa", sum := "073ffa0de0b9dd409edf033de17d0e25576316284f26855d062a9617786dccbd", func := "formfinder/formfinderlaw01.BitsMatchesReference", spec := "bitsMatchesReference", unfollowed := true, recurses := true, apart := false, narrowed := true }
def BitsMatchesReferenceUptoSaid : Prop := bitsMatchesReferenceUptoRow.holds Try.pinned (OpenSpec.upto bitsMatchesReferenceSpec)

/-- 'formfinderlaw01.BitsRing', WHERE WHAT IT READS IS OF BULK AT MOST 1048576: true; the input reads as it did. -/
def bitsRingUptoRow : OpenClaim := { program := "yteibkmignbbekaa", sum := "073ffa0de0b9dd409edf033de17d0e25576316284f26855d062a9617786dccbd", func := "formfinder/formfinderlaw01.BitsRing", spec := "bitsRing", unfollowed := true, recurses := true, apart := false, narrowed := true }
def BitsRingUptoSaid : Prop := bitsRingUptoRow.holds Try.pinned (OpenSpec.upto bitsRingSpec)

/-- 'formfinderlaw01.BitsLogic', WHERE WHAT IT READS IS OF BULK AT MOST 1048576: true; the input reads as it did. -/
def bitsLogicUptoRow : OpenClaim := { program := "yteibkmignbbekaa", sum := "073ffa0de0b9dd409edf033de17d0e25576316284f26855d062a9617786dccbd", func := "formfinder/formfinderlaw01.BitsLogic", spec := "bitsLogic", unfollowed := true, recurses := true, apart := false, narrowed := true }
def BitsLogicUptoSaid : Prop := bitsLogicUptoRow.holds Try.pinned (OpenSpec.upto bitsLogicSpec)

/-- 'formfinderlaw01.BitsDivision', WHERE WHAT IT READS IS OF BULK AT MOST 1048576: true; the input reads as it did. -/
def bitsDivisionUptoRow : OpenClaim := { program := "yteibkmignbbekaa", sum := "073ffa0de0b9dd409edf033de17d0e25576316284f26855d062a9617786dccbd", func := "formfinder/formfinderlaw01.BitsDivision", spec := "bitsDivision", unfollowed := true, recurses := true, apart := false, narrowed := true }
def BitsDivisionUptoSaid : Prop := bitsDivisionUptoRow.holds Try.pinned (OpenSpec.upto bitsDivisionSpec)

/-- 'formfinderlaw01.BitsShifts', WHERE WHAT IT READS IS OF BULK AT MOST 1048576: true; the input reads as it did. -/
def bitsShiftsUptoRow : OpenClaim := { program := "yteibkmignbbekaa", sum := "073ffa0de0b9dd409edf033de17d0e25576316284f26855d062a9617786dccbd", func := "formfinder/formfinderlaw01.BitsShifts", spec := "bitsShifts", unfollowed := true, recurses := true, apart := false, narrowed := true }
def BitsShiftsUptoSaid : Prop := bitsShiftsUptoRow.holds Try.pinned (OpenSpec.upto bitsShiftsSpec)

/-- 'formfinderlaw01.BitsOrder', WHERE WHAT IT READS IS OF BULK AT MOST 1048576: true; the input reads as it did. -/
def bitsOrderUptoRow : OpenClaim := { program := "yteibkmignbbekaa", sum := "073ffa0de0b9dd409edf033de17d0e25576316284f26855d062a9617786dccbd", func := "formfinder/formfinderlaw01.BitsOrder", spec := "bitsOrder", unfollowed := true, recurses := true, apart := false, narrowed := true }
def BitsOrderUptoSaid : Prop := bitsOrderUptoRow.holds Try.pinned (OpenSpec.upto bitsOrderSpec)

/-- 'formfinderlaw01.BitsParts', WHERE WHAT IT READS IS OF BULK AT MOST 1048576: true; the input reads as it did. -/
def bitsPartsUptoRow : OpenClaim := { program := "yteibkmignbbekaa", sum := "073ffa0de0b9dd409edf033de17d0e25576316284f26855d062a9617786dccbd", func := "formfinder/formfinderlaw01.BitsParts", spec := "bitsParts", unfollowed := true, recurses := true, apart := false, narrowed := true }
def BitsPartsUptoSaid : Prop := bitsPartsUptoRow.holds Try.pinned (OpenSpec.upto bitsPartsSpec)

end Rows
end Go.Proofs.Yteibkmignbbekaa
