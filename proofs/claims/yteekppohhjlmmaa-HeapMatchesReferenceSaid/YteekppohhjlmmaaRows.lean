/-
  No cell of these rows narrows 'for every input' (looked for: loops, veiled, ifaces, maps, wideKeys, modest, calm, conditions, laid).
  DERIVED. THE GIVEN ROWS OF THIS SEAT. 7 by the template 'for every input the law returns true; each argument reads behind the call as it read before'; 0 by the template 'total and deterministic' (their statements: YteekppohhjlmmaaTotals.lean).
  GIVEN WITH THE SEED: the statements are not yours to turn. If you find one false, say at which input.
  Laid BY PROGRAM, IN A SANDBOX (cutbox-rows.mjs): the forced cells as the released guide's own fill.sh prints them over the translation 24dcf8d4121d32e6… (all of the seat's roots in one cut). By AI agents, Wed Nov 11 2026. No macro, syntax, notation, axiom, sorry.
-/
import Derived.Test.YteekppohhjlmmaaChecked
import GoSem.Claim
import GoSem.ClaimJoined
import GoSem.ClaimMapViews
import Derived.JoinedTies
import Derived.KernelRfl
namespace Go.Proofs.Yteekppohhjlmmaa
/- THE CELL 'sum', in the pinned program and in every row, IS THE sha256 OF THE DUMP (.gsa) THAT YteekppohhjlmmaaProg.lean LOADS. Nothing in Lean hashes anything: it is a label: what it is worth is what the hold of that sum in a sandbox is worth. -/
noncomputable def Try.pinned : Pinned := { name := "yteekppohhjlmmaa", sum := "24dcf8d4121d32e6d1526b8449ebec292d019a03c4fd9c97a1dbb675b66e131b", checked := Try.checked }
namespace Rows
def none {H : Type} : Left H := { results := [], args := [] }

/-- 'formfinderlaw09.HeapMatchesReference': WHATEVER THE INPUT: true; the input reads as it did. -/
def heapMatchesReferenceSpec : ChangeSpec := { name := "heapMatchesReference", fn := fun _ => fun
  | [d1, d2, d3, d4, d5] => { results := [.lit (.bool true)], args := [d1, d2, d3, d4, d5] }
  | _ => none }
def heapMatchesReferenceRow : OpenClaim := { program := "yteekppohhjlmmaa", sum := "24dcf8d4121d32e6d1526b8449ebec292d019a03c4fd9c97a1dbb675b66e131b", func := "formfinder/formfinderlaw09.HeapMatchesReference", spec := "heapMatchesReference", unfollowed := true, recurses := true, apart := false }
def HeapMatchesReferenceSaid : Prop := heapMatchesReferenceRow.holds Try.pinned (OpenSpec.ofChange heapMatchesReferenceSpec)

/-- ITS FALSE NEIGHBOUR: 'it returns false'. Refute it at one input. -/
def heapMatchesReferenceWrong : ChangeSpec := { name := "heapMatchesReference", fn := fun _ => fun
  | [d1, d2, d3, d4, d5] => { results := [.lit (.bool false)], args := [d1, d2, d3, d4, d5] }
  | _ => none }
def HeapMatchesReferenceWrongFalsely : Prop := heapMatchesReferenceRow.holds Try.pinned (OpenSpec.ofChange heapMatchesReferenceWrong)

/-- 'formfinderlaw09.HeapReads': WHATEVER THE INPUT: true; the input reads as it did. -/
def heapReadsSpec : ChangeSpec := { name := "heapReads", fn := fun _ => fun
  | [d1, d2, d3, d4, d5] => { results := [.lit (.bool true)], args := [d1, d2, d3, d4, d5] }
  | _ => none }
def heapReadsRow : OpenClaim := { program := "yteekppohhjlmmaa", sum := "24dcf8d4121d32e6d1526b8449ebec292d019a03c4fd9c97a1dbb675b66e131b", func := "formfinder/formfinderlaw09.HeapReads", spec := "heapReads", unfollowed := true, recurses := true, apart := false }
def HeapReadsSaid : Prop := heapReadsRow.holds Try.pinned (OpenSpec.ofChange heapReadsSpec)

/-- ITS FALSE NEIGHBOUR: 'it returns false'. Refute it at one input. -/
def heapReadsWrong : ChangeSpec := { name := "heapReads", fn := fun _ => fun
  | [d1, d2, d3, d4, d5] => { results := [.lit (.bool false)], args := [d1, d2, d3, d4, d5] }
  | _ => none }
def HeapReadsWrongFalsely : Prop := heapReadsRow.holds Try.pinned (OpenSpec.ofChange heapReadsWrong)

/-- 'formfinderlaw09.HeapNew': WHATEVER THE INPUT: true; the input reads as it did. -/
def heapNewSpec : ChangeSpec := { name := "heapNew", fn := fun _ => fun
  | [d1, d2, d3] => { results := [.lit (.bool true)], args := [d1, d2, d3] }
  | _ => none }
def heapNewRow : OpenClaim := { program := "yteekppohhjlmmaa", sum := "24dcf8d4121d32e6d1526b8449ebec292d019a03c4fd9c97a1dbb675b66e131b", func := "formfinder/formfinderlaw09.HeapNew", spec := "heapNew", unfollowed := true, recurses := true, apart := false }
def HeapNewSaid : Prop := heapNewRow.holds Try.pinned (OpenSpec.ofChange heapNewSpec)

/-- ITS FALSE NEIGHBOUR: 'it returns false'. Refute it at one input. -/
def heapNewWrong : ChangeSpec := { name := "heapNew", fn := fun _ => fun
  | [d1, d2, d3] => { results := [.lit (.bool false)], args := [d1, d2, d3] }
  | _ => none }
def HeapNewWrongFalsely : Prop := heapNewRow.holds Try.pinned (OpenSpec.ofChange heapNewWrong)

/-- 'formfinderlaw09.HeapGone': WHATEVER THE INPUT: true; the input reads as it did. -/
def heapGoneSpec : ChangeSpec := { name := "heapGone", fn := fun _ => fun
  | [d1, d2, d3, d4] => { results := [.lit (.bool true)], args := [d1, d2, d3, d4] }
  | _ => none }
def heapGoneRow : OpenClaim := { program := "yteekppohhjlmmaa", sum := "24dcf8d4121d32e6d1526b8449ebec292d019a03c4fd9c97a1dbb675b66e131b", func := "formfinder/formfinderlaw09.HeapGone", spec := "heapGone", unfollowed := true, recurses := true, apart := false }
def HeapGoneSaid : Prop := heapGoneRow.holds Try.pinned (OpenSpec.ofChange heapGoneSpec)

/-- ITS FALSE NEIGHBOUR: 'it returns false'. Refute it at one input. -/
def heapGoneWrong : ChangeSpec := { name := "heapGone", fn := fun _ => fun
  | [d1, d2, d3, d4] => { results := [.lit (.bool false)], args := [d1, d2, d3, d4] }
  | _ => none }
def HeapGoneWrongFalsely : Prop := heapGoneRow.holds Try.pinned (OpenSpec.ofChange heapGoneWrong)

/-- 'formfinderlaw09.HeapOut': WHATEVER THE INPUT: true; the input reads as it did. -/
def heapOutSpec : ChangeSpec := { name := "heapOut", fn := fun _ => fun
  | [d1, d2, d3, d4] => { results := [.lit (.bool true)], args := [d1, d2, d3, d4] }
  | _ => none }
def heapOutRow : OpenClaim := { program := "yteekppohhjlmmaa", sum := "24dcf8d4121d32e6d1526b8449ebec292d019a03c4fd9c97a1dbb675b66e131b", func := "formfinder/formfinderlaw09.HeapOut", spec := "heapOut", unfollowed := true, recurses := true, apart := false }
def HeapOutSaid : Prop := heapOutRow.holds Try.pinned (OpenSpec.ofChange heapOutSpec)

/-- ITS FALSE NEIGHBOUR: 'it returns false'. Refute it at one input. -/
def heapOutWrong : ChangeSpec := { name := "heapOut", fn := fun _ => fun
  | [d1, d2, d3, d4] => { results := [.lit (.bool false)], args := [d1, d2, d3, d4] }
  | _ => none }
def HeapOutWrongFalsely : Prop := heapOutRow.holds Try.pinned (OpenSpec.ofChange heapOutWrong)

/-- 'formfinderlaw09.HeapOrder': WHATEVER THE INPUT: true; the input reads as it did. -/
def heapOrderSpec : ChangeSpec := { name := "heapOrder", fn := fun _ => fun
  | [d1, d2, d3, d4, d5, d6, d7] => { results := [.lit (.bool true)], args := [d1, d2, d3, d4, d5, d6, d7] }
  | _ => none }
def heapOrderRow : OpenClaim := { program := "yteekppohhjlmmaa", sum := "24dcf8d4121d32e6d1526b8449ebec292d019a03c4fd9c97a1dbb675b66e131b", func := "formfinder/formfinderlaw09.HeapOrder", spec := "heapOrder", unfollowed := true, recurses := true, apart := false }
def HeapOrderSaid : Prop := heapOrderRow.holds Try.pinned (OpenSpec.ofChange heapOrderSpec)

/-- ITS FALSE NEIGHBOUR: 'it returns false'. Refute it at one input. -/
def heapOrderWrong : ChangeSpec := { name := "heapOrder", fn := fun _ => fun
  | [d1, d2, d3, d4, d5, d6, d7] => { results := [.lit (.bool false)], args := [d1, d2, d3, d4, d5, d6, d7] }
  | _ => none }
def HeapOrderWrongFalsely : Prop := heapOrderRow.holds Try.pinned (OpenSpec.ofChange heapOrderWrong)

/-- 'formfinderlaw09.HeapValid': WHATEVER THE INPUT: true; the input reads as it did. -/
def heapValidSpec : ChangeSpec := { name := "heapValid", fn := fun _ => fun
  | [d1, d2, d3, d4, d5] => { results := [.lit (.bool true)], args := [d1, d2, d3, d4, d5] }
  | _ => none }
def heapValidRow : OpenClaim := { program := "yteekppohhjlmmaa", sum := "24dcf8d4121d32e6d1526b8449ebec292d019a03c4fd9c97a1dbb675b66e131b", func := "formfinder/formfinderlaw09.HeapValid", spec := "heapValid", unfollowed := true, recurses := true, apart := false }
def HeapValidSaid : Prop := heapValidRow.holds Try.pinned (OpenSpec.ofChange heapValidSpec)

/-- ITS FALSE NEIGHBOUR: 'it returns false'. Refute it at one input. -/
def heapValidWrong : ChangeSpec := { name := "heapValid", fn := fun _ => fun
  | [d1, d2, d3, d4, d5] => { results := [.lit (.bool false)], args := [d1, d2, d3, d4, d5] }
  | _ => none }
def HeapValidWrongFalsely : Prop := heapValidRow.holds Try.pinned (OpenSpec.ofChange heapValidWrong)

/- THE SECOND FORM. 'bulk': how many values and letters a reading holds, each counted each time it is reached (what is shared counts as often as it is met; a slice's spare places count too). A statement '..UptoSaid' is the law's where the arguments, and the package variables that the reading takes, are together of bulk at most 1048576: NARROWER than '..Said'. Prove '..Said' where nothing that the law and all that it calls make is longer than what came in: it says more and counts as full. Else prove '..UptoSaid'. A law counts once. -/
mutual
def uptoBulk {H : Type} : DataW H → Nat
  | .lit (.string bytes) => bytes.length + 1
  | .lit _ => 1
  | .nil => 1
  | .ptr d => uptoBulk d + 1
  | .slice elems spare => uptoBulkAll elems + uptoBulkAll spare + 1
  | .agg parts => uptoBulkAll parts + 1
  | .iface _ d => uptoBulk d + 1
  | .map entries => uptoBulkEntries entries + 1
  | .held _ => 1
def uptoBulkAll {H : Type} : List (DataW H) → Nat
  | [] => 0
  | d :: r => uptoBulk d + uptoBulkAll r
def uptoBulkEntries {H : Type} : List (Lit × DataW H) → Nat
  | [] => 0
  | x :: r => uptoBulkEntry x + uptoBulkEntries r
def uptoBulkEntry {H : Type} : Lit × DataW H → Nat
  | (.string bytes, d) => bytes.length + uptoBulk d + 1
  | (_, d) => uptoBulk d + 1
 end
def uptoSmall : (H : Type) → List (DataW H) → Bool := fun _ ds => decide (uptoBulkAll ds ≤ 1048576)
def OpenSpec.upto (s : _root_.Go.ChangeSpec) : _root_.Go.OpenSpec := { _root_.Go.OpenSpec.ofChange s with cond := some uptoSmall }

/-- 'formfinderlaw09.HeapMatchesReference', WHERE WHAT IT READS IS OF BULK AT MOST 1048576: true; the input reads as it did. -/
def heapMatchesReferenceUptoRow : OpenClaim := { program := "yteekppohhjlmmaa", sum := "24dcf8d4121d32e6d1526b8449ebec292d019a03c4fd9c97a1dbb675b66e131b", func := "formfinder/formfinderlaw09.HeapMatchesReference", spec := "heapMatchesReference", unfollowed := true, recurses := true, apart := false, narrowed := true }
def HeapMatchesReferenceUptoSaid : Prop := heapMatchesReferenceUptoRow.holds Try.pinned (OpenSpec.upto heapMatchesReferenceSpec)

/-- 'formfinderlaw09.HeapReads', WHERE WHAT IT READS IS OF BULK AT MOST 1048576: true; the input reads as it did. -/
def heapReadsUptoRow : OpenClaim := { program := "yteekppohhjlmmaa", sum := "24dcf8d4121d32e6d1526b8449ebec292d019a03c4fd9c97a1dbb675b66e131b", func := "formfinder/formfinderlaw09.HeapReads", spec := "heapReads", unfollowed := true, recurses := true, apart := false, narrowed := true }
def HeapReadsUptoSaid : Prop := heapReadsUptoRow.holds Try.pinned (OpenSpec.upto heapReadsSpec)

/-- 'formfinderlaw09.HeapNew', WHERE WHAT IT READS IS OF BULK AT MOST 1048576: true; the input reads as it did. -/
def heapNewUptoRow : OpenClaim := { program := "yteekppohhjlmmaa", sum := "24dcf8d4121d32e6d1526b8449ebec292d019a03c4fd9c97a1dbb675b66e131b", func := "formfinder/formfinderlaw09.HeapNew", spec := "heapNew", unfollowed := true, recurses := true, apart := false, narrowed := true }
def HeapNewUptoSaid : Prop := heapNewUptoRow.holds Try.pinned (OpenSpec.upto heapNewSpec)

/-- 'formfinderlaw09.HeapGone', WHERE WHAT IT READS IS OF BULK AT MOST 1048576: true; the input reads as it did. -/
def heapGoneUptoRow : OpenClaim := { program := "yteekppohhjlmmaa", sum := "24dcf8d4121d32e6d1526b8449ebec292d019a03c4fd9c97a1dbb675b66e131b", func := "formfinder/formfinderlaw09.HeapGone", spec := "heapGone", unfollowed := true, recurses := true, apart := false, narrowed := true }
def HeapGoneUptoSaid : Prop := heapGoneUptoRow.holds Try.pinned (OpenSpec.upto heapGoneSpec)

/-- 'formfinderlaw09.HeapOut', WHERE WHAT IT READS IS OF BULK AT MOST 1048576: true; the input reads as it did. -/
def heapOutUptoRow : OpenClaim := { program := "yteekppohhjlmmaa", sum := "24dcf8d4121d32e6d1526b8449ebec292d019a03c4fd9c97a1dbb675b66e131b", func := "formfinder/formfinderlaw09.HeapOut", spec := "heapOut", unfollowed := true, recurses := true, apart := false, narrowed := true }
def HeapOutUptoSaid : Prop := heapOutUptoRow.holds Try.pinned (OpenSpec.upto heapOutSpec)

/-- 'formfinderlaw09.HeapOrder', WHERE WHAT IT READS IS OF BULK AT MOST 1048576: true; the input reads as it did. -/
def heapOrderUptoRow : OpenClaim := { program := "yteekppohhjlmmaa", sum := "24dcf8d4121d32e6d1526b8449ebec292d019a03c4fd9c97a1dbb675b66e131b", func := "formfinder/formfinderlaw09.HeapOrder", spec := "heapOrder", unfollowed := true, recurses := true, apart := false, narrowed := true }
def HeapOrderUptoSaid : Prop := heapOrderUptoRow.holds Try.pinned (OpenSpec.upto heapOrderSpec)

/-- 'formfinderlaw09.HeapValid', WHERE WHAT IT READS IS OF BULK AT MOST 1048576: true; the input reads as it did. -/
def heapValidUptoRow : OpenClaim := { program := "yteekppohhjlmmaa", sum := "24dcf8d4121d32e6d1526b8449ebec292d019a03c4fd9c97a1dbb675b66e131b", func := "formfinder/formfinderlaw09.HeapValid", spec := "heapValid", unfollowed := true, recurses := true, apart := false, narrowed := true }
def HeapValidUptoSaid : Prop := heapValidUptoRow.holds Try.pinned (OpenSpec.upto heapValidSpec)

end Rows
end Go.Proofs.Yteekppohhjlmmaa
