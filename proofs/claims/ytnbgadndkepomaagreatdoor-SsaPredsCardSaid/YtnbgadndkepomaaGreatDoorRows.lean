/-
  NARROWER THAN 'FOR EVERY INPUT', by the rows' own cells (each row's printed sentence says how): SsaMatchesReference: laid · SsaDefined: laid · SsaOrder: laid · SsaPreds: laid · SsaUses: laid · SsaDamage: laid · SsaPlaces: laid · SsaUnused: laid.
  DERIVED. THE GIVEN ROWS OF THIS SEAT. 8 by the template 'for every input the law returns true; each argument reads behind the call as it read before'; 0 by the template 'total and deterministic' (their statements: YtnbgadndkepomaaGreatDoorTotals.lean).
  GIVEN WITH THE SEED: the statements are not yours to turn. If you find one false, say at which input.
  Laid BY PROGRAM, IN A SANDBOX (cutbox-rows.mjs): the forced cells as the released guide's own fill.sh prints them over the translation b1d0b36940c08f5d… (all of the seat's roots in one cut). By AI agents, Wed Nov 11 2026. No macro, syntax, notation, axiom, sorry.
-/
import Derived.Test.YtnbgadndkepomaaGreatDoorChecked
import GoSem.Claim
import GoSem.ClaimJoined
import GoSem.ClaimMapViews
import Derived.JoinedTies
import Derived.KernelRfl
namespace Go.Proofs.YtnbgadndkepomaaGreatDoor
/- THE CELL 'sum', in the pinned program and in every row, IS THE sha256 OF THE DUMP (.gsa) THAT YtnbgadndkepomaaGreatDoorProg.lean LOADS. Nothing in Lean hashes anything: it is a label: what it is worth is what the hold of that sum in a sandbox is worth. -/
noncomputable def Tryz.pinned : Pinned := { name := "ytnbgadndkepomaagreatdoor", sum := "b1d0b36940c08f5d349c5c23c62968e98883b3bf630a4a968c1d11a23404adab", checked := Tryz.checked }
namespace Rows
def none {H : Type} : Left H := { results := [], args := [] }

/- WHAT THE LISTED PACKAGE-LEVEL VARIABLES READ AS WHEN THE CALL BEGINS. Each datum BY PROGRAM (the guide's laid-datum.mjs) off the statement by which the dump's own 'gosem.cut.vars' lays the variable. In a bare row this is a premise. The card (YtnbgadndkepomaaGreatDoorCards.lean) ties it to the program's text. -/
def laid_math_bits_deBruijn32tab {H : Type} : DataW H := .agg [.lit (.int .u8 0), .lit (.int .u8 1), .lit (.int .u8 28), .lit (.int .u8 2), .lit (.int .u8 29), .lit (.int .u8 14), .lit (.int .u8 24), .lit (.int .u8 3), .lit (.int .u8 30), .lit (.int .u8 22), .lit (.int .u8 20), .lit (.int .u8 15), .lit (.int .u8 25), .lit (.int .u8 17), .lit (.int .u8 4), .lit (.int .u8 8), .lit (.int .u8 31), .lit (.int .u8 27), .lit (.int .u8 13), .lit (.int .u8 23), .lit (.int .u8 21), .lit (.int .u8 19), .lit (.int .u8 16), .lit (.int .u8 7), .lit (.int .u8 26), .lit (.int .u8 12), .lit (.int .u8 18), .lit (.int .u8 6), .lit (.int .u8 11), .lit (.int .u8 5), .lit (.int .u8 10), .lit (.int .u8 9)]
def laid_math_bits_deBruijn64tab {H : Type} : DataW H := .agg [.lit (.int .u8 0), .lit (.int .u8 1), .lit (.int .u8 56), .lit (.int .u8 2), .lit (.int .u8 57), .lit (.int .u8 49), .lit (.int .u8 28), .lit (.int .u8 3), .lit (.int .u8 61), .lit (.int .u8 58), .lit (.int .u8 42), .lit (.int .u8 50), .lit (.int .u8 38), .lit (.int .u8 29), .lit (.int .u8 17), .lit (.int .u8 4), .lit (.int .u8 62), .lit (.int .u8 47), .lit (.int .u8 59), .lit (.int .u8 36), .lit (.int .u8 45), .lit (.int .u8 43), .lit (.int .u8 51), .lit (.int .u8 22), .lit (.int .u8 53), .lit (.int .u8 39), .lit (.int .u8 33), .lit (.int .u8 30), .lit (.int .u8 24), .lit (.int .u8 18), .lit (.int .u8 12), .lit (.int .u8 5), .lit (.int .u8 63), .lit (.int .u8 55), .lit (.int .u8 48), .lit (.int .u8 27), .lit (.int .u8 60), .lit (.int .u8 41), .lit (.int .u8 37), .lit (.int .u8 16), .lit (.int .u8 46), .lit (.int .u8 35), .lit (.int .u8 44), .lit (.int .u8 21), .lit (.int .u8 52), .lit (.int .u8 32), .lit (.int .u8 23), .lit (.int .u8 11), .lit (.int .u8 54), .lit (.int .u8 26), .lit (.int .u8 40), .lit (.int .u8 15), .lit (.int .u8 34), .lit (.int .u8 20), .lit (.int .u8 31), .lit (.int .u8 10), .lit (.int .u8 25), .lit (.int .u8 14), .lit (.int .u8 19), .lit (.int .u8 9), .lit (.int .u8 13), .lit (.int .u8 8), .lit (.int .u8 7), .lit (.int .u8 6)]
def laid_internal_strconv_uint64pow10 {H : Type} : DataW H := .agg [.lit (.int .u64 1), .lit (.int .u64 10), .lit (.int .u64 100), .lit (.int .u64 1000), .lit (.int .u64 10000), .lit (.int .u64 100000), .lit (.int .u64 1000000), .lit (.int .u64 10000000), .lit (.int .u64 100000000), .lit (.int .u64 1000000000), .lit (.int .u64 10000000000), .lit (.int .u64 100000000000), .lit (.int .u64 1000000000000), .lit (.int .u64 10000000000000), .lit (.int .u64 100000000000000), .lit (.int .u64 1000000000000000), .lit (.int .u64 10000000000000000), .lit (.int .u64 100000000000000000), .lit (.int .u64 1000000000000000000), .lit (.int .u64 10000000000000000000)]
def laid_strconv_ErrRange {H : Type} : DataW H := .iface "*errors.errorString" (.ptr (.agg [.lit (.string [118, 97, 108, 117, 101, 32, 111, 117, 116, 32, 111, 102, 32, 114, 97, 110, 103, 101])]))
def laid_strconv_ErrSyntax {H : Type} : DataW H := .iface "*errors.errorString" (.ptr (.agg [.lit (.string [105, 110, 118, 97, 108, 105, 100, 32, 115, 121, 110, 116, 97, 120])]))

/-- 'formfinderlaw06.SsaMatchesReference': WHATEVER THE INPUT: true; the input reads as it did. -/
def ssaMatchesReferenceSpec : ChangeSpec := { name := "ssaMatchesReference", fn := fun _ => fun
  | [d] => { results := [.lit (.bool true)], args := [d] }
  | _ => none }
def ssaMatchesReferenceRow : OpenClaim := { program := "ytnbgadndkepomaagreatdoor", sum := "b1d0b36940c08f5d349c5c23c62968e98883b3bf630a4a968c1d11a23404adab", func := "formfinder/formfinderlaw06.SsaMatchesReference", spec := "ssaMatchesReference", unfollowed := true, recurses := true, named := ["strconv.ErrSyntax", "strconv.ErrRange", "internal/strconv.uint64pow10", "math/bits.deBruijn32tab", "math/bits.deBruijn64tab"], apart := false, laid := [("math/bits.deBruijn32tab", laid_math_bits_deBruijn32tab), ("math/bits.deBruijn64tab", laid_math_bits_deBruijn64tab), ("internal/strconv.uint64pow10", laid_internal_strconv_uint64pow10), ("strconv.ErrRange", laid_strconv_ErrRange), ("strconv.ErrSyntax", laid_strconv_ErrSyntax)] }
def SsaMatchesReferenceSaid : Prop := ssaMatchesReferenceRow.holds Tryz.pinned (OpenSpec.ofChange ssaMatchesReferenceSpec)

/-- ITS FALSE NEIGHBOUR: 'it returns false'. Refute it at one input. -/
def ssaMatchesReferenceWrong : ChangeSpec := { name := "ssaMatchesReference", fn := fun _ => fun
  | [d] => { results := [.lit (.bool false)], args := [d] }
  | _ => none }
def SsaMatchesReferenceWrongFalsely : Prop := ssaMatchesReferenceRow.holds Tryz.pinned (OpenSpec.ofChange ssaMatchesReferenceWrong)

/-- 'formfinderlaw06.SsaDefined': WHATEVER THE INPUT: true; the input reads as it did. -/
def ssaDefinedSpec : ChangeSpec := { name := "ssaDefined", fn := fun _ => fun
  | [d1, d2] => { results := [.lit (.bool true)], args := [d1, d2] }
  | _ => none }
def ssaDefinedRow : OpenClaim := { program := "ytnbgadndkepomaagreatdoor", sum := "b1d0b36940c08f5d349c5c23c62968e98883b3bf630a4a968c1d11a23404adab", func := "formfinder/formfinderlaw06.SsaDefined", spec := "ssaDefined", unfollowed := true, recurses := true, named := ["strconv.ErrSyntax", "strconv.ErrRange", "internal/strconv.uint64pow10", "math/bits.deBruijn32tab", "math/bits.deBruijn64tab"], apart := false, laid := [("math/bits.deBruijn32tab", laid_math_bits_deBruijn32tab), ("math/bits.deBruijn64tab", laid_math_bits_deBruijn64tab), ("internal/strconv.uint64pow10", laid_internal_strconv_uint64pow10), ("strconv.ErrRange", laid_strconv_ErrRange), ("strconv.ErrSyntax", laid_strconv_ErrSyntax)] }
def SsaDefinedSaid : Prop := ssaDefinedRow.holds Tryz.pinned (OpenSpec.ofChange ssaDefinedSpec)

/-- ITS FALSE NEIGHBOUR: 'it returns false'. Refute it at one input. -/
def ssaDefinedWrong : ChangeSpec := { name := "ssaDefined", fn := fun _ => fun
  | [d1, d2] => { results := [.lit (.bool false)], args := [d1, d2] }
  | _ => none }
def SsaDefinedWrongFalsely : Prop := ssaDefinedRow.holds Tryz.pinned (OpenSpec.ofChange ssaDefinedWrong)

/-- 'formfinderlaw06.SsaOrder': WHATEVER THE INPUT: true; the input reads as it did. -/
def ssaOrderSpec : ChangeSpec := { name := "ssaOrder", fn := fun _ => fun
  | [d1, d2] => { results := [.lit (.bool true)], args := [d1, d2] }
  | _ => none }
def ssaOrderRow : OpenClaim := { program := "ytnbgadndkepomaagreatdoor", sum := "b1d0b36940c08f5d349c5c23c62968e98883b3bf630a4a968c1d11a23404adab", func := "formfinder/formfinderlaw06.SsaOrder", spec := "ssaOrder", unfollowed := true, recurses := true, named := ["strconv.ErrSyntax", "strconv.ErrRange", "internal/strconv.uint64pow10", "math/bits.deBruijn32tab", "math/bits.deBruijn64tab"], apart := false, laid := [("math/bits.deBruijn32tab", laid_math_bits_deBruijn32tab), ("math/bits.deBruijn64tab", laid_math_bits_deBruijn64tab), ("internal/strconv.uint64pow10", laid_internal_strconv_uint64pow10), ("strconv.ErrRange", laid_strconv_ErrRange), ("strconv.ErrSyntax", laid_strconv_ErrSyntax)] }
def SsaOrderSaid : Prop := ssaOrderRow.holds Tryz.pinned (OpenSpec.ofChange ssaOrderSpec)

/-- ITS FALSE NEIGHBOUR: 'it returns false'. Refute it at one input. -/
def ssaOrderWrong : ChangeSpec := { name := "ssaOrder", fn := fun _ => fun
  | [d1, d2] => { results := [.lit (.bool false)], args := [d1, d2] }
  | _ => none }
def SsaOrderWrongFalsely : Prop := ssaOrderRow.holds Tryz.pinned (OpenSpec.ofChange ssaOrderWrong)

/-- 'formfinderlaw06.SsaPreds': WHATEVER THE INPUT: true; the input reads as it did. -/
def ssaPredsSpec : ChangeSpec := { name := "ssaPreds", fn := fun _ => fun
  | [d] => { results := [.lit (.bool true)], args := [d] }
  | _ => none }
def ssaPredsRow : OpenClaim := { program := "ytnbgadndkepomaagreatdoor", sum := "b1d0b36940c08f5d349c5c23c62968e98883b3bf630a4a968c1d11a23404adab", func := "formfinder/formfinderlaw06.SsaPreds", spec := "ssaPreds", unfollowed := true, recurses := true, named := ["strconv.ErrSyntax", "strconv.ErrRange", "internal/strconv.uint64pow10", "math/bits.deBruijn32tab", "math/bits.deBruijn64tab"], apart := false, laid := [("math/bits.deBruijn32tab", laid_math_bits_deBruijn32tab), ("math/bits.deBruijn64tab", laid_math_bits_deBruijn64tab), ("internal/strconv.uint64pow10", laid_internal_strconv_uint64pow10), ("strconv.ErrRange", laid_strconv_ErrRange), ("strconv.ErrSyntax", laid_strconv_ErrSyntax)] }
def SsaPredsSaid : Prop := ssaPredsRow.holds Tryz.pinned (OpenSpec.ofChange ssaPredsSpec)

/-- ITS FALSE NEIGHBOUR: 'it returns false'. Refute it at one input. -/
def ssaPredsWrong : ChangeSpec := { name := "ssaPreds", fn := fun _ => fun
  | [d] => { results := [.lit (.bool false)], args := [d] }
  | _ => none }
def SsaPredsWrongFalsely : Prop := ssaPredsRow.holds Tryz.pinned (OpenSpec.ofChange ssaPredsWrong)

/-- 'formfinderlaw06.SsaUses': WHATEVER THE INPUT: true; the input reads as it did. -/
def ssaUsesSpec : ChangeSpec := { name := "ssaUses", fn := fun _ => fun
  | [d1, d2] => { results := [.lit (.bool true)], args := [d1, d2] }
  | _ => none }
def ssaUsesRow : OpenClaim := { program := "ytnbgadndkepomaagreatdoor", sum := "b1d0b36940c08f5d349c5c23c62968e98883b3bf630a4a968c1d11a23404adab", func := "formfinder/formfinderlaw06.SsaUses", spec := "ssaUses", unfollowed := true, recurses := true, named := ["strconv.ErrSyntax", "strconv.ErrRange", "internal/strconv.uint64pow10", "math/bits.deBruijn32tab", "math/bits.deBruijn64tab"], apart := false, laid := [("math/bits.deBruijn32tab", laid_math_bits_deBruijn32tab), ("math/bits.deBruijn64tab", laid_math_bits_deBruijn64tab), ("internal/strconv.uint64pow10", laid_internal_strconv_uint64pow10), ("strconv.ErrRange", laid_strconv_ErrRange), ("strconv.ErrSyntax", laid_strconv_ErrSyntax)] }
def SsaUsesSaid : Prop := ssaUsesRow.holds Tryz.pinned (OpenSpec.ofChange ssaUsesSpec)

/-- ITS FALSE NEIGHBOUR: 'it returns false'. Refute it at one input. -/
def ssaUsesWrong : ChangeSpec := { name := "ssaUses", fn := fun _ => fun
  | [d1, d2] => { results := [.lit (.bool false)], args := [d1, d2] }
  | _ => none }
def SsaUsesWrongFalsely : Prop := ssaUsesRow.holds Tryz.pinned (OpenSpec.ofChange ssaUsesWrong)

/-- 'formfinderlaw06.SsaDamage': WHATEVER THE INPUT: true; the input reads as it did. -/
def ssaDamageSpec : ChangeSpec := { name := "ssaDamage", fn := fun _ => fun
  | [d1, d2, d3] => { results := [.lit (.bool true)], args := [d1, d2, d3] }
  | _ => none }
def ssaDamageRow : OpenClaim := { program := "ytnbgadndkepomaagreatdoor", sum := "b1d0b36940c08f5d349c5c23c62968e98883b3bf630a4a968c1d11a23404adab", func := "formfinder/formfinderlaw06.SsaDamage", spec := "ssaDamage", unfollowed := true, recurses := true, named := ["strconv.ErrSyntax", "strconv.ErrRange", "internal/strconv.uint64pow10", "math/bits.deBruijn32tab", "math/bits.deBruijn64tab"], apart := false, laid := [("math/bits.deBruijn32tab", laid_math_bits_deBruijn32tab), ("math/bits.deBruijn64tab", laid_math_bits_deBruijn64tab), ("internal/strconv.uint64pow10", laid_internal_strconv_uint64pow10), ("strconv.ErrRange", laid_strconv_ErrRange), ("strconv.ErrSyntax", laid_strconv_ErrSyntax)] }
def SsaDamageSaid : Prop := ssaDamageRow.holds Tryz.pinned (OpenSpec.ofChange ssaDamageSpec)

/-- ITS FALSE NEIGHBOUR: 'it returns false'. Refute it at one input. -/
def ssaDamageWrong : ChangeSpec := { name := "ssaDamage", fn := fun _ => fun
  | [d1, d2, d3] => { results := [.lit (.bool false)], args := [d1, d2, d3] }
  | _ => none }
def SsaDamageWrongFalsely : Prop := ssaDamageRow.holds Tryz.pinned (OpenSpec.ofChange ssaDamageWrong)

/-- 'formfinderlaw06.SsaPlaces': WHATEVER THE INPUT: true; the input reads as it did. -/
def ssaPlacesSpec : ChangeSpec := { name := "ssaPlaces", fn := fun _ => fun
  | [d1, d2] => { results := [.lit (.bool true)], args := [d1, d2] }
  | _ => none }
def ssaPlacesRow : OpenClaim := { program := "ytnbgadndkepomaagreatdoor", sum := "b1d0b36940c08f5d349c5c23c62968e98883b3bf630a4a968c1d11a23404adab", func := "formfinder/formfinderlaw06.SsaPlaces", spec := "ssaPlaces", unfollowed := true, recurses := true, named := ["strconv.ErrSyntax", "strconv.ErrRange", "internal/strconv.uint64pow10", "math/bits.deBruijn32tab", "math/bits.deBruijn64tab"], apart := false, laid := [("math/bits.deBruijn32tab", laid_math_bits_deBruijn32tab), ("math/bits.deBruijn64tab", laid_math_bits_deBruijn64tab), ("internal/strconv.uint64pow10", laid_internal_strconv_uint64pow10), ("strconv.ErrRange", laid_strconv_ErrRange), ("strconv.ErrSyntax", laid_strconv_ErrSyntax)] }
def SsaPlacesSaid : Prop := ssaPlacesRow.holds Tryz.pinned (OpenSpec.ofChange ssaPlacesSpec)

/-- ITS FALSE NEIGHBOUR: 'it returns false'. Refute it at one input. -/
def ssaPlacesWrong : ChangeSpec := { name := "ssaPlaces", fn := fun _ => fun
  | [d1, d2] => { results := [.lit (.bool false)], args := [d1, d2] }
  | _ => none }
def SsaPlacesWrongFalsely : Prop := ssaPlacesRow.holds Tryz.pinned (OpenSpec.ofChange ssaPlacesWrong)

/-- 'formfinderlaw06.SsaUnused': WHATEVER THE INPUT: true; the input reads as it did. -/
def ssaUnusedSpec : ChangeSpec := { name := "ssaUnused", fn := fun _ => fun
  | [d1, d2] => { results := [.lit (.bool true)], args := [d1, d2] }
  | _ => none }
def ssaUnusedRow : OpenClaim := { program := "ytnbgadndkepomaagreatdoor", sum := "b1d0b36940c08f5d349c5c23c62968e98883b3bf630a4a968c1d11a23404adab", func := "formfinder/formfinderlaw06.SsaUnused", spec := "ssaUnused", unfollowed := true, recurses := true, named := ["strconv.ErrSyntax", "strconv.ErrRange", "internal/strconv.uint64pow10", "math/bits.deBruijn32tab", "math/bits.deBruijn64tab"], apart := false, laid := [("math/bits.deBruijn32tab", laid_math_bits_deBruijn32tab), ("math/bits.deBruijn64tab", laid_math_bits_deBruijn64tab), ("internal/strconv.uint64pow10", laid_internal_strconv_uint64pow10), ("strconv.ErrRange", laid_strconv_ErrRange), ("strconv.ErrSyntax", laid_strconv_ErrSyntax)] }
def SsaUnusedSaid : Prop := ssaUnusedRow.holds Tryz.pinned (OpenSpec.ofChange ssaUnusedSpec)

/-- ITS FALSE NEIGHBOUR: 'it returns false'. Refute it at one input. -/
def ssaUnusedWrong : ChangeSpec := { name := "ssaUnused", fn := fun _ => fun
  | [d1, d2] => { results := [.lit (.bool false)], args := [d1, d2] }
  | _ => none }
def SsaUnusedWrongFalsely : Prop := ssaUnusedRow.holds Tryz.pinned (OpenSpec.ofChange ssaUnusedWrong)

/- THE SECOND FORM. 'bulk': how many values and letters a reading holds, each counted each time it is reached (what is shared counts as often as it is met; a slice's spare places count too). A statement '..UptoSaid' is the law's where the arguments, and the package variables that the reading takes, are together of bulk at most 1048576: NARROWER than '..Said'. Prove '..Said' where nothing that the law and all that it calls make is longer than what came in: it says more and counts as full. Else prove '..UptoSaid'. A law counts once. -/
mutual
def uptoBulk {H : Type} : DataW H → Nat
  | .lit (.string bytes) => bytes.length + 1
  | .lit _ => 1
  | .nil => 1
  | .ptr d => uptoBulk d + 1
  | .slice elems spare => uptoBulkAll elems + uptoBulkAll spare + 1
  | .agg parts => uptoBulkAll parts + 1
  | .iface _ d => uptoBulk d + 1
  | .map entries => uptoBulkEntries entries + 1
  | .held _ => 1
def uptoBulkAll {H : Type} : List (DataW H) → Nat
  | [] => 0
  | d :: r => uptoBulk d + uptoBulkAll r
def uptoBulkEntries {H : Type} : List (Lit × DataW H) → Nat
  | [] => 0
  | x :: r => uptoBulkEntry x + uptoBulkEntries r
def uptoBulkEntry {H : Type} : Lit × DataW H → Nat
  | (.string bytes, d) => bytes.length + uptoBulk d + 1
  | (_, d) => uptoBulk d + 1
 end
def uptoSmall : (H : Type) → List (DataW H) → Bool := fun _ ds => decide (uptoBulkAll ds ≤ 1048576)
def OpenSpec.upto (s : _root_.Go.ChangeSpec) : _root_.Go.OpenSpec := { _root_.Go.OpenSpec.ofChange s with cond := some uptoSmall }

/-- 'formfinderlaw06.SsaMatchesReference', WHERE WHAT IT READS IS OF BULK AT MOST 1048576: true; the input reads as it did. -/
def ssaMatchesReferenceUptoRow : OpenClaim := { program := "ytnbgadndkepomaagreatdoor", sum := "b1d0b36940c08f5d349c5c23c62968e98883b3bf630a4a968c1d11a23404adab", func := "formfinder/formfinderlaw06.SsaMatchesReference", spec := "ssaMatchesReference", unfollowed := true, recurses := true, named := ["strconv.ErrSyntax", "strconv.ErrRange", "internal/strconv.uint64pow10", "math/bits.deBruijn32tab", "math/bits.deBruijn64tab"], apart := false, laid := [("math/bits.deBruijn32tab", laid_math_bits_deBruijn32tab), ("math/bits.deBruijn64tab", laid_math_bits_deBruijn64tab), ("internal/strconv.uint64pow10", laid_internal_strconv_uint64pow10), ("strconv.ErrRange", laid_strconv_ErrRange), ("strconv.ErrSyntax", laid_strconv_ErrSyntax)], narrowed := true }
def SsaMatchesReferenceUptoSaid : Prop := ssaMatchesReferenceUptoRow.holds Tryz.pinned (OpenSpec.upto ssaMatchesReferenceSpec)

/-- 'formfinderlaw06.SsaDefined', WHERE WHAT IT READS IS OF BULK AT MOST 1048576: true; the input reads as it did. -/
def ssaDefinedUptoRow : OpenClaim := { program := "ytnbgadndkepomaagreatdoor", sum := "b1d0b36940c08f5d349c5c23c62968e98883b3bf630a4a968c1d11a23404adab", func := "formfinder/formfinderlaw06.SsaDefined", spec := "ssaDefined", unfollowed := true, recurses := true, named := ["strconv.ErrSyntax", "strconv.ErrRange", "internal/strconv.uint64pow10", "math/bits.deBruijn32tab", "math/bits.deBruijn64tab"], apart := false, laid := [("math/bits.deBruijn32tab", laid_math_bits_deBruijn32tab), ("math/bits.deBruijn64tab", laid_math_bits_deBruijn64tab), ("internal/strconv.uint64pow10", laid_internal_strconv_uint64pow10), ("strconv.ErrRange", laid_strconv_ErrRange), ("strconv.ErrSyntax", laid_strconv_ErrSyntax)], narrowed := true }
def SsaDefinedUptoSaid : Prop := ssaDefinedUptoRow.holds Tryz.pinned (OpenSpec.upto ssaDefinedSpec)

/-- 'formfinderlaw06.SsaOrder', WHERE WHAT IT READS IS OF BULK AT MOST 1048576: true; the input reads as it did. -/
def ssaOrderUptoRow : OpenClaim := { program := "ytnbgadndkepomaagreatdoor", sum := "b1d0b36940c08f5d349c5c23c62968e98883b3bf630a4a968c1d11a23404adab", func := "formfinder/formfinderlaw06.SsaOrder", spec := "ssaOrder", unfollowed := true, recurses := true, named := ["strconv.ErrSyntax", "strconv.ErrRange", "internal/strconv.uint64pow10", "math/bits.deBruijn32tab", "math/bits.deBruijn64tab"], apart := false, laid := [("math/bits.deBruijn32tab", laid_math_bits_deBruijn32tab), ("math/bits.deBruijn64tab", laid_math_bits_deBruijn64tab), ("internal/strconv.uint64pow10", laid_internal_strconv_uint64pow10), ("strconv.ErrRange", laid_strconv_ErrRange), ("strconv.ErrSyntax", laid_strconv_ErrSyntax)], narrowed := true }
def SsaOrderUptoSaid : Prop := ssaOrderUptoRow.holds Tryz.pinned (OpenSpec.upto ssaOrderSpec)

/-- 'formfinderlaw06.SsaPreds', WHERE WHAT IT READS IS OF BULK AT MOST 1048576: true; the input reads as it did. -/
def ssaPredsUptoRow : OpenClaim := { program := "ytnbgadndkepomaagreatdoor", sum := "b1d0b36940c08f5d349c5c23c62968e98883b3bf630a4a968c1d11a23404adab", func := "formfinder/formfinderlaw06.SsaPreds", spec := "ssaPreds", unfollowed := true, recurses := true, named := ["strconv.ErrSyntax", "strconv.ErrRange", "internal/strconv.uint64pow10", "math/bits.deBruijn32tab", "math/bits.deBruijn64tab"], apart := false, laid := [("math/bits.deBruijn32tab", laid_math_bits_deBruijn32tab), ("math/bits.deBruijn64tab", laid_math_bits_deBruijn64tab), ("internal/strconv.uint64pow10", laid_internal_strconv_uint64pow10), ("strconv.ErrRange", laid_strconv_ErrRange), ("strconv.ErrSyntax", laid_strconv_ErrSyntax)], narrowed := true }
def SsaPredsUptoSaid : Prop := ssaPredsUptoRow.holds Tryz.pinned (OpenSpec.upto ssaPredsSpec)

/-- 'formfinderlaw06.SsaUses', WHERE WHAT IT READS IS OF BULK AT MOST 1048576: true; the input reads as it did. -/
def ssaUsesUptoRow : OpenClaim := { program := "ytnbgadndkepomaagreatdoor", sum := "b1d0b36940c08f5d349c5c23c62968e98883b3bf630a4a968c1d11a23404adab", func := "formfinder/formfinderlaw06.SsaUses", spec := "ssaUses", unfollowed := true, recurses := true, named := ["strconv.ErrSyntax", "strconv.ErrRange", "internal/strconv.uint64pow10", "math/bits.deBruijn32tab", "math/bits.deBruijn64tab"], apart := false, laid := [("math/bits.deBruijn32tab", laid_math_bits_deBruijn32tab), ("math/bits.deBruijn64tab", laid_math_bits_deBruijn64tab), ("internal/strconv.uint64pow10", laid_internal_strconv_uint64pow10), ("strconv.ErrRange", laid_strconv_ErrRange), ("strconv.ErrSyntax", laid_strconv_ErrSyntax)], narrowed := true }
def SsaUsesUptoSaid : Prop := ssaUsesUptoRow.holds Tryz.pinned (OpenSpec.upto ssaUsesSpec)

/-- 'formfinderlaw06.SsaDamage', WHERE WHAT IT READS IS OF BULK AT MOST 1048576: true; the input reads as it did. -/
def ssaDamageUptoRow : OpenClaim := { program := "ytnbgadndkepomaagreatdoor", sum := "b1d0b36940c08f5d349c5c23c62968e98883b3bf630a4a968c1d11a23404adab", func := "formfinder/formfinderlaw06.SsaDamage", spec := "ssaDamage", unfollowed := true, recurses := true, named := ["strconv.ErrSyntax", "strconv.ErrRange", "internal/strconv.uint64pow10", "math/bits.deBruijn32tab", "math/bits.deBruijn64tab"], apart := false, laid := [("math/bits.deBruijn32tab", laid_math_bits_deBruijn32tab), ("math/bits.deBruijn64tab", laid_math_bits_deBruijn64tab), ("internal/strconv.uint64pow10", laid_internal_strconv_uint64pow10), ("strconv.ErrRange", laid_strconv_ErrRange), ("strconv.ErrSyntax", laid_strconv_ErrSyntax)], narrowed := true }
def SsaDamageUptoSaid : Prop := ssaDamageUptoRow.holds Tryz.pinned (OpenSpec.upto ssaDamageSpec)

/-- 'formfinderlaw06.SsaPlaces', WHERE WHAT IT READS IS OF BULK AT MOST 1048576: true; the input reads as it did. -/
def ssaPlacesUptoRow : OpenClaim := { program := "ytnbgadndkepomaagreatdoor", sum := "b1d0b36940c08f5d349c5c23c62968e98883b3bf630a4a968c1d11a23404adab", func := "formfinder/formfinderlaw06.SsaPlaces", spec := "ssaPlaces", unfollowed := true, recurses := true, named := ["strconv.ErrSyntax", "strconv.ErrRange", "internal/strconv.uint64pow10", "math/bits.deBruijn32tab", "math/bits.deBruijn64tab"], apart := false, laid := [("math/bits.deBruijn32tab", laid_math_bits_deBruijn32tab), ("math/bits.deBruijn64tab", laid_math_bits_deBruijn64tab), ("internal/strconv.uint64pow10", laid_internal_strconv_uint64pow10), ("strconv.ErrRange", laid_strconv_ErrRange), ("strconv.ErrSyntax", laid_strconv_ErrSyntax)], narrowed := true }
def SsaPlacesUptoSaid : Prop := ssaPlacesUptoRow.holds Tryz.pinned (OpenSpec.upto ssaPlacesSpec)

/-- 'formfinderlaw06.SsaUnused', WHERE WHAT IT READS IS OF BULK AT MOST 1048576: true; the input reads as it did. -/
def ssaUnusedUptoRow : OpenClaim := { program := "ytnbgadndkepomaagreatdoor", sum := "b1d0b36940c08f5d349c5c23c62968e98883b3bf630a4a968c1d11a23404adab", func := "formfinder/formfinderlaw06.SsaUnused", spec := "ssaUnused", unfollowed := true, recurses := true, named := ["strconv.ErrSyntax", "strconv.ErrRange", "internal/strconv.uint64pow10", "math/bits.deBruijn32tab", "math/bits.deBruijn64tab"], apart := false, laid := [("math/bits.deBruijn32tab", laid_math_bits_deBruijn32tab), ("math/bits.deBruijn64tab", laid_math_bits_deBruijn64tab), ("internal/strconv.uint64pow10", laid_internal_strconv_uint64pow10), ("strconv.ErrRange", laid_strconv_ErrRange), ("strconv.ErrSyntax", laid_strconv_ErrSyntax)], narrowed := true }
def SsaUnusedUptoSaid : Prop := ssaUnusedUptoRow.holds Tryz.pinned (OpenSpec.upto ssaUnusedSpec)

end Rows
end Go.Proofs.YtnbgadndkepomaaGreatDoor
