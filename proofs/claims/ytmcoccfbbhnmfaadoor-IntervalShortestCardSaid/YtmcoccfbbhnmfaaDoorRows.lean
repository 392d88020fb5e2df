/-
  NARROWER THAN 'FOR EVERY INPUT', by the rows' own cells (each row's printed sentence says how): IntervalNormalizes: laid · IntervalCombines: laid · IntervalExact: laid · IntervalAlgebra: laid · IntervalSizes: laid · IntervalPrefixes: laid · IntervalShortest: laid · IntervalOf: laid.
  DERIVED. THE GIVEN ROWS OF THIS SEAT. 8 by the template 'for every input the law returns true; each argument reads behind the call as it read before'; 0 by the template 'total and deterministic' (their statements: YtmcoccfbbhnmfaaDoorTotals.lean).
  GIVEN WITH THE SEED: the statements are not yours to turn. If you find one false, say at which input.
  Laid BY PROGRAM, IN A SANDBOX (cutbox-rows.mjs): the forced cells as the released guide's own fill.sh prints them over the translation 12d7d284106c0606… (all of the seat's roots in one cut). By AI agents, Wed Nov 11 2026. No macro, syntax, notation, axiom, sorry.
-/
import Derived.Test.YtmcoccfbbhnmfaaDoorChecked
import GoSem.Claim
import GoSem.ClaimJoined
import GoSem.ClaimMapViews
import Derived.JoinedTies
import Derived.KernelRfl
namespace Go.Proofs.YtmcoccfbbhnmfaaDoor
/- THE CELL 'sum', in the pinned program and in every row, IS THE sha256 OF THE DUMP (.gsa) THAT YtmcoccfbbhnmfaaDoorProg.lean LOADS. Nothing in Lean hashes anything: it is a label: what it is worth is what the hold of that sum in a sandbox is worth. -/
noncomputable def Tryd.pinned : Pinned := { name := "ytmcoccfbbhnmfaadoor", sum := "12d7d284106c060606b8bc49a0c498331f715d03ba742c042c1039c2b7b3a701", checked := Tryd.checked }
namespace Rows
def none {H : Type} : Left H := { results := [], args := [] }

/- WHAT THE LISTED PACKAGE-LEVEL VARIABLES READ AS WHEN THE CALL BEGINS. Each datum BY PROGRAM (the guide's laid-datum.mjs) off the statement by which the dump's own 'gosem.cut.vars' lays the variable. In a bare row this is a premise. The card (YtmcoccfbbhnmfaaDoorCards.lean) ties it to the program's text. -/
def laid_math_bits_deBruijn32tab {H : Type} : DataW H := .agg [.lit (.int .u8 0), .lit (.int .u8 1), .lit (.int .u8 28), .lit (.int .u8 2), .lit (.int .u8 29), .lit (.int .u8 14), .lit (.int .u8 24), .lit (.int .u8 3), .lit (.int .u8 30), .lit (.int .u8 22), .lit (.int .u8 20), .lit (.int .u8 15), .lit (.int .u8 25), .lit (.int .u8 17), .lit (.int .u8 4), .lit (.int .u8 8), .lit (.int .u8 31), .lit (.int .u8 27), .lit (.int .u8 13), .lit (.int .u8 23), .lit (.int .u8 21), .lit (.int .u8 19), .lit (.int .u8 16), .lit (.int .u8 7), .lit (.int .u8 26), .lit (.int .u8 12), .lit (.int .u8 18), .lit (.int .u8 6), .lit (.int .u8 11), .lit (.int .u8 5), .lit (.int .u8 10), .lit (.int .u8 9)]

/-- 'netverifylaw3.IntervalNormalizes': WHATEVER THE INPUT: true; the input reads as it did. -/
def intervalNormalizesSpec : ChangeSpec := { name := "intervalNormalizes", fn := fun _ => fun
  | [d1, d2] => { results := [.lit (.bool true)], args := [d1, d2] }
  | _ => none }
def intervalNormalizesRow : OpenClaim := { program := "ytmcoccfbbhnmfaadoor", sum := "12d7d284106c060606b8bc49a0c498331f715d03ba742c042c1039c2b7b3a701", func := "netverify/netverifylaw3.IntervalNormalizes", spec := "intervalNormalizes", unfollowed := true, recurses := true, named := ["math/bits.deBruijn32tab"], apart := false, laid := [("math/bits.deBruijn32tab", laid_math_bits_deBruijn32tab)] }
def IntervalNormalizesSaid : Prop := intervalNormalizesRow.holds Tryd.pinned (OpenSpec.ofChange intervalNormalizesSpec)

/-- ITS FALSE NEIGHBOUR: 'it returns false'. Refute it at one input. -/
def intervalNormalizesWrong : ChangeSpec := { name := "intervalNormalizes", fn := fun _ => fun
  | [d1, d2] => { results := [.lit (.bool false)], args := [d1, d2] }
  | _ => none }
def IntervalNormalizesWrongFalsely : Prop := intervalNormalizesRow.holds Tryd.pinned (OpenSpec.ofChange intervalNormalizesWrong)

/-- 'netverifylaw3.IntervalCombines': WHATEVER THE INPUT: true; the input reads as it did. -/
def intervalCombinesSpec : ChangeSpec := { name := "intervalCombines", fn := fun _ => fun
  | [d1, d2, d3] => { results := [.lit (.bool true)], args := [d1, d2, d3] }
  | _ => none }
def intervalCombinesRow : OpenClaim := { program := "ytmcoccfbbhnmfaadoor", sum := "12d7d284106c060606b8bc49a0c498331f715d03ba742c042c1039c2b7b3a701", func := "netverify/netverifylaw3.IntervalCombines", spec := "intervalCombines", unfollowed := true, recurses := true, named := ["math/bits.deBruijn32tab"], apart := false, laid := [("math/bits.deBruijn32tab", laid_math_bits_deBruijn32tab)] }
def IntervalCombinesSaid : Prop := intervalCombinesRow.holds Tryd.pinned (OpenSpec.ofChange intervalCombinesSpec)

/-- ITS FALSE NEIGHBOUR: 'it returns false'. Refute it at one input. -/
def intervalCombinesWrong : ChangeSpec := { name := "intervalCombines", fn := fun _ => fun
  | [d1, d2, d3] => { results := [.lit (.bool false)], args := [d1, d2, d3] }
  | _ => none }
def IntervalCombinesWrongFalsely : Prop := intervalCombinesRow.holds Tryd.pinned (OpenSpec.ofChange intervalCombinesWrong)

/-- 'netverifylaw3.IntervalExact': WHATEVER THE INPUT: true; the input reads as it did. -/
def intervalExactSpec : ChangeSpec := { name := "intervalExact", fn := fun _ => fun
  | [d1, d2] => { results := [.lit (.bool true)], args := [d1, d2] }
  | _ => none }
def intervalExactRow : OpenClaim := { program := "ytmcoccfbbhnmfaadoor", sum := "12d7d284106c060606b8bc49a0c498331f715d03ba742c042c1039c2b7b3a701", func := "netverify/netverifylaw3.IntervalExact", spec := "intervalExact", unfollowed := true, recurses := true, named := ["math/bits.deBruijn32tab"], apart := false, laid := [("math/bits.deBruijn32tab", laid_math_bits_deBruijn32tab)] }
def IntervalExactSaid : Prop := intervalExactRow.holds Tryd.pinned (OpenSpec.ofChange intervalExactSpec)

/-- ITS FALSE NEIGHBOUR: 'it returns false'. Refute it at one input. -/
def intervalExactWrong : ChangeSpec := { name := "intervalExact", fn := fun _ => fun
  | [d1, d2] => { results := [.lit (.bool false)], args := [d1, d2] }
  | _ => none }
def IntervalExactWrongFalsely : Prop := intervalExactRow.holds Tryd.pinned (OpenSpec.ofChange intervalExactWrong)

/-- 'netverifylaw3.IntervalAlgebra': WHATEVER THE INPUT: true; the input reads as it did. -/
def intervalAlgebraSpec : ChangeSpec := { name := "intervalAlgebra", fn := fun _ => fun
  | [d1, d2] => { results := [.lit (.bool true)], args := [d1, d2] }
  | _ => none }
def intervalAlgebraRow : OpenClaim := { program := "ytmcoccfbbhnmfaadoor", sum := "12d7d284106c060606b8bc49a0c498331f715d03ba742c042c1039c2b7b3a701", func := "netverify/netverifylaw3.IntervalAlgebra", spec := "intervalAlgebra", unfollowed := true, recurses := true, named := ["math/bits.deBruijn32tab"], apart := false, laid := [("math/bits.deBruijn32tab", laid_math_bits_deBruijn32tab)] }
def IntervalAlgebraSaid : Prop := intervalAlgebraRow.holds Tryd.pinned (OpenSpec.ofChange intervalAlgebraSpec)

/-- ITS FALSE NEIGHBOUR: 'it returns false'. Refute it at one input. -/
def intervalAlgebraWrong : ChangeSpec := { name := "intervalAlgebra", fn := fun _ => fun
  | [d1, d2] => { results := [.lit (.bool false)], args := [d1, d2] }
  | _ => none }
def IntervalAlgebraWrongFalsely : Prop := intervalAlgebraRow.holds Tryd.pinned (OpenSpec.ofChange intervalAlgebraWrong)

/-- 'netverifylaw3.IntervalSizes': WHATEVER THE INPUT: true; the input reads as it did. -/
def intervalSizesSpec : ChangeSpec := { name := "intervalSizes", fn := fun _ => fun
  | [d1, d2] => { results := [.lit (.bool true)], args := [d1, d2] }
  | _ => none }
def intervalSizesRow : OpenClaim := { program := "ytmcoccfbbhnmfaadoor", sum := "12d7d284106c060606b8bc49a0c498331f715d03ba742c042c1039c2b7b3a701", func := "netverify/netverifylaw3.IntervalSizes", spec := "intervalSizes", unfollowed := true, recurses := true, named := ["math/bits.deBruijn32tab"], apart := false, laid := [("math/bits.deBruijn32tab", laid_math_bits_deBruijn32tab)] }
def IntervalSizesSaid : Prop := intervalSizesRow.holds Tryd.pinned (OpenSpec.ofChange intervalSizesSpec)

/-- ITS FALSE NEIGHBOUR: 'it returns false'. Refute it at one input. -/
def intervalSizesWrong : ChangeSpec := { name := "intervalSizes", fn := fun _ => fun
  | [d1, d2] => { results := [.lit (.bool false)], args := [d1, d2] }
  | _ => none }
def IntervalSizesWrongFalsely : Prop := intervalSizesRow.holds Tryd.pinned (OpenSpec.ofChange intervalSizesWrong)

/-- 'netverifylaw3.IntervalPrefixes': WHATEVER THE INPUT: true; the input reads as it did. -/
def intervalPrefixesSpec : ChangeSpec := { name := "intervalPrefixes", fn := fun _ => fun
  | [d1, d2] => { results := [.lit (.bool true)], args := [d1, d2] }
  | _ => none }
def intervalPrefixesRow : OpenClaim := { program := "ytmcoccfbbhnmfaadoor", sum := "12d7d284106c060606b8bc49a0c498331f715d03ba742c042c1039c2b7b3a701", func := "netverify/netverifylaw3.IntervalPrefixes", spec := "intervalPrefixes", unfollowed := true, recurses := true, named := ["math/bits.deBruijn32tab"], apart := false, laid := [("math/bits.deBruijn32tab", laid_math_bits_deBruijn32tab)] }
def IntervalPrefixesSaid : Prop := intervalPrefixesRow.holds Tryd.pinned (OpenSpec.ofChange intervalPrefixesSpec)

/-- ITS FALSE NEIGHBOUR: 'it returns false'. Refute it at one input. -/
def intervalPrefixesWrong : ChangeSpec := { name := "intervalPrefixes", fn := fun _ => fun
  | [d1, d2] => { results := [.lit (.bool false)], args := [d1, d2] }
  | _ => none }
def IntervalPrefixesWrongFalsely : Prop := intervalPrefixesRow.holds Tryd.pinned (OpenSpec.ofChange intervalPrefixesWrong)

/-- 'netverifylaw3.IntervalShortest': WHATEVER THE INPUT: true; the input reads as it did. -/
def intervalShortestSpec : ChangeSpec := { name := "intervalShortest", fn := fun _ => fun
  | [d] => { results := [.lit (.bool true)], args := [d] }
  | _ => none }
def intervalShortestRow : OpenClaim := { program := "ytmcoccfbbhnmfaadoor", sum := "12d7d284106c060606b8bc49a0c498331f715d03ba742c042c1039c2b7b3a701", func := "netverify/netverifylaw3.IntervalShortest", spec := "intervalShortest", unfollowed := true, recurses := true, named := ["math/bits.deBruijn32tab"], apart := false, laid := [("math/bits.deBruijn32tab", laid_math_bits_deBruijn32tab)] }
def IntervalShortestSaid : Prop := intervalShortestRow.holds Tryd.pinned (OpenSpec.ofChange intervalShortestSpec)

/-- ITS FALSE NEIGHBOUR: 'it returns false'. Refute it at one input. -/
def intervalShortestWrong : ChangeSpec := { name := "intervalShortest", fn := fun _ => fun
  | [d] => { results := [.lit (.bool false)], args := [d] }
  | _ => none }
def IntervalShortestWrongFalsely : Prop := intervalShortestRow.holds Tryd.pinned (OpenSpec.ofChange intervalShortestWrong)

/-- 'netverifylaw3.IntervalOf': WHATEVER THE INPUT: true; the input reads as it did. -/
def intervalOfSpec : ChangeSpec := { name := "intervalOf", fn := fun _ => fun
  | [d1, d2] => { results := [.lit (.bool true)], args := [d1, d2] }
  | _ => none }
def intervalOfRow : OpenClaim := { program := "ytmcoccfbbhnmfaadoor", sum := "12d7d284106c060606b8bc49a0c498331f715d03ba742c042c1039c2b7b3a701", func := "netverify/netverifylaw3.IntervalOf", spec := "intervalOf", unfollowed := true, recurses := true, named := ["math/bits.deBruijn32tab"], apart := false, laid := [("math/bits.deBruijn32tab", laid_math_bits_deBruijn32tab)] }
def IntervalOfSaid : Prop := intervalOfRow.holds Tryd.pinned (OpenSpec.ofChange intervalOfSpec)

/-- ITS FALSE NEIGHBOUR: 'it returns false'. Refute it at one input. -/
def intervalOfWrong : ChangeSpec := { name := "intervalOf", fn := fun _ => fun
  | [d1, d2] => { results := [.lit (.bool false)], args := [d1, d2] }
  | _ => none }
def IntervalOfWrongFalsely : Prop := intervalOfRow.holds Tryd.pinned (OpenSpec.ofChange intervalOfWrong)

/- THE SECOND FORM. 'bulk': how many values and letters a reading holds, each counted each time it is reached (what is shared counts as often as it is met; a slice's spare places count too). A statement '..UptoSaid' is the law's where the arguments, and the package variables that the reading takes, are together of bulk at most 1048576: NARROWER than '..Said'. Prove '..Said' where nothing that the law and all that it calls make is longer than what came in: it says more and counts as full. Else prove '..UptoSaid'. A law counts once. -/
mutual
def uptoBulk {H : Type} : DataW H → Nat
  | .lit (.string bytes) => bytes.length + 1
  | .lit _ => 1
  | .nil => 1
  | .ptr d => uptoBulk d + 1
  | .slice elems spare => uptoBulkAll elems + uptoBulkAll spare + 1
  | .agg parts => uptoBulkAll parts + 1
  | .iface _ d => uptoBulk d + 1
  | .map entries => uptoBulkEntries entries + 1
  | .held _ => 1
def uptoBulkAll {H : Type} : List (DataW H) → Nat
  | [] => 0
  | d :: r => uptoBulk d + uptoBulkAll r
def uptoBulkEntries {H : Type} : List (Lit × DataW H) → Nat
  | [] => 0
  | x :: r => uptoBulkEntry x + uptoBulkEntries r
def uptoBulkEntry {H : Type} : Lit × DataW H → Nat
  | (.string bytes, d) => bytes.length + uptoBulk d + 1
  | (_, d) => uptoBulk d + 1
 end
def uptoSmall : (H : Type) → List (DataW H) → Bool := fun _ ds => decide (uptoBulkAll ds ≤ 1048576)
def OpenSpec.upto (s : _root_.Go.ChangeSpec) : _root_.Go.OpenSpec := { _root_.Go.OpenSpec.ofChange s with cond := some uptoSmall }

/-- 'netverifylaw3.IntervalNormalizes', WHERE WHAT IT READS IS OF BULK AT MOST 1048576: true; the input reads as it did. -/
def intervalNormalizesUptoRow : OpenClaim := { program := "ytmcoccfbbhnmfaadoor", sum := "12d7d284106c060606b8bc49a0c498331f715d03ba742c042c1039c2b7b3a701", func := "netverify/netverifylaw3.IntervalNormalizes", spec := "intervalNormalizes", unfollowed := true, recurses := true, named := ["math/bits.deBruijn32tab"], apart := false, laid := [("math/bits.deBruijn32tab", laid_math_bits_deBruijn32tab)], narrowed := true }
def IntervalNormalizesUptoSaid : Prop := intervalNormalizesUptoRow.holds Tryd.pinned (OpenSpec.upto intervalNormalizesSpec)

/-- 'netverifylaw3.IntervalCombines', WHERE WHAT IT READS IS OF BULK AT MOST 1048576: true; the input reads as it did. -/
def intervalCombinesUptoRow : OpenClaim := { program := "ytmcoccfbbhnmfaadoor", sum := "12d7d284106c060606b8bc49a0c498331f715d03ba742c042c1039c2b7b3a701", func := "netverify/netverifylaw3.IntervalCombines", spec := "intervalCombines", unfollowed := true, recurses := true, named := ["math/bits.deBruijn32tab"], apart := false, laid := [("math/bits.deBruijn32tab", laid_math_bits_deBruijn32tab)], narrowed := true }
def IntervalCombinesUptoSaid : Prop := intervalCombinesUptoRow.holds Tryd.pinned (OpenSpec.upto intervalCombinesSpec)

/-- 'netverifylaw3.IntervalExact', WHERE WHAT IT READS IS OF BULK AT MOST 1048576: true; the input reads as it did. -/
def intervalExactUptoRow : OpenClaim := { program := "ytmcoccfbbhnmfaadoor", sum := "12d7d284106c060606b8bc49a0c498331f715d03ba742c042c1039c2b7b3a701", func := "netverify/netverifylaw3.IntervalExact", spec := "intervalExact", unfollowed := true, recurses := true, named := ["math/bits.deBruijn32tab"], apart := false, laid := [("math/bits.deBruijn32tab", laid_math_bits_deBruijn32tab)], narrowed := true }
def IntervalExactUptoSaid : Prop := intervalExactUptoRow.holds Tryd.pinned (OpenSpec.upto intervalExactSpec)

/-- 'netverifylaw3.IntervalAlgebra', WHERE WHAT IT READS IS OF BULK AT MOST 1048576: true; the input reads as it did. -/
def intervalAlgebraUptoRow : OpenClaim := { program := "ytmcoccfbbhnmfaadoor", sum := "12d7d284106c060606b8bc49a0c498331f715d03ba742c042c1039c2b7b3a701", func := "netverify/netverifylaw3.IntervalAlgebra", spec := "intervalAlgebra", unfollowed := true, recurses := true, named := ["math/bits.deBruijn32tab"], apart := false, laid := [("math/bits.deBruijn32tab", laid_math_bits_deBruijn32tab)], narrowed := true }
def IntervalAlgebraUptoSaid : Prop := intervalAlgebraUptoRow.holds Tryd.pinned (OpenSpec.upto intervalAlgebraSpec)

/-- 'netverifylaw3.IntervalSizes', WHERE WHAT IT READS IS OF BULK AT MOST 1048576: true; the input reads as it did. -/
def intervalSizesUptoRow : OpenClaim := { program := "ytmcoccfbbhnmfaadoor", sum := "12d7d284106c060606b8bc49a0c498331f715d03ba742c042c1039c2b7b3a701", func := "netverify/netverifylaw3.IntervalSizes", spec := "intervalSizes", unfollowed := true, recurses := true, named := ["math/bits.deBruijn32tab"], apart := false, laid := [("math/bits.deBruijn32tab", laid_math_bits_deBruijn32tab)], narrowed := true }
def IntervalSizesUptoSaid : Prop := intervalSizesUptoRow.holds Tryd.pinned (OpenSpec.upto intervalSizesSpec)

/-- 'netverifylaw3.IntervalPrefixes', WHERE WHAT IT READS IS OF BULK AT MOST 1048576: true; the input reads as it did. -/
def intervalPrefixesUptoRow : OpenClaim := { program := "ytmcoccfbbhnmfaadoor", sum := "12d7d284106c060606b8bc49a0c498331f715d03ba742c042c1039c2b7b3a701", func := "netverify/netverifylaw3.IntervalPrefixes", spec := "intervalPrefixes", unfollowed := true, recurses := true, named := ["math/bits.deBruijn32tab"], apart := false, laid := [("math/bits.deBruijn32tab", laid_math_bits_deBruijn32tab)], narrowed := true }
def IntervalPrefixesUptoSaid : Prop := intervalPrefixesUptoRow.holds Tryd.pinned (OpenSpec.upto intervalPrefixesSpec)

/-- 'netverifylaw3.IntervalShortest', WHERE WHAT IT READS IS OF BULK AT MOST 1048576: true; the input reads as it did. -/
def intervalShortestUptoRow : OpenClaim := { program := "ytmcoccfbbhnmfaadoor", sum := "12d7d284106c060606b8bc49a0c498331f715d03ba742c042c1039c2b7b3a701", func := "netverify/netverifylaw3.IntervalShortest", spec := "intervalShortest", unfollowed := true, recurses := true, named := ["math/bits.deBruijn32tab"], apart := false, laid := [("math/bits.deBruijn32tab", laid_math_bits_deBruijn32tab)], narrowed := true }
def IntervalShortestUptoSaid : Prop := intervalShortestUptoRow.holds Tryd.pinned (OpenSpec.upto intervalShortestSpec)

/-- 'netverifylaw3.IntervalOf', WHERE WHAT IT READS IS OF BULK AT MOST 1048576: true; the input reads as it did. -/
def intervalOfUptoRow : OpenClaim := { program := "ytmcoccfbbhnmfaadoor", sum := "12d7d284106c060606b8bc49a0c498331f715d03ba742c042c1039c2b7b3a701", func := "netverify/netverifylaw3.IntervalOf", spec := "intervalOf", unfollowed := true, recurses := true, named := ["math/bits.deBruijn32tab"], apart := false, laid := [("math/bits.deBruijn32tab", laid_math_bits_deBruijn32tab)], narrowed := true }
def IntervalOfUptoSaid : Prop := intervalOfUptoRow.holds Tryd.pinned (OpenSpec.upto intervalOfSpec)

end Rows
end Go.Proofs.YtmcoccfbbhnmfaaDoor
