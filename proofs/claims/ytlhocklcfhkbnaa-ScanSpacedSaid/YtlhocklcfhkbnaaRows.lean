/-
  No cell of these rows narrows 'for every input' (looked for: loops, veiled, ifaces, maps, wideKeys, modest, calm, conditions, laid).
  DERIVED. THE GIVEN ROWS OF THIS SEAT. 10 by the template 'for every input the law returns true; each argument reads behind the call as it read before'; 0 by the template 'total and deterministic' (their statements: YtlhocklcfhkbnaaTotals.lean).
  GIVEN WITH THE SEED: the statements are not yours to turn. If you find one false, say at which input.
  Laid BY PROGRAM, IN A SANDBOX (cutbox-rows.mjs): the forced cells as the released guide's own fill.sh prints them over the translation a760a9c95c23ffec… (all of the seat's roots in one cut). By AI agents, Wed Nov 11 2026. No macro, syntax, notation, axiom, sorry.
-/
import Derived.Test.YtlhocklcfhkbnaaChecked
import GoSem.Claim
import GoSem.ClaimJoined
import GoSem.ClaimMapViews
import Derived.JoinedTies
import Derived.KernelRfl
namespace Go.Proofs.Ytlhocklcfhkbnaa
/- THE CELL 'sum', in the pinned program and in every row, IS THE sha256 OF THE DUMP (.gsa) THAT YtlhocklcfhkbnaaProg.lean LOADS. Nothing in Lean hashes anything: it is a label: what it is worth is what the hold of that sum in a sandbox is worth. -/
noncomputable def Try.pinned : Pinned := { name := "ytlhocklcfhkbnaa", sum := "a760a9c95c23ffecde0fd078177417a1fe070b45edf2d1c282560df770bbb05b", checked := Try.checked }
namespace Rows
def none {H : Type} : Left H := { results := [], args := [] }

/-- 'netverifylaw1.ScanLines': WHATEVER THE INPUT: true; the input reads as it did. -/
def scanLinesSpec : ChangeSpec := { name := "scanLines", fn := fun _ => fun
  | [d] => { results := [.lit (.bool true)], args := [d] }
  | _ => none }
def scanLinesRow : OpenClaim := { program := "ytlhocklcfhkbnaa", sum := "a760a9c95c23ffecde0fd078177417a1fe070b45edf2d1c282560df770bbb05b", func := "netverify/netverifylaw1.ScanLines", spec := "scanLines", inPlace := ["internal/bytealg.IndexByteString"], apart := false }
def ScanLinesSaid : Prop := scanLinesRow.holds Try.pinned (OpenSpec.ofChange scanLinesSpec)

/-- ITS FALSE NEIGHBOUR: 'it returns false'. Refute it at one input. -/
def scanLinesWrong : ChangeSpec := { name := "scanLines", fn := fun _ => fun
  | [d] => { results := [.lit (.bool false)], args := [d] }
  | _ => none }
def ScanLinesWrongFalsely : Prop := scanLinesRow.holds Try.pinned (OpenSpec.ofChange scanLinesWrong)

/-- 'netverifylaw1.ScanLong': WHATEVER THE INPUT: true; the input reads as it did. -/
def scanLongSpec : ChangeSpec := { name := "scanLong", fn := fun _ => fun
  | [d] => { results := [.lit (.bool true)], args := [d] }
  | _ => none }
def scanLongRow : OpenClaim := { program := "ytlhocklcfhkbnaa", sum := "a760a9c95c23ffecde0fd078177417a1fe070b45edf2d1c282560df770bbb05b", func := "netverify/netverifylaw1.ScanLong", spec := "scanLong", inPlace := ["internal/bytealg.IndexByteString"], apart := false }
def ScanLongSaid : Prop := scanLongRow.holds Try.pinned (OpenSpec.ofChange scanLongSpec)

/-- ITS FALSE NEIGHBOUR: 'it returns false'. Refute it at one input. -/
def scanLongWrong : ChangeSpec := { name := "scanLong", fn := fun _ => fun
  | [d] => { results := [.lit (.bool false)], args := [d] }
  | _ => none }
def ScanLongWrongFalsely : Prop := scanLongRow.holds Try.pinned (OpenSpec.ofChange scanLongWrong)

/-- 'netverifylaw1.ScanConcat': WHATEVER THE INPUT: true; the input reads as it did. -/
def scanConcatSpec : ChangeSpec := { name := "scanConcat", fn := fun _ => fun
  | [d1, d2] => { results := [.lit (.bool true)], args := [d1, d2] }
  | _ => none }
def scanConcatRow : OpenClaim := { program := "ytlhocklcfhkbnaa", sum := "a760a9c95c23ffecde0fd078177417a1fe070b45edf2d1c282560df770bbb05b", func := "netverify/netverifylaw1.ScanConcat", spec := "scanConcat", inPlace := ["internal/bytealg.IndexByteString"], apart := false }
def ScanConcatSaid : Prop := scanConcatRow.holds Try.pinned (OpenSpec.ofChange scanConcatSpec)

/-- ITS FALSE NEIGHBOUR: 'it returns false'. Refute it at one input. -/
def scanConcatWrong : ChangeSpec := { name := "scanConcat", fn := fun _ => fun
  | [d1, d2] => { results := [.lit (.bool false)], args := [d1, d2] }
  | _ => none }
def ScanConcatWrongFalsely : Prop := scanConcatRow.holds Try.pinned (OpenSpec.ofChange scanConcatWrong)

/-- 'netverifylaw1.ScanFields': WHATEVER THE INPUT: true; the input reads as it did. -/
def scanFieldsSpec : ChangeSpec := { name := "scanFields", fn := fun _ => fun
  | [d1, d2] => { results := [.lit (.bool true)], args := [d1, d2] }
  | _ => none }
def scanFieldsRow : OpenClaim := { program := "ytlhocklcfhkbnaa", sum := "a760a9c95c23ffecde0fd078177417a1fe070b45edf2d1c282560df770bbb05b", func := "netverify/netverifylaw1.ScanFields", spec := "scanFields", inPlace := ["internal/bytealg.IndexByteString"], apart := false }
def ScanFieldsSaid : Prop := scanFieldsRow.holds Try.pinned (OpenSpec.ofChange scanFieldsSpec)

/-- ITS FALSE NEIGHBOUR: 'it returns false'. Refute it at one input. -/
def scanFieldsWrong : ChangeSpec := { name := "scanFields", fn := fun _ => fun
  | [d1, d2] => { results := [.lit (.bool false)], args := [d1, d2] }
  | _ => none }
def ScanFieldsWrongFalsely : Prop := scanFieldsRow.holds Try.pinned (OpenSpec.ofChange scanFieldsWrong)

/-- 'netverifylaw1.ScanJoin': WHATEVER THE INPUT: true; the input reads as it did. -/
def scanJoinSpec : ChangeSpec := { name := "scanJoin", fn := fun _ => fun
  | [d] => { results := [.lit (.bool true)], args := [d] }
  | _ => none }
def scanJoinRow : OpenClaim := { program := "ytlhocklcfhkbnaa", sum := "a760a9c95c23ffecde0fd078177417a1fe070b45edf2d1c282560df770bbb05b", func := "netverify/netverifylaw1.ScanJoin", spec := "scanJoin", inPlace := ["internal/bytealg.IndexByteString"], apart := false }
def ScanJoinSaid : Prop := scanJoinRow.holds Try.pinned (OpenSpec.ofChange scanJoinSpec)

/-- ITS FALSE NEIGHBOUR: 'it returns false'. Refute it at one input. -/
def scanJoinWrong : ChangeSpec := { name := "scanJoin", fn := fun _ => fun
  | [d] => { results := [.lit (.bool false)], args := [d] }
  | _ => none }
def ScanJoinWrongFalsely : Prop := scanJoinRow.holds Try.pinned (OpenSpec.ofChange scanJoinWrong)

/-- 'netverifylaw1.ScanTokens': WHATEVER THE INPUT: true; the input reads as it did. -/
def scanTokensSpec : ChangeSpec := { name := "scanTokens", fn := fun _ => fun
  | [d] => { results := [.lit (.bool true)], args := [d] }
  | _ => none }
def scanTokensRow : OpenClaim := { program := "ytlhocklcfhkbnaa", sum := "a760a9c95c23ffecde0fd078177417a1fe070b45edf2d1c282560df770bbb05b", func := "netverify/netverifylaw1.ScanTokens", spec := "scanTokens", inPlace := ["internal/bytealg.IndexByteString"], apart := false }
def ScanTokensSaid : Prop := scanTokensRow.holds Try.pinned (OpenSpec.ofChange scanTokensSpec)

/-- ITS FALSE NEIGHBOUR: 'it returns false'. Refute it at one input. -/
def scanTokensWrong : ChangeSpec := { name := "scanTokens", fn := fun _ => fun
  | [d] => { results := [.lit (.bool false)], args := [d] }
  | _ => none }
def ScanTokensWrongFalsely : Prop := scanTokensRow.holds Try.pinned (OpenSpec.ofChange scanTokensWrong)

/-- 'netverifylaw1.ScanSpaced': WHATEVER THE INPUT: true; the input reads as it did. -/
def scanSpacedSpec : ChangeSpec := { name := "scanSpaced", fn := fun _ => fun
  | [d1, d2] => { results := [.lit (.bool true)], args := [d1, d2] }
  | _ => none }
def scanSpacedRow : OpenClaim := { program := "ytlhocklcfhkbnaa", sum := "a760a9c95c23ffecde0fd078177417a1fe070b45edf2d1c282560df770bbb05b", func := "netverify/netverifylaw1.ScanSpaced", spec := "scanSpaced", inPlace := ["internal/bytealg.IndexByteString"], apart := false }
def ScanSpacedSaid : Prop := scanSpacedRow.holds Try.pinned (OpenSpec.ofChange scanSpacedSpec)

/-- ITS FALSE NEIGHBOUR: 'it returns false'. Refute it at one input. -/
def scanSpacedWrong : ChangeSpec := { name := "scanSpaced", fn := fun _ => fun
  | [d1, d2] => { results := [.lit (.bool false)], args := [d1, d2] }
  | _ => none }
def ScanSpacedWrongFalsely : Prop := scanSpacedRow.holds Try.pinned (OpenSpec.ofChange scanSpacedWrong)

/-- 'netverifylaw1.ScanNumbers': WHATEVER THE INPUT: true; the input reads as it did. -/
def scanNumbersSpec : ChangeSpec := { name := "scanNumbers", fn := fun _ => fun
  | [d1, d2, d3] => { results := [.lit (.bool true)], args := [d1, d2, d3] }
  | _ => none }
def scanNumbersRow : OpenClaim := { program := "ytlhocklcfhkbnaa", sum := "a760a9c95c23ffecde0fd078177417a1fe070b45edf2d1c282560df770bbb05b", func := "netverify/netverifylaw1.ScanNumbers", spec := "scanNumbers", inPlace := ["internal/bytealg.IndexByteString"], apart := false }
def ScanNumbersSaid : Prop := scanNumbersRow.holds Try.pinned (OpenSpec.ofChange scanNumbersSpec)

/-- ITS FALSE NEIGHBOUR: 'it returns false'. Refute it at one input. -/
def scanNumbersWrong : ChangeSpec := { name := "scanNumbers", fn := fun _ => fun
  | [d1, d2, d3] => { results := [.lit (.bool false)], args := [d1, d2, d3] }
  | _ => none }
def ScanNumbersWrongFalsely : Prop := scanNumbersRow.holds Try.pinned (OpenSpec.ofChange scanNumbersWrong)

/-- 'netverifylaw1.ScanDecimals': WHATEVER THE INPUT: true; the input reads as it did. -/
def scanDecimalsSpec : ChangeSpec := { name := "scanDecimals", fn := fun _ => fun
  | [d] => { results := [.lit (.bool true)], args := [d] }
  | _ => none }
def scanDecimalsRow : OpenClaim := { program := "ytlhocklcfhkbnaa", sum := "a760a9c95c23ffecde0fd078177417a1fe070b45edf2d1c282560df770bbb05b", func := "netverify/netverifylaw1.ScanDecimals", spec := "scanDecimals", inPlace := ["internal/bytealg.IndexByteString"], recurses := true, apart := false }
def ScanDecimalsSaid : Prop := scanDecimalsRow.holds Try.pinned (OpenSpec.ofChange scanDecimalsSpec)

/-- ITS FALSE NEIGHBOUR: 'it returns false'. Refute it at one input. -/
def scanDecimalsWrong : ChangeSpec := { name := "scanDecimals", fn := fun _ => fun
  | [d] => { results := [.lit (.bool false)], args := [d] }
  | _ => none }
def ScanDecimalsWrongFalsely : Prop := scanDecimalsRow.holds Try.pinned (OpenSpec.ofChange scanDecimalsWrong)

/-- 'netverifylaw1.ScanNames': WHATEVER THE INPUT: true; the input reads as it did. -/
def scanNamesSpec : ChangeSpec := { name := "scanNames", fn := fun _ => fun
  | [d] => { results := [.lit (.bool true)], args := [d] }
  | _ => none }
def scanNamesRow : OpenClaim := { program := "ytlhocklcfhkbnaa", sum := "a760a9c95c23ffecde0fd078177417a1fe070b45edf2d1c282560df770bbb05b", func := "netverify/netverifylaw1.ScanNames", spec := "scanNames", inPlace := ["internal/bytealg.IndexByteString"], apart := false }
def ScanNamesSaid : Prop := scanNamesRow.holds Try.pinned (OpenSpec.ofChange scanNamesSpec)

/-- ITS FALSE NEIGHBOUR: 'it returns false'. Refute it at one input. -/
def scanNamesWrong : ChangeSpec := { name := "scanNames", fn := fun _ => fun
  | [d] => { results := [.lit (.bool false)], args := [d] }
  | _ => none }
def ScanNamesWrongFalsely : Prop := scanNamesRow.holds Try.pinned (OpenSpec.ofChange scanNamesWrong)

/- THE SECOND FORM. 'bulk': how many values and letters a reading holds, each counted each time it is reached (what is shared counts as often as it is met; a slice's spare places count too). A statement '..UptoSaid' is the law's where the arguments, and the package variables that the reading takes, are together of bulk at most 1048576: NARROWER than '..Said'. Prove '..Said' where nothing that the law and all that it calls make is longer than what came in: it says more and counts as full. Else prove '..UptoSaid'. A law counts once. -/
mutual
def uptoBulk {H : Type} : DataW H → Nat
  | .lit (.string bytes) => bytes.length + 1
  | .lit _ => 1
  | .nil => 1
  | .ptr d => uptoBulk d + 1
  | .slice elems spare => uptoBulkAll elems + uptoBulkAll spare + 1
  | .agg parts => uptoBulkAll parts + 1
  | .iface _ d => uptoBulk d + 1
  | .map entries => uptoBulkEntries entries + 1
  | .held _ => 1
def uptoBulkAll {H : Type} : List (DataW H) → Nat
  | [] => 0
  | d :: r => uptoBulk d + uptoBulkAll r
def uptoBulkEntries {H : Type} : List (Lit × DataW H) → Nat
  | [] => 0
  | x :: r => uptoBulkEntry x + uptoBulkEntries r
def uptoBulkEntry {H : Type} : Lit × DataW H → Nat
  | (.string bytes, d) => bytes.length + uptoBulk d + 1
  | (_, d) => uptoBulk d + 1
 end
def uptoSmall : (H : Type) → List (DataW H) → Bool := fun _ ds => decide (uptoBulkAll ds ≤ 1048576)
def OpenSpec.upto (s : _root_.Go.ChangeSpec) : _root_.Go.OpenSpec := { _root_.Go.OpenSpec.ofChange s with cond := some uptoSmall }

/-- 'netverifylaw1.ScanLines', WHERE WHAT IT READS IS OF BULK AT MOST 1048576: true; the input reads as it did. -/
def scanLinesUptoRow : OpenClaim := { program := "ytlhocklcfhkbnaa", sum := "a760a9c95c23ffecde0fd078177417a1fe070b45edf2d1c282560df770bbb05b", func := "netverify/netverifylaw1.ScanLines", spec := "scanLines", inPlace := ["internal/bytealg.IndexByteString"], apart := false, narrowed := true }
def ScanLinesUptoSaid : Prop := scanLinesUptoRow.holds Try.pinned (OpenSpec.upto scanLinesSpec)

/-- 'netverifylaw1.ScanLong', WHERE WHAT IT READS IS OF BULK AT MOST 1048576: true; the input reads as it did. -/
def scanLongUptoRow : OpenClaim := { program := "ytlhocklcfhkbnaa", sum := "a760a9c95c23ffecde0fd078177417a1fe070b45edf2d1c282560df770bbb05b", func := "netverify/netverifylaw1.ScanLong", spec := "scanLong", inPlace := ["internal/bytealg.IndexByteString"], apart := false, narrowed := true }
def ScanLongUptoSaid : Prop := scanLongUptoRow.holds Try.pinned (OpenSpec.upto scanLongSpec)

/-- 'netverifylaw1.ScanConcat', WHERE WHAT IT READS IS OF BULK AT MOST 1048576: true; the input reads as it did. -/
def scanConcatUptoRow : OpenClaim := { program := "ytlhocklcfhkbnaa", sum := "a760a9c95c23ffecde0fd078177417a1fe070b45edf2d1c282560df770bbb05b", func := "netverify/netverifylaw1.ScanConcat", spec := "scanConcat", inPlace := ["internal/bytealg.IndexByteString"], apart := false, narrowed := true }
def ScanConcatUptoSaid : Prop := scanConcatUptoRow.holds Try.pinned (OpenSpec.upto scanConcatSpec)

/-- 'netverifylaw1.ScanFields', WHERE WHAT IT READS IS OF BULK AT MOST 1048576: true; the input reads as it did. -/
def scanFieldsUptoRow : OpenClaim := { program := "ytlhocklcfhkbnaa", sum := "a760a9c95c23ffecde0fd078177417a1fe070b45edf2d1c282560df770bbb05b", func := "netverify/netverifylaw1.ScanFields", spec := "scanFields", inPlace := ["internal/bytealg.IndexByteString"], apart := false, narrowed := true }
def ScanFieldsUptoSaid : Prop := scanFieldsUptoRow.holds Try.pinned (OpenSpec.upto scanFieldsSpec)

/-- 'netverifylaw1.ScanJoin', WHERE WHAT IT READS IS OF BULK AT MOST 1048576: true; the input reads as it did. -/
def scanJoinUptoRow : OpenClaim := { program := "ytlhocklcfhkbnaa", sum := "a760a9c95c23ffecde0fd078177417a1fe070b45edf2d1c282560df770bbb05b", func := "netverify/netverifylaw1.ScanJoin", spec := "scanJoin", inPlace := ["internal/bytealg.IndexByteString"], apart := false, narrowed := true }
def ScanJoinUptoSaid : Prop := scanJoinUptoRow.holds Try.pinned (OpenSpec.upto scanJoinSpec)

/-- 'netverifylaw1.ScanTokens', WHERE WHAT IT READS IS OF BULK AT MOST 1048576: true; the input reads as it did. -/
def scanTokensUptoRow : OpenClaim := { program := "ytlhocklcfhkbnaa", sum := "a760a9c95c23ffecde0fd078177417a1fe070b45edf2d1c282560df770bbb05b", func := "netverify/netverifylaw1.ScanTokens", spec := "scanTokens", inPlace := ["internal/bytealg.IndexByteString"], apart := false, narrowed := true }
def ScanTokensUptoSaid : Prop := scanTokensUptoRow.holds Try.pinned (OpenSpec.upto scanTokensSpec)

/-- 'netverifylaw1.ScanSpaced', WHERE WHAT IT READS IS OF BULK AT MOST 1048576: true; the input reads as it did. -/
def scanSpacedUptoRow : OpenClaim := { program := "ytlhocklcfhkbnaa", sum := "a760a9c95c23ffecde0fd078177417a1fe070b45edf2d1c282560df770bbb05b", func := "netverify/netverifylaw1.ScanSpaced", spec := "scanSpaced", inPlace := ["internal/bytealg.IndexByteString"], apart := false, narrowed := true }
def ScanSpacedUptoSaid : Prop := scanSpacedUptoRow.holds Try.pinned (OpenSpec.upto scanSpacedSpec)

/-- 'netverifylaw1.ScanNumbers', WHERE WHAT IT READS IS OF BULK AT MOST 1048576: true; the input reads as it did. -/
def scanNumbersUptoRow : OpenClaim := { program := "ytlhocklcfhkbnaa", sum := "a760a9c95c23ffecde0fd078177417a1fe070b45edf2d1c282560df770bbb05b", func := "netverify/netverifylaw1.ScanNumbers", spec := "scanNumbers", inPlace := ["internal/bytealg.IndexByteString"], apart := false, narrowed := true }
def ScanNumbersUptoSaid : Prop := scanNumbersUptoRow.holds Try.pinned (OpenSpec.upto scanNumbersSpec)

/-- 'netverifylaw1.ScanDecimals', WHERE WHAT IT READS IS OF BULK AT MOST 1048576: true; the input reads as it did. -/
def scanDecimalsUptoRow : OpenClaim := { program := "ytlhocklcfhkbnaa", sum := "a760a9c95c23ffecde0fd078177417a1fe070b45edf2d1c282560df770bbb05b", func := "netverify/netverifylaw1.ScanDecimals", spec := "scanDecimals", inPlace := ["internal/bytealg.IndexByteString"], recurses := true, apart := false, narrowed := true }
def ScanDecimalsUptoSaid : Prop := scanDecimalsUptoRow.holds Try.pinned (OpenSpec.upto scanDecimalsSpec)

/-- 'netverifylaw1.ScanNames', WHERE WHAT IT READS IS OF BULK AT MOST 1048576: true; the input reads as it did. -/
def scanNamesUptoRow : OpenClaim := { program := "ytlhocklcfhkbnaa", sum := "a760a9c95c23ffecde0fd078177417a1fe070b45edf2d1c282560df770bbb05b", func := "netverify/netverifylaw1.ScanNames", spec := "scanNames", inPlace := ["internal/bytealg.IndexByteString"], apart := false, narrowed := true }
def ScanNamesUptoSaid : Prop := scanNamesUptoRow.holds Try.pinned (OpenSpec.upto scanNamesSpec)

end Rows
end Go.Proofs.Ytlhocklcfhkbnaa
