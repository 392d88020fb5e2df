/-
  THE CONTRACTS OF model.Same AND WHAT IT CALLS.
-/
import Derived.Test.YtlhbfpapmolohaaModK
import Derived.Test.YtlhbfpapmolohaaModQ
import Derived.Test.YtlhbfpapmolohaaModG
import Derived.Test.YtlhbfpapmolohaaModS
namespace Go.Proofs.Ytlhbfpapmolohaa.Mw
set_option linter.unusedSimpArgs false
set_option linter.unusedVariables false
open Go.RowKit Kt Mm Mp

theorem strE (a b : ByteArray) : (a.toList == b.toList) = decide (a = b) := str_dec a b
theorem intE (a b : Int) : (a == b) = decide (a = b) := int_dec a b
theorem boolE (a b : Bool) : (a == b) = decide (a = b) := bool_dec a b


end Go.Proofs.Ytlhbfpapmolohaa.Mw
