/-
  THE CONTRACTS OF model's SMALL FUNCTIONS.
-/
import Derived.Test.YtlhbfpapmolohaaModE
import Derived.Test.YtlhbfpapmolohaaModM
import Derived.Test.YtlhbfpapmolohaaModA
import Derived.Test.YtlhbfpapmolohaaModB
import Derived.WalkKit
import Derived.WalkSpells
import Derived.IntWalk
import Derived.Handy
namespace Go.Proofs.Ytlhbfpapmolohaa.Mw
set_option linter.unusedSimpArgs false
set_option linter.unusedVariables false
open Go.RowKit Kt Mm Mp

theorem and_nat (a b : Nat) (ha : a < 4294967296) (hb : b < 4294967296) : bits .and .u32 (a : Int) (b : Int) = ((a &&& b : Nat) : Int) := u32_and_nat a b ha hb

end Go.Proofs.Ytlhbfpapmolohaa.Mw
