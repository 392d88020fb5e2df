/-
  THE CONTRACTS OF slices.EqualFunc AT EACH TYPE.
-/
import Derived.Test.YtlhbfpapmolohaaModPa
import Derived.Test.YtlhbfpapmolohaaProg
import Derived.Test.YtlhbfpapmolohaaModP
import Derived.Test.YtlhbfpapmolohaaModM
import Derived.Deep.LoopGhost
import Derived.Deep.WholeRow
import Derived.WalkKit
import Derived.WalkSpells
import Derived.IntWalk
namespace Go.Proofs.Ytlhbfpapmolohaa.Mw
set_option linter.unusedSimpArgs false
set_option linter.unusedVariables false
open Go.RowKit Kt Mm Mp



end Go.Proofs.Ytlhbfpapmolohaa.Mw
