/-
  THE CONTRACTS OF slices.Equal AT EACH TYPE.
-/
import Derived.Test.YtlhbfpapmolohaaModE
import Derived.Test.YtlhbfpapmolohaaModM
import Derived.Deep.LoopGhost
import Derived.Deep.WholeRow
import Derived.WalkKit
import Derived.WalkSpells
import Derived.IntWalk
import Derived.Shelf.RegionOpenPlain
import Derived.Deep.Draws
import Derived.BigQuiet
import Derived.Deep.QuietTactic
namespace Go.Proofs.Ytlhbfpapmolohaa.Mw
set_option linter.unusedSimpArgs false
set_option linter.unusedVariables false
open Go.RowKit Kt Mm Mp



end Go.Proofs.Ytlhbfpapmolohaa.Mw
