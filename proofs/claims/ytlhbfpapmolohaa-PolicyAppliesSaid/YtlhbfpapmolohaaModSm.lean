/-
  THE CONTRACT OF model.Same.
-/
import Derived.Test.YtlhbfpapmolohaaModO
namespace Go.Proofs.Ytlhbfpapmolohaa.Mw
set_option linter.unusedSimpArgs false
set_option linter.unusedVariables false
open Go.RowKit Kt Mm Mp

theorem part_of {α : Type} {e : α → List Value} {r : Rtr} {o n : Nat} {x : α} (h : ((eRtr r).drop o).take n = e x) (j : Nat) (v : Value) (hj : (e x)[j]? = some v) : (eRtr r).toArray[o + j]? = some v := by
  rw [← h, List.getElem?_take] at hj
  split at hj
  · rw [List.getElem?_drop] at hj; simpa using hj
  · cases hj


end Go.Proofs.Ytlhbfpapmolohaa.Mw
