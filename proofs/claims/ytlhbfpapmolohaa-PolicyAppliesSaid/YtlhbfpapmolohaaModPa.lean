/-
  MORE PLAIN FACTS ON THE MODEL OF CHAPTER 5. No program is named here.
-/
import Derived.Test.YtlhbfpapmolohaaModP
import Derived.Lib.Strings
namespace Go.Proofs.Ytlhbfpapmolohaa.Mp
set_option linter.unusedSimpArgs false
set_option linter.unusedVariables false
open Am

theorem eqBy_len {α : Type} {p : α → α → Bool} : ∀ {l m : List α}, ¬ l.length = m.length → eqBy p l m = false
  | [], [], h => absurd rfl h
  | [], _ :: _, _ => rfl
  | _ :: _, [], _ => rfl
  | x :: l, y :: m, h => by
    unfold eqBy
    rw [eqBy_len (l := l) (m := m) fun e => h (by simp [e]), Bool.and_false]
theorem noS_iff {s : ByteArray} : noS s = true ↔ s = ⟨#[]⟩ := by
  unfold noS
  constructor
  · intro h
    have h2 : s.data.toList = [] := by rw [← Lib.toList_data]; simpa using h
    cases s
    simp only [ByteArray.mk.injEq]
    simpa using h2
  · intro h; rw [h, Lib.toList_data]; rfl
end Go.Proofs.Ytlhbfpapmolohaa.Mp
