/-
  WORDS FOR THE CONTRACTS ON PREFIXES. No function of the program is named.
-/
import Derived.Test.YtlhbfpapmolohaaPfxP
import Derived.Test.YtlhbfpapmolohaaLater
import Derived.Laws.BitsAllLaws
import Derived.Handy
import Derived.BigQuiet
import Derived.Deep.QuietTactic
namespace Go.Proofs.Ytlhbfpapmolohaa.Ad
set_option linter.unusedSimpArgs false
set_option linter.unusedVariables false
open Go.RowKit Am Kt

theorem hid {p : Prop} (h : p) : Hid p := h
theorem ret_bool {a b : Bool} (h : a = b) : Ending.returned (.bool a) = .returned (.bool b) := by rw [h]
theorem ret_int {k : IntKind} {a b : Int} (h : a = b) : Ending.returned (.int k a) = .returned (.int k b) := by rw [h]

/-- A prefix as the program holds it. -/
abbrev px (a : Nat) (n : Int) : Value := .agg #[.int .u32 (a : Int), .int .i64 n]

theorem ret_px {a a' : Nat} {n n' : Int} (h : a = a') (g : n = n') : Ending.returned (px a n) = .returned (px a' n') := by rw [h, g]

end Go.Proofs.Ytlhbfpapmolohaa.Ad
