/-
  THE LISTED TABLE OF THIS SEAT's ROWS, AND WHAT THE CONDITION ON IT GIVES: math/bits' table of TrailingZeros32.
-/
import Derived.Test.YtmcoccfbbhnmfaaDoorRows
import Derived.Test.YtmcoccfbbhnmfaaDoorIvlS
import Derived.LaidMore
import Derived.Stop.LaidErr
import Derived.Stop.Joined
import Derived.MakeChecks
namespace Go.Proofs.YtmcoccfbbhnmfaaDoor.Iw
set_option linter.unusedSimpArgs false
set_option linter.unusedVariables false
open Go.RowKit

def laidL : List (String × DataW Unit) := [("math/bits.deBruijn32tab", Rows.laid_math_bits_deBruijn32tab)]
def kinds : List LaidKind := [.data]
def steps : Nat := 24
theorem door_met (os : Os) (args : Array Value) : laidMetH Tryd.prog laidL ((World.doorLaid Tryd.prog steps os).forCall (fun _ _ => 0) ⟨#[], args, []⟩).memory :=
  laidMetH_of_parts3 (fuel := 8) (laidMet_of_run' 8 (by kernel_rfl) (by kernel_rfl)) (by kernel_rfl) (by kernel_rfl)
theorem tab_data : (Rows.laid_math_bits_deBruijn32tab : DataW Unit) = Lib.tabData .u8 Ip.deTab := by kernel_rfl
theorem have_laid (W : World) (h : laidMetH Tryd.prog laidL W) : Tab W.heap.size W := by
  rw [MakeChecks.laidMetH_plain _ _ _ (by kernel_rfl)] at h
  have h2 : laidMet Tryd.prog [("math/bits.deBruijn32tab", Lib.tabData .u8 Ip.deTab)] W := by
    rw [← tab_data]; exact h
  exact Lib.tabBelow_of_tabIs (Lib.tabIs_of_head (g := 0) (t := 75) (e := 5) (n := 32) (by kernel_rfl) (by kernel_rfl) Tryd.underlying75 Tryd.underlying5 (by kernel_rfl) (by kernel_rfl) h2)
end Go.Proofs.YtmcoccfbbhnmfaaDoor.Iw
