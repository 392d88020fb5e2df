/-
  THE LISTED TABLES OF THIS SEAT's ROWS, AND WHAT THE CONDITION ON THEM GIVES: strconv's table of powers of ten.
-/
import Derived.Test.YtppdhcjmdgkadaaDoorRows
import Derived.Test.YtppdhcjmdgkadaaDoorAddrF
import Derived.LaidMore
import Derived.Stop.LaidErr
import Derived.Stop.Joined
import Derived.MakeChecks
namespace Go.Proofs.YtppdhcjmdgkadaaDoor.Ad
set_option linter.unusedSimpArgs false
set_option linter.unusedVariables false
open Go.RowKit

def laidL : List (String × DataW Unit) := [("math/bits.deBruijn32tab", Rows.laid_math_bits_deBruijn32tab), ("math/bits.deBruijn64tab", Rows.laid_math_bits_deBruijn64tab), ("internal/strconv.uint64pow10", Rows.laid_internal_strconv_uint64pow10)]
def kinds : List LaidKind := [.data, .data, .data]
def steps : Nat := 24
theorem door_met (os : Os) (args : Array Value) : laidMetH Tryd.prog laidL ((World.doorLaid Tryd.prog steps os).forCall (fun _ _ => 0) ⟨#[], args, []⟩).memory :=
  laidMetH_of_parts3 (fuel := 8) (laidMet_of_run' 8 (by kernel_rfl) (by kernel_rfl)) (by kernel_rfl) (by kernel_rfl)
theorem pow_data : (Rows.laid_internal_strconv_uint64pow10 : DataW Unit) = Lib.tabData .u64 Lib.pow10Tab := by kernel_rfl
theorem have_laid (W : World) (h : laidMetH Tryd.prog laidL W) : Tab W.heap.size W := by
  rw [MakeChecks.laidMetH_plain _ _ _ (by kernel_rfl)] at h
  have h2 : laidMet Tryd.prog [("internal/strconv.uint64pow10", Lib.tabData .u64 Lib.pow10Tab)] W := by
    rw [← pow_data]; exact h.tail.tail
  exact Lib.tabBelow_of_tabIs (Lib.tabIs_of_head (g := 1) (t := 91) (e := 83) (n := 20) (by kernel_rfl) (by kernel_rfl) Tryd.underlying91 Tryd.underlying83 (by kernel_rfl) (by kernel_rfl) h2)
end Go.Proofs.YtppdhcjmdgkadaaDoor.Ad
