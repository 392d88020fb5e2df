/-
  THE WALK OF ScanTokens.
-/
import Derived.Test.YtlhocklcfhkbnaaScanQ
import Derived.Test.YtlhocklcfhkbnaaScanJ
namespace Go.Proofs.Ytlhocklcfhkbnaa.Sc
set_option linter.unusedSimpArgs false
set_option linter.unusedVariables false
open Go.RowKit Sp Sm

set_option maxHeartbeats 1000000 in
theorem walkScanTokens (s : ByteArray) (hs : s.size ≤ maxLen) (w : World) :
    Calls Try.prog 8 #[.string s] w fun e w' => e = .returned (.bool true) ∧ Below w.heap.size w w' := by
  have hs' := hs
  unfold maxLen at hs'
  by_cases h40 : 3000 < s.size
  · go_enter Try.func8, Try.ntmps8
    go_wp2
    go_ret
    exact ⟨rfl, Below.refl _ _⟩
  · go_enter Try.func8, Try.ntmps8
    go_wp2_with fail
    refine (tokens s _ hs).mono ?_
    rintro e w1 ⟨v1, rfl, own1, bel1, sz1⟩
    go_wp2_with fail
    refine (refTokens s _ hs).mono ?_
    rintro e w2 ⟨v2, rfl, own2, bel2, sz2⟩
    have r1 := reads_below (reads_own own1) bel2 (Nat.le_refl _)
    have r2 := reads_own own2
    have B2 : Below w.heap.size w w2 := bel1.trans (bel2.mono sz1)
    have Z2 : w.heap.size ≤ w2.heap.size := B2.size
    clear own1 own2 bel1 bel2 sz1 sz2
    go_wp2_with fail
    refine (keepTokSame _ _ _ _ (Nat.le_trans (toksL_len s) (by omega)) r1 r2).mono ?_
    rintro e w3 ⟨rfl, bel3⟩
    go_wp2_with fail
    refine (sane _).mono ?_
    rintro e w4 ⟨rfl, bel4⟩
    have B4 : Below w.heap.size w w4 := (B2.trans (bel3.mono Z2)).trans (bel4.mono (by have := bel3.size; omega))
    go_wp2
    go_ret
    exact ⟨rfl, B4⟩
end Go.Proofs.Ytlhocklcfhkbnaa.Sc
