/-
  THE CONTRACT OF netverifykeep.Strings, for two lists that are read from whatever slices; and the walks of ScanLines, ScanFields, ScanNumbers.
-/
import Derived.Test.YtlhocklcfhkbnaaScanE
import Derived.Test.YtlhocklcfhkbnaaScanG
import Derived.Test.YtlhocklcfhkbnaaScanI
import Derived.Test.YtlhocklcfhkbnaaScanJ
import Derived.WalkSmall
import Derived.OpenShut
namespace Go.Proofs.Ytlhocklcfhkbnaa.Sc
set_option linter.unusedSimpArgs false
set_option linter.unusedVariables false
open Go.RowKit Sp Sm

theorem below_drawn {w w' : World} (h : ∃ n, w' = w.drewN n) : Below w.heap.size w w' := by
  obtain ⟨n, rfl⟩ := h; exact below_drewN (Below.refl _ _) n

theorem strs_cells {w : World} {b off : Nat} {x : List ByteArray} (h : ∀ j u, (strs x)[j]? = some u → w.cell? ⟨b, off + j, none⟩ = some u) :
    ∀ j, j < x.length → w.cell? ⟨b, off + j, none⟩ = some (.string (x.getD j ByteArray.empty)) := by
  intro j hj
  refine h j _ ?_
  unfold strs
  rw [List.getElem?_map, List.getElem?_eq_getElem hj, List.getD_eq_getElem?_getD, List.getElem?_eq_getElem hj]
  rfl

theorem keepStrings (w : World) (v1 v2 : Value) (x y : List ByteArray) (h1 : Reads w 1 v1 x.length (strs x)) (h2 : Reads w 1 v2 y.length (strs y)) :
    Calls Try.prog 15 #[v1, v2] w fun e w' => e = .returned (.bool (decide (x = y))) ∧ Below w.heap.size w w' := by
  obtain ⟨_, m1, c1⟩ := h1
  obtain ⟨_, m2, c2⟩ := h2
  by_cases hn : x.length = y.length
  · rcases c1 with ⟨hz, a, cap, rfl⟩ | ⟨b, off, cap, rfl, hc1⟩
    · have e1 : x = [] := List.eq_nil_of_length_eq_zero hz
      have e2 : y = [] := List.eq_nil_of_length_eq_zero (by omega)
      subst e1; subst e2
      rcases c2 with ⟨_, a', cap', rfl⟩ | ⟨b', off', cap', rfl, _⟩
      · refine (keepStrings_nil _ _ _ _ w).mono ?_
        rintro e w' ⟨rfl, rfl⟩; exact ⟨by simp, Below.refl _ _⟩
      · refine (keepStrings_nil _ _ _ _ w).mono ?_
        rintro e w' ⟨rfl, rfl⟩; exact ⟨by simp, Below.refl _ _⟩
    · rcases c2 with ⟨hz, a', cap', rfl⟩ | ⟨b', off', cap', rfl, hc2⟩
      · have e2 : y = [] := List.eq_nil_of_length_eq_zero hz
        have e1 : x = [] := List.eq_nil_of_length_eq_zero (by omega)
        subst e1; subst e2
        refine (keepStrings_nil _ _ _ _ w).mono ?_
        rintro e w' ⟨rfl, rfl⟩; exact ⟨by simp, Below.refl _ _⟩
      · have hc2' := strs_cells hc2
        rw [← hn] at hc2' ⊢
        refine (keepStrings_one b off b' off' cap cap' x.length x y w (hid rfl) (hid hn.symm) m1 (strs_cells hc1) hc2').mono ?_
        rintro e w' ⟨rfl, h⟩; exact ⟨rfl, below_drawn h⟩
  · have hne : decide (x = y) = false := by rw [decide_eq_false_iff_not]; rintro rfl; exact hn rfl
    rw [hne]
    obtain ⟨a, cap, e1⟩ : ∃ a cap, v1 = .slice a x.length cap := by
      rcases c1 with ⟨hz, a, cap, rfl⟩ | ⟨b, off, cap, rfl, _⟩
      · exact ⟨a, cap, by rw [hz]⟩
      · exact ⟨_, _, rfl⟩
    obtain ⟨a', cap', e2⟩ : ∃ a cap, v2 = .slice a y.length cap := by
      rcases c2 with ⟨hz, a, cap, rfl⟩ | ⟨b, off, cap, rfl, _⟩
      · exact ⟨a, cap, by rw [hz]⟩
      · exact ⟨_, _, rfl⟩
    subst e1; subst e2
    refine (keepStrings_len _ _ _ _ _ _ hn w).mono ?_
    rintro e w' ⟨rfl, rfl⟩; exact ⟨rfl, Below.refl _ _⟩

/-- Two rows of the same strings. -/
theorem keepSame (w : World) (v1 v2 : Value) (x : List ByteArray) (h1 : Reads w 1 v1 x.length (strs x)) (h2 : Reads w 1 v2 x.length (strs x)) :
    Calls Try.prog 15 #[v1, v2] w fun e w' => e = .returned (.bool true) ∧ Below w.heap.size w w' := by
  refine (keepStrings w v1 v2 x x h1 h2).mono ?_
  rintro e w' ⟨rfl, h⟩; exact ⟨by simp, h⟩

set_option maxHeartbeats 1000000 in
theorem walkScanLines (s : ByteArray) (hs : s.size ≤ maxLen) (w : World) :
    Calls Try.prog 3 #[.string s] w fun e w' => e = .returned (.bool true) ∧ Below w.heap.size w w' := by
  have hs' := hs
  unfold maxLen at hs'
  by_cases h40 : 3000 < s.size
  · go_enter Try.func3, Try.ntmps3
    go_wp2
    go_ret
    exact ⟨rfl, Below.refl _ _⟩
  · go_enter Try.func3, Try.ntmps3
    go_wp2_with fail
    refine (lines s _ hs).mono ?_
    rintro e w1 ⟨v1, rfl, own1, bel1, sz1⟩
    go_wp2_with fail
    refine (refLines s _ hs).mono ?_
    rintro e w2 ⟨v2, rfl, own2, bel2, sz2⟩
    have r1 := reads_below (reads_own own1) bel2 (Nat.le_refl _)
    have r2 := reads_own own2
    have B2 : Below w.heap.size w w2 := bel1.trans (bel2.mono sz1)
    have Z2 : w.heap.size ≤ w2.heap.size := B2.size
    clear own1 own2 bel1 bel2 sz1 sz2
    go_wp2_with fail
    refine (keepSame _ _ _ _ r1 r2).mono ?_
    rintro e w3 ⟨rfl, bel3⟩
    go_wp2_with fail
    refine (sane _).mono ?_
    rintro e w4 ⟨rfl, bel4⟩
    have B4 : Below w.heap.size w w4 := (B2.trans (bel3.mono Z2)).trans (bel4.mono (by have := bel3.size; omega))
    go_wp2
    go_ret
    exact ⟨rfl, B4⟩

set_option maxHeartbeats 1000000 in
theorem walkScanFields (s : ByteArray) (hs : s.size ≤ maxLen) (c : Int) (hc : (Lit.int .u8 c).wf = true) (w : World) :
    Calls Try.prog 6 #[.string s, .int .u8 c] w fun e w' => e = .returned (.bool true) ∧ Below w.heap.size w w' := by
  have hs' := hs
  unfold maxLen at hs'
  have bc := bounds_u8 hc
  obtain ⟨d, hd⟩ : ∃ d : UInt8, (d.toNat : Int) = c := ⟨UInt8.ofNat c.toNat, by rw [UInt8.toNat_ofNat']; omega⟩
  subst hd
  by_cases h40 : 2000 < s.size
  · go_enter Try.func6, Try.ntmps6
    go_wp2
    go_ret
    exact ⟨rfl, Below.refl _ _⟩
  · go_enter Try.func6, Try.ntmps6
    go_wp2_with fail
    refine (fields s d _ (by omega)).mono ?_
    rintro e w1 ⟨v1, rfl, own1, bel1, sz1⟩
    go_wp2_with fail
    refine (refFields s d _ (by omega)).mono ?_
    rintro e w2 ⟨v2, rfl, own2, bel2, sz2⟩
    have r1 := reads_below (reads_own own1) bel2 (Nat.le_refl _)
    have r2 := reads_own own2
    have B2 : Below w.heap.size w w2 := bel1.trans (bel2.mono sz1)
    have Z2 : w.heap.size ≤ w2.heap.size := B2.size
    clear own1 own2 bel1 bel2 sz1 sz2
    go_wp2_with fail
    refine (keepSame _ _ _ _ r1 r2).mono ?_
    rintro e w3 ⟨rfl, bel3⟩
    go_wp2_with fail
    refine (sane _).mono ?_
    rintro e w4 ⟨rfl, bel4⟩
    have B4 : Below w.heap.size w w4 := (B2.trans (bel3.mono Z2)).trans (bel4.mono (by have := bel3.size; omega))
    go_wp2
    go_ret
    exact ⟨rfl, B4⟩

set_option maxHeartbeats 1000000 in
theorem walkScanNumbers (s : ByteArray) (hs : s.size ≤ maxLen) (a : Int) (_ha : (Lit.int .i64 a).wf = true) (b : Int) (_hb : (Lit.int .i64 b).wf = true) (w : World) :
    Calls Try.prog 10 #[.string s, .int .i64 a, .int .i64 b] w fun e w' => e = .returned (.bool true) ∧ Below w.heap.size w w' := by
  have hs' := hs
  unfold maxLen at hs'
  by_cases h40 : 40 < s.size
  · go_enter Try.func10, Try.ntmps10
    go_wp2
    go_ret
    exact ⟨rfl, Below.refl _ _⟩
  · go_enter Try.func10, Try.ntmps10
    go_wp2_with fail
    refine (number s a b _ hs).mono ?_
    rintro e w1 ⟨rfl, rfl⟩
    go_wp2_with fail
    refine (refNumber s a b _ hs).mono ?_
    rintro e w2 ⟨rfl, rfl⟩
    go_wp2_with fail
    refine (sane _).mono ?_
    rintro e w3 ⟨rfl, hb⟩
    go_wp2
    go_ret
    exact ⟨rfl, hb⟩
end Go.Proofs.Ytlhocklcfhkbnaa.Sc
