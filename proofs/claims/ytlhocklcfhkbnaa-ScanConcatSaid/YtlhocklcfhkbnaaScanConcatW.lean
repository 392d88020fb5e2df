/-
  THE WALK OF ScanConcat.
-/
import Derived.Test.YtlhocklcfhkbnaaScanK
import Derived.Test.YtlhocklcfhkbnaaScanM2
import Derived.Test.YtlhocklcfhkbnaaScanPc
namespace Go.Proofs.Ytlhocklcfhkbnaa.Sc
set_option linter.unusedSimpArgs false
set_option linter.unusedVariables false
open Go.RowKit Sp Sm

set_option maxHeartbeats 2000000 in
set_option maxRecDepth 100000 in
theorem walkScanConcat (a : ByteArray) (ha : a.size ≤ maxLen) (b : ByteArray) (hb : b.size ≤ maxLen) (w : World) :
    Calls Try.prog 5 #[.string a, .string b] w fun e w' => e = .returned (.bool true) ∧ Below w.heap.size w w' := by
  have ha' := ha
  unfold maxLen at ha'
  obtain ⟨i0, hi, hz0, hz1, hz2⟩ := info_parts strInfo
  have hb' := hb
  unfold maxLen at hb'
  by_cases h1 : 1500 < a.size
  · go_enter Try.func5, Try.ntmps5
    go_wp2
    go_ret
    exact ⟨rfl, Below.refl _ _⟩
  · by_cases h2 : 1500 < b.size
    · go_enter Try.func5, Try.ntmps5
      go_wp2
      go_ret
      exact ⟨rfl, Below.refl _ _⟩
    · have s1 : (a ++ ⟨#[10]⟩ : ByteArray).size = a.size + 1 := by rw [app_size]; rfl
      have s2 : (a ++ ⟨#[10]⟩ ++ b : ByteArray).size = a.size + 1 + b.size := by rw [app_size, s1]
      have z1 : (a ++ ⟨#[10]⟩ : ByteArray).size ≤ maxLen := by rw [s1]; unfold maxLen; omega
      have z2 : (a ++ ⟨#[10]⟩ ++ b : ByteArray).size ≤ maxLen := by rw [s2]; unfold maxLen; omega
      have E1 := hid (errL_small (s := a ++ ⟨#[10]⟩) (by rw [s1]; omega))
      have E2 := hid (errL_small (s := b) (by omega))
      have E3 := hid (errL_small (s := a ++ ⟨#[10]⟩ ++ b) (by rw [s2]; omega))
      have J := hid (linesF_join a b)
      clear s1 s2
      have C1 := fun wx => lines (a ++ ⟨#[10]⟩) wx z1
      have C2 := fun wx => lines b wx hb
      have C3 := fun wx => lines (a ++ ⟨#[10]⟩ ++ b) wx z2
      have T1 := hid (textAll_nl a)
      have T3 := hid (textAll_app (a ++ ⟨#[10]⟩) b)
      clear z1 z2
      by_cases ta : textAll a = true
      · by_cases tb : textAll b = true
        · have e1 : errL (a ++ ⟨#[10]⟩) = 0 := by rw [E1.out, T1.out, ta]; rfl
          have e2 : errL b = 0 := by rw [E2.out, tb]; rfl
          have e3 : errL (a ++ ⟨#[10]⟩ ++ b) = 0 := by rw [E3.out, T3.out, T1.out, ta, tb]; rfl
          have L := hid (show linesL (a ++ ⟨#[10]⟩ ++ b) = linesL (a ++ ⟨#[10]⟩) ++ linesL b by rw [linesL_ok e1, linesL_ok e2, linesL_ok e3]; exact J.out)
          clear E1 E2 E3 J T1 T3 ta tb
          go_enter Try.func5, Try.ntmps5
          go_wp2_with fail
          refine (C1 _).mono ?_
          rintro e w1 ⟨v1, rfl, own1, bel1, sz1⟩
          go_wp2_with fail
          refine (C2 _).mono ?_
          rintro e w2 ⟨v2, rfl, own2, bel2, sz2⟩
          go_wp2_with fail
          refine (C3 _).mono ?_
          rintro e w3 ⟨v3, rfl, own3, bel3, sz3⟩
          rw [e3]
          clear e1 e2 e3
          have o1 := own_below (own_below own1 bel2 (Nat.le_refl _)) bel3 (Nat.le_refl _)
          have o2 := own_below own2 bel3 (Nat.le_refl _)
          have r3 := reads_own own3
          have B3 : Below w.heap.size w w3 := (bel1.trans (bel2.mono sz1)).trans (bel3.mono (by omega))
          clear own1 own2 own3 bel1 bel2 bel3
          have Z3 : w.heap.size ≤ w3.heap.size := B3.size
          have hlit : (w3.alloc (.cells #[] 9)).ownsRow w3.heap.size 9 1 (.slice (some ⟨w3.heap.size, 0, none⟩) 0 0) 0 [] := World.ownsRow_lit w3 #[] 0 (Nat.le_refl _) (by unfold maxLen; omega) rfl
          have p1 := o1.alloc (.cells #[] 9)
          have l1 := linesL_len (a ++ ⟨#[10]⟩)
          have l2 := linesL_len b
          go_wp2_with (first | (at_builtin; refine app_row_g (P := Try.prog) (s := ?_) (x := ?_) (t := 22) (e := 9) (i := i0) (z := _) (size := 1) (bytes := 16) (ht := Try.underlying22) (hi := hi) (hz := hz0) (hsize := hz1) (hby := hz2) (hzs := ?_) (hsz := by decide) (hb32 := by decide) (B := w3.heap.size) (w := w3) (hown := own4) (hbel := bel4) (hB := bel4.size) (howu := own_below o2 bel4 (Nat.le_refl _)) (h1 := strs_one _) (hn := by omega) (hm := by omega) (hw := ?_) (ho := ?_) (hs := ?_) (hx := ?_) (h := ?_); rotate_left 2; rfl; rfl; rfl; rfl; rfl; intro v5 w5 own5 bel5 bel5b) | (at_builtin; refine app_row_g (P := Try.prog) (s := ?_) (x := ?_) (t := 22) (e := 9) (i := i0) (z := _) (size := 1) (bytes := 16) (ht := Try.underlying22) (hi := hi) (hz := hz0) (hsize := hz1) (hby := hz2) (hzs := ?_) (hsz := by decide) (hb32 := by decide) (B := w3.heap.size) (w := w3) (hown := hlit) (hbel := (Below.refl _ _).alloc (Nat.le_refl _) _) (hB := by simp) (howu := p1) (h1 := strs_one _) (hn := by omega) (hm := by omega) (hw := ?_) (ho := ?_) (hs := ?_) (hx := ?_) (h := ?_); rotate_left 2; rfl; rfl; rfl; rfl; rfl; intro v4 w4 own4 bel4 bel4b))
          have r5 := reads_own own5
          have r3' := reads_below r3 bel5 (Nat.le_refl _)
          rw [L.out] at r3'
          have e5 : strs (linesL (a ++ ⟨#[10]⟩)) ++ strs (linesL b) = strs (linesL (a ++ ⟨#[10]⟩) ++ linesL b) := (strs_append _ _).symm
          rw [List.nil_append, e5, Nat.zero_add, ← List.length_append] at r5
          have B5 : Below w.heap.size w w5 := B3.trans (bel5.mono Z3)
          have Z5 : w.heap.size ≤ w5.heap.size := B5.size
          clear own4 own5 bel4 bel5 bel4b bel5b o1 o2 p1 hlit r3
          refine (keepSame _ _ _ _ r3' r5).mono ?_
          rintro e w6 ⟨rfl, bel6⟩
          go_wp2_with fail
          refine (sane _).mono ?_
          rintro e w7 ⟨rfl, bel7⟩
          have B7 : Below w.heap.size w w7 := (B5.trans (bel6.mono Z5)).trans (bel7.mono (by have := bel6.size; omega))
          go_wp2
          go_ret
          exact ⟨rfl, B7⟩
        · have tb' : textAll b = false := by simpa using tb
          have e1 : errL (a ++ ⟨#[10]⟩) = 0 := by rw [E1.out, T1.out, ta]; rfl
          have e2 : errL b = 2 := by rw [E2.out, tb']; rfl
          have e3 : errL (a ++ ⟨#[10]⟩ ++ b) = 2 := by rw [E3.out, T3.out, T1.out, ta, tb']; simp
          have L := hid (linesL_no (s := a ++ ⟨#[10]⟩ ++ b) (by rw [e3]; decide))
          clear E1 E2 E3 J T1 T3 ta tb
          go_enter Try.func5, Try.ntmps5
          go_wp2_with fail
          refine (C1 _).mono ?_
          rintro e w1 ⟨v1, rfl, own1, bel1, sz1⟩
          go_wp2_with fail
          refine (C2 _).mono ?_
          rintro e w2 ⟨v2, rfl, own2, bel2, sz2⟩
          go_wp2_with fail
          refine (C3 _).mono ?_
          rintro e w3 ⟨v3, rfl, own3, bel3, sz3⟩
          rw [e3]
          rw [L.out] at own3
          have B3 : Below w.heap.size w w3 := (bel1.trans (bel2.mono sz1)).trans (bel3.mono (by omega))
          have Z3 : w.heap.size ≤ w3.heap.size := B3.size
          obtain ⟨q, cap, rfl⟩ : ∃ q cap, v3 = .slice q 0 cap := by
            rcases own3.2 with ⟨h, _⟩ | ⟨g, cap, cur, h, _⟩
            · exact ⟨_, _, h⟩
            · exact ⟨_, _, h⟩
          clear own1 own2 own3 bel1 bel2 bel3 e3
          go_wp2_with fail
          refine (sane _).mono ?_
          rintro e w7 ⟨rfl, bel7⟩
          have B7 : Below w.heap.size w w7 := B3.trans (bel7.mono Z3)
          go_wp2
          go_ret
          exact ⟨rfl, B7⟩
      · have ta' : textAll a = false := by simpa using ta
        have e1 : errL (a ++ ⟨#[10]⟩) = 2 := by rw [E1.out, T1.out, ta']; rfl
        have e3 : errL (a ++ ⟨#[10]⟩ ++ b) = 2 := by rw [E3.out, T3.out, T1.out, ta']; simp
        have L := hid (linesL_no (s := a ++ ⟨#[10]⟩ ++ b) (by rw [e3]; decide))
        clear E1 E2 E3 J T1 T3 ta 
        go_enter Try.func5, Try.ntmps5
        go_wp2_with fail
        refine (C1 _).mono ?_
        rintro e w1 ⟨v1, rfl, own1, bel1, sz1⟩
        go_wp2_with fail
        refine (C2 _).mono ?_
        rintro e w2 ⟨v2, rfl, own2, bel2, sz2⟩
        go_wp2_with fail
        refine (C3 _).mono ?_
        rintro e w3 ⟨v3, rfl, own3, bel3, sz3⟩
        rw [e3]
        rw [L.out] at own3
        have B3 : Below w.heap.size w w3 := (bel1.trans (bel2.mono sz1)).trans (bel3.mono (by omega))
        have Z3 : w.heap.size ≤ w3.heap.size := B3.size
        obtain ⟨q, cap, rfl⟩ : ∃ q cap, v3 = .slice q 0 cap := by
          rcases own3.2 with ⟨h, _⟩ | ⟨g, cap, cur, h, _⟩
          · exact ⟨_, _, h⟩
          · exact ⟨_, _, h⟩
        clear own1 own2 own3 bel1 bel2 bel3 e3
        go_wp2_with fail
        refine (sane _).mono ?_
        rintro e w7 ⟨rfl, bel7⟩
        have B7 : Below w.heap.size w w7 := B3.trans (bel7.mono Z3)
        go_wp2
        go_ret
        exact ⟨rfl, B7⟩
end Go.Proofs.Ytlhocklcfhkbnaa.Sc
