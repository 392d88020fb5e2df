/-
  THE CONTRACTS OF few AND OF sane.
-/
import Derived.Test.YtmcoccfbbhnmfaaDoorIvlI
import Derived.Test.YtmcoccfbbhnmfaaDoorIvlU
import Derived.Test.YtmcoccfbbhnmfaaDoorIvlV
namespace Go.Proofs.YtmcoccfbbhnmfaaDoor.Iw
set_option linter.unusedSimpArgs false
set_option linter.unusedVariables false
open Go.RowKit Sm Ip Im Kt Am

theorem iv_nil (w : World) : IsIv w (.slice none 0 0) [] := ⟨rfl, .inl ⟨rfl, rfl⟩⟩
set_option maxHeartbeats 1000000 in
theorem few (v1 v2 : Value) (a b : List Iv) (w : World) (h1 : IsIv w v1 a) (h2 : IsIv w v2 b) :
    Calls Tryd.prog 11 #[v1, v2] w fun e w' => e = .returned (.bool (decide (a.length ≤ 30) && decide (b.length ≤ 30))) ∧ w = w' := by
  obtain ⟨p1, cap1, rfl, -⟩ := rows_open h1
  obtain ⟨p2, cap2, rfl, -⟩ := rows_open h2
  clear h1 h2
  generalize a.length = n
  generalize b.length = m
  by_cases h : n ≤ 30
  · have q1 : decide ((n : Int) ≤ 30) = true := decide_eq_true (by omega)
    have q2 := decide_eq_true h
    have HR : Hid ((decide (n ≤ 30) && decide (m ≤ 30)) = decide (m ≤ 30)) := hid (by rw [q2]; rfl)
    clear q2
    go_enter Tryd.func11, Tryd.ntmps11
    go_wp2_with fail
    go_ret
    exact ⟨ret_bool (by rw [HR.out, Bool.eq_iff_iff]; simp; omega), rfl⟩
  · have q1 : decide ((n : Int) ≤ 30) = false := decide_eq_false (by omega)
    have q2 := decide_eq_false h
    have HR : Hid ((decide (n ≤ 30) && decide (m ≤ 30)) = false) := hid (by rw [q2]; rfl)
    clear q2
    go_enter Tryd.func11, Tryd.ntmps11
    go_wp2_with fail
    go_ret
    exact ⟨ret_bool HR.out.symm, rfl⟩

def exIn : List Iv := [(5, 9), (1, 4), (20, 11)]
theorem ex_norm : norm exIn = [(1, 9)] := by decide +kernel
theorem ex_bd : Bd 4294967296 exIn := by unfold Bd exIn; simp
theorem ex_bd1 : Bd 4294967296 [((1, 9) : Iv)] := by unfold Bd; simp
theorem ex_size : sizeV [(1, 9)] = 9 := by decide +kernel
theorem ex_len : (prefs [(1, 9)]).length = 4 := by
  rw [← prefs_wth ex_bd1]; decide +kernel
theorem ex_has : hasB [(1, 9)] 5 = true ∧ hasB [(1, 9)] 10 = false := by decide +kernel

set_option maxHeartbeats 4000000 in
set_option maxRecDepth 100000 in
theorem sane (w : World) {B : Nat} (hT : Tab B w) (hB : B ≤ w.heap.size) :
    Calls Tryd.prog 19 #[] w (BoolPost true w) := by
  have HT := hid (And.intro hT hB)
  have C := fun wx v (h : IsIv wx v exIn) => normalize v exIn wx h ex_bd (by decide)
  rw [ex_norm] at C
  have HC := hid C
  have N1 := hid (rows_new w (iv2 exIn) 45 3 rfl)
  have b0 := al1 w (.cells (iv2 exIn).toArray 45)
  clear C hT hB
  go_enter Tryd.func19, Tryd.ntmps19
  go_wp2_with fail
  refine (HC.out _ _ N1.out).mono ?_
  rintro e w1 ⟨v1, rfl, r1, b1⟩
  have B1 := then_ b0 b1
  clear b0 b1
  obtain ⟨p, cap, rfl, hc⟩ := rows_open r1
  have R1 := hid r1
  obtain ⟨b, off, rfl, hbl, hc⟩ := hc (by decide)
  have c0 := hc 0 _ rfl
  have c1 := hc 1 _ rfl
  rw [Nat.add_zero] at c0
  clear hc r1
  go_wp2_with fail
  refine (has _ [(1, 9)] 5 _ R1.out (by decide)).mono ?_
  rintro e w2 ⟨rfl, b2⟩
  have R2 := hid (rows_keep R1.out b2)
  have B2 := then_ B1 b2
  rw [ex_has.1]
  clear b2 c0 c1
  go_wp2_with fail
  refine (has _ [(1, 9)] 10 _ R2.out (by decide)).mono ?_
  rintro e w3 ⟨rfl, b3⟩
  have R3 := hid (rows_keep R2.out b3)
  have B3 := then_ B2 b3
  rw [ex_has.2]
  clear b3
  go_wp2_with fail
  refine (size _ [(1, 9)] _ R3.out ex_bd1 (by decide)).mono ?_
  rintro e w4 ⟨rfl, b4⟩
  have R4 := hid (rows_keep R3.out b4)
  have B4 := then_ B3 b4
  rw [ex_size]
  clear b4
  go_wp2_with fail
  refine (prefixes _ [(1, 9)] _ R4.out ex_bd1 (by decide) (HT.out.1.on (B4.mono HT.out.2)) (Nat.le_trans HT.out.2 B4.size)).mono ?_
  rintro e w5 ⟨v5, rfl, own5, b5⟩
  rw [ex_len] at own5
  obtain ⟨p5, cap5, rfl, -⟩ := rows_open (rows_own own5)
  have B5 := then_ B4 b5
  clear b5 own5
  go_wp2_with fail
  go_ret
  exact ⟨rfl, B5⟩
end Go.Proofs.YtmcoccfbbhnmfaaDoor.Iw
