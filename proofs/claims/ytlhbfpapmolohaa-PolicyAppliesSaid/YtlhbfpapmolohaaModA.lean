/-
  THE CONTRACTS OF scan.Name AND OF THE REFERENCE's Name, AND OF WHAT THEY CALL, FOR A SEAT THAT HAS NO MORE OF scan. (Parts of wip/scan XScanA, XScanC: never beside those.)
-/
import Derived.Test.YtlhbfpapmolohaaProg
import Derived.Test.YtlhbfpapmolohaaScanP
import Derived.WalkKit
import Derived.WalkSpells
import Derived.Lib.Bytealg
import Derived.Lib.Strings
namespace Go.Proofs.Ytlhbfpapmolohaa.Sc
set_option linter.unusedSimpArgs false
set_option linter.unusedVariables false
open Go.RowKit Sp

theorem hid {p : Prop} (h : p) : Hid p := h

theorem ret_bool {a b : Bool} (h : a = b) : Ending.returned (.bool a) = .returned (.bool b) := by rw [h]

set_option maxHeartbeats 1000000 in
theorem letter (c : UInt8) (w : World) :
    Calls Try.prog 62 #[.int .u8 (c.toNat : Int)] w fun e w' => e = .returned (.bool (letterB c)) ∧ w = w' := by
  go_enter Try.func62, Try.ntmps62
  go_wp2
  all_goals go_ret
  all_goals exact ⟨ret_bool (by rw [letter_int, Bool.eq_iff_iff]; simp; omega), rfl⟩

theorem toList_nil (s : ByteArray) (h : s.size = 0) : s.toList = [] := by
  rw [Lib.toList_data]; exact List.eq_nil_of_length_eq_zero (by rw [len_data]; exact h)

theorem toList_ne (s : ByteArray) (h : 0 < s.size) : s.toList.isEmpty = false := by
  rw [Lib.toList_data]
  cases e : s.data.toList with
  | nil => have := congrArg List.length e; simp only [len_data, List.length_nil] at this; omega
  | cons _ _ => rfl

set_option maxHeartbeats 2000000 in
theorem refName (s : ByteArray) (w : World) (hs : s.size ≤ maxLen) :
    Calls Try.prog 44 #[.string s] w fun e w' => e = .returned (.bool (nameL s.data.toList)) ∧ w = w' := by
  unfold maxLen at hs
  by_cases h0 : s.size = 0
  · have hN := hid (nameL_short s h0)
    go_enter Try.func44, Try.ntmps44
    go_wp2
    go_ret
    exact ⟨ret_bool hN.out.symm, rfl⟩
  · have h1 : 0 < s.size := by omega
    by_cases h15 : 15 < s.size
    · have hN := hid (nameL_long s h15)
      clear h0
      go_enter Try.func44, Try.ntmps44
      go_wp2
      go_ret
      exact ⟨ret_bool hN.out.symm, rfl⟩
    · have hN := hid (nameL_of s h1 (by omega))
      have hO := hid (nameTo_one s h1)
      clear h0
      by_cases hl : letterB s[0] = true
      · go_enter Try.func44, Try.ntmps44
        go_wp2_with (go_at_call 62; refine (letter _ _).mono ?_; rintro e w' ⟨rfl, rfl⟩)
        go_loop [3] (fun i => ∃ k : Nat, 1 ≤ k ∧ k ≤ s.size ∧ i = .int .i64 k ∧ Hid (nameTo s k = true)) (fun i => s.size - (intOf i).toNat)
        case atStart => exact ⟨1, by omega, by omega, rfl, hO.out.trans hl⟩
        case round =>
          obtain ⟨k, hk1, hk, rfl, hE⟩ := hrel
          by_cases hlt : k < s.size
          · have hsu := hid (nameTo_succ s k hk1 hlt)
            have Y : Hid (nameB s[k] = true → Hid (nameTo s (k + 1) = true)) := fun hp => by show _ = _; rw [hsu.out, hE.out, hp]; rfl
            have O : Hid (nameB s[k] = false → Hid (nameL s.data.toList = false)) := fun hp => by
              show _ = _
              rw [hN.out]; exact nameTo_no s (k + 1) s.size (by omega) (by rw [hsu.out, hE.out, hp]; rfl) (by omega) (Nat.le_refl _)
            by_cases c1 : letterB s[k] = true
            · have hnx := Y.out (by unfold nameB; rw [c1]; rfl)
              clear Y O
              go_wp2_with (go_at_call 62; refine (letter _ _).mono ?_; rintro e w' ⟨rfl, rfl⟩)
              go_round
              case rel => exact ⟨k + 1, by omega, by omega, by go_num, hnx⟩
              case measure => simp [intOf]; omega
            · have c1' : letterB s[k] = false := by simpa using c1
              have D := hid (digit_int s[k])
              have T := hid (other_int s[k])
              clear c1
              go_wp2_with (go_at_call 62; refine (letter _ _).mono ?_; rintro e w' ⟨rfl, rfl⟩)
              all_goals first
                | (go_round; (case rel => exact ⟨k + 1, by omega, by omega, by go_num, Y.out (by unfold nameB; rw [D.out, T.out, c1']; simp only [Bool.false_or, Bool.or_eq_true, decide_eq_true_eq]; clear Y O; (try simp only [bne_iff_ne, bne_eq_false_iff_eq, ne_eq, Bool.not_eq_true', Bool.not_eq_false', decide_eq_true_eq, decide_eq_false_iff_not] at *); omega)⟩); (case measure => simp [intOf]; omega))
                | (go_ret; exact ⟨ret_bool (O.out (by unfold nameB; rw [D.out, T.out, c1']; simp only [Bool.false_or, Bool.or_eq_false_iff, decide_eq_false_iff_not]; clear Y O; (try simp only [bne_iff_ne, bne_eq_false_iff_eq, ne_eq, Bool.not_eq_true', Bool.not_eq_false', decide_eq_true_eq, decide_eq_false_iff_not] at *); omega)).out.symm, rfl⟩)
          · have hkl : k = s.size := by omega
            have hf : Hid (nameL s.data.toList = true) := by show _ = _; rw [hN.out, ← hkl]; exact hE.out
            clear hkl
            go_wp2
            go_ret
            exact ⟨ret_bool hf.out.symm, rfl⟩
      · have hl' : letterB s[0] = false := by simpa using hl
        clear hl
        have hf : Hid (nameL s.data.toList = false) := by
          show _ = _
          rw [hN.out]; exact nameTo_no s 1 s.size (by omega) (hO.out.trans hl') h1 (Nat.le_refl _)
        go_enter Try.func44, Try.ntmps44
        go_wp2_with (go_at_call 62; refine (letter _ _).mono ?_; rintro e w' ⟨rfl, rfl⟩)
        go_ret
        exact ⟨ret_bool hf.out.symm, rfl⟩

end Go.Proofs.Ytlhbfpapmolohaa.Sc
