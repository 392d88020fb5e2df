/-
  THE CONTRACTS OF scan.Name AND OF THE REFERENCE's Name, AND OF WHAT THEY CALL, FOR A SEAT THAT HAS NO MORE OF scan. (Parts of wip/scan XScanA, XScanC: never beside those.)
-/
import Derived.Test.YtlhbfpapmolohaaGreatProg
import Derived.Test.YtlhbfpapmolohaaGreatScanP
import Derived.WalkKit
import Derived.WalkSpells
import Derived.Lib.Bytealg
import Derived.Lib.Strings
namespace Go.Proofs.YtlhbfpapmolohaaGreat.Sc
set_option linter.unusedSimpArgs false
set_option linter.unusedVariables false
open Go.RowKit Sp

set_option maxHeartbeats 1000000 in
set_option maxRecDepth 100000 in
theorem lite_index (s : ByteArray) (c : UInt8) (w : World) :
    Calls Tryz.prog 194 #[.string s, .int .u8 (c.toNat : Int)] w fun e w' => e = .returned (.int .i64 (Lib.indexByte s.data.toList c)) ∧ w = w' := by
  go_enter Tryz.func194, Tryz.ntmps194
  go_wp2
  rw [run_callFunc_extern Tryz.func196 (by kernel_rfl) (by kernel_rfl) (by kernel_rfl) (e := Extern.BytealgIndexByte.indexByte) (by kernel_rfl), Lib.run_indexByteString]
  simp only [Result.andThen]
  rw [Oper.upon_value]
  go_wp2
  go_ret
  refine ⟨?_, rfl⟩
  simp

set_option maxHeartbeats 1000000 in
theorem strings_index (s : ByteArray) (c : UInt8) (w : World) :
    Calls Tryz.prog 183 #[.string s, .int .u8 (c.toNat : Int)] w fun e w' => e = .returned (.int .i64 (Lib.indexByte s.data.toList c)) ∧ w = w' := by
  go_enter Tryz.func183, Tryz.ntmps183
  go_wp2_with (go_at_call 194; refine (lite_index _ _ _).mono ?_; rintro e w' ⟨rfl, rfl⟩)
  go_ret
  exact ⟨rfl, rfl⟩

theorem hid {p : Prop} (h : p) : Hid p := h

theorem ret_bool {a b : Bool} (h : a = b) : Ending.returned (.bool a) = .returned (.bool b) := by rw [h]

set_option maxHeartbeats 1000000 in
theorem isIn (s : ByteArray) (c : UInt8) (w : World) :
    Calls Tryz.prog 136 #[.int .u8 (c.toNat : Int), .string s] w fun e w' => e = .returned (.bool (inB s.data.toList c)) ∧ w = w' := by
  go_enter Tryz.func136, Tryz.ntmps136
  go_wp2_with (go_at_call 183; refine (strings_index _ _ _).mono ?_; rintro e w' ⟨rfl, rfl⟩)
  go_ret
  exact ⟨ret_bool (index_nonneg _ _), rfl⟩

theorem isIn_others (c : UInt8) (w : World) :
    Calls Tryz.prog 136 #[.int .u8 (c.toNat : Int), .string ⟨#[45, 95, 47, 46]⟩] w fun e w' => e = .returned (.bool (otherB c)) ∧ w = w' := by
  refine (isIn _ _ _).mono ?_
  rintro e w' ⟨rfl, rfl⟩
  exact ⟨by rw [show (ByteArray.mk #[45, 95, 47, 46]).data.toList = [45, 95, 47, 46] from rfl, in_others], rfl⟩

set_option maxHeartbeats 1000000 in
theorem isDigit (c : UInt8) (w : World) :
    Calls Tryz.prog 135 #[.int .u8 (c.toNat : Int)] w fun e w' => e = .returned (.bool (digitB c)) ∧ w = w' := by
  go_enter Tryz.func135, Tryz.ntmps135
  go_wp2
  all_goals go_ret
  all_goals exact ⟨ret_bool (by rw [digit_int, Bool.eq_iff_iff]; simp; omega), rfl⟩

set_option maxHeartbeats 1000000 in
theorem isLetter (c : UInt8) (w : World) :
    Calls Tryz.prog 134 #[.int .u8 (c.toNat : Int)] w fun e w' => e = .returned (.bool (letterB c)) ∧ w = w' := by
  go_enter Tryz.func134, Tryz.ntmps134
  go_wp2
  all_goals go_ret
  all_goals exact ⟨ret_bool (by rw [letter_int, Bool.eq_iff_iff]; simp; omega), rfl⟩

set_option maxHeartbeats 1000000 in
theorem letter (c : UInt8) (w : World) :
    Calls Tryz.prog 104 #[.int .u8 (c.toNat : Int)] w fun e w' => e = .returned (.bool (letterB c)) ∧ w = w' := by
  go_enter Tryz.func104, Tryz.ntmps104
  go_wp2
  all_goals go_ret
  all_goals exact ⟨ret_bool (by rw [letter_int, Bool.eq_iff_iff]; simp; omega), rfl⟩

theorem toList_nil (s : ByteArray) (h : s.size = 0) : s.toList = [] := by
  rw [Lib.toList_data]; exact List.eq_nil_of_length_eq_zero (by rw [len_data]; exact h)

theorem toList_ne (s : ByteArray) (h : 0 < s.size) : s.toList.isEmpty = false := by
  rw [Lib.toList_data]
  cases e : s.data.toList with
  | nil => have := congrArg List.length e; simp only [len_data, List.length_nil] at this; omega
  | cons _ _ => rfl

set_option maxHeartbeats 2000000 in
theorem name (s : ByteArray) (w : World) (hs : s.size ≤ maxLen) :
    Calls Tryz.prog 63 #[.string s] w fun e w' => e = .returned (.bool (nameL s.data.toList)) ∧ w = w' := by
  unfold maxLen at hs
  by_cases h0 : s.size = 0
  · have hN := hid (nameL_short s h0)
    have he := toList_nil s h0
    clear h0
    go_enter Tryz.func63, Tryz.ntmps63
    go_wp2
    go_ret
    exact ⟨ret_bool hN.out.symm, rfl⟩
  · have h1 : 0 < s.size := by omega
    have he := toList_ne s h1
    have he2 : ¬ s.toList = [] := by intro h; rw [h] at he; cases he
    by_cases h15 : 15 < s.size
    · have hN := hid (nameL_long s h15)
      clear h0
      go_enter Tryz.func63, Tryz.ntmps63
      go_wp2
      go_ret
      exact ⟨ret_bool hN.out.symm, rfl⟩
    · have hN := hid (nameL_of s h1 (by omega))
      have hO := hid (nameTo_one s h1)
      clear h0
      by_cases hl : letterB s[0] = true
      · go_enter Tryz.func63, Tryz.ntmps63
        go_wp2_with (go_at_call 134; refine (isLetter _ _).mono ?_; rintro e w' ⟨rfl, rfl⟩)
        go_loop [3] (fun i => ∃ k : Nat, 1 ≤ k ∧ k ≤ s.size ∧ i = .int .i64 k ∧ Hid (nameTo s k = true)) (fun i => s.size - (intOf i).toNat)
        case atStart => exact ⟨1, by omega, by omega, rfl, hO.out.trans hl⟩
        case round =>
          obtain ⟨k, hk1, hk, rfl, hE⟩ := hrel
          by_cases hlt : k < s.size
          · have hsu := hid (nameTo_succ s k hk1 hlt)
            have yes : nameB s[k] = true → Hid (nameTo s (k + 1) = true) := fun hp => by show _ = _; rw [hsu.out, hE.out, hp]; rfl
            have no : nameB s[k] = false → Hid (nameL s.data.toList = false) := fun hp => by
              show _ = _
              rw [hN.out]; exact nameTo_no s (k + 1) s.size (by omega) (by rw [hsu.out, hE.out, hp]; rfl) (by omega) (Nat.le_refl _)
            have Y := hid yes
            have O := hid no
            clear yes no
            by_cases c1 : letterB s[k] = true
            · have hnx := Y.out (by unfold nameB; rw [c1]; rfl)
              clear Y O
              go_wp2_with (go_at_call 134; refine (isLetter _ _).mono ?_; rintro e w' ⟨rfl, rfl⟩)
              go_round
              case rel => exact ⟨k + 1, by omega, by omega, by go_num, hnx⟩
              case measure => simp [intOf]; omega
            · have c1' : letterB s[k] = false := by simpa using c1
              clear c1
              by_cases c2 : digitB s[k] = true
              · have hnx := Y.out (by unfold nameB; rw [c1', c2]; rfl)
                clear Y O
                go_wp2_with (first | (go_at_call 134; refine (isLetter _ _).mono ?_; rintro e w' ⟨rfl, rfl⟩) | (go_at_call 135; refine (isDigit _ _).mono ?_; rintro e w' ⟨rfl, rfl⟩))
                go_round
                case rel => exact ⟨k + 1, by omega, by omega, by go_num, hnx⟩
                case measure => simp [intOf]; omega
              · have c2' : digitB s[k] = false := by simpa using c2
                clear c2
                by_cases c3 : otherB s[k] = true
                · have hnx := Y.out (by unfold nameB; rw [c1', c2', c3]; rfl)
                  clear Y O
                  go_wp2_with (first | (go_at_call 134; refine (isLetter _ _).mono ?_; rintro e w' ⟨rfl, rfl⟩) | (go_at_call 135; refine (isDigit _ _).mono ?_; rintro e w' ⟨rfl, rfl⟩) | (go_at_call 136; refine (isIn_others _ _).mono ?_; rintro e w' ⟨rfl, rfl⟩))
                  go_round
                  case rel => exact ⟨k + 1, by omega, by omega, by go_num, hnx⟩
                  case measure => simp [intOf]; omega
                · have c3' : otherB s[k] = false := by simpa using c3
                  clear c3
                  have hnx := O.out (by unfold nameB; rw [c1', c2', c3']; rfl)
                  clear Y O
                  go_wp2_with (first | (go_at_call 134; refine (isLetter _ _).mono ?_; rintro e w' ⟨rfl, rfl⟩) | (go_at_call 135; refine (isDigit _ _).mono ?_; rintro e w' ⟨rfl, rfl⟩) | (go_at_call 136; refine (isIn_others _ _).mono ?_; rintro e w' ⟨rfl, rfl⟩))
                  go_ret
                  exact ⟨ret_bool hnx.out.symm, rfl⟩
          · have hkl : k = s.size := by omega
            have hf : Hid (nameL s.data.toList = true) := by show _ = _; rw [hN.out, ← hkl]; exact hE.out
            clear hkl
            go_wp2
            go_ret
            exact ⟨ret_bool hf.out.symm, rfl⟩
      · have hl' : letterB s[0] = false := by simpa using hl
        clear hl
        have hf : Hid (nameL s.data.toList = false) := by
          show _ = _
          rw [hN.out]; exact nameTo_no s 1 s.size (by omega) (hO.out.trans hl') h1 (Nat.le_refl _)
        go_enter Tryz.func63, Tryz.ntmps63
        go_wp2_with (go_at_call 134; refine (isLetter _ _).mono ?_; rintro e w' ⟨rfl, rfl⟩)
        go_ret
        exact ⟨ret_bool hf.out.symm, rfl⟩

set_option maxHeartbeats 2000000 in
theorem refName (s : ByteArray) (w : World) (hs : s.size ≤ maxLen) :
    Calls Tryz.prog 28 #[.string s] w fun e w' => e = .returned (.bool (nameL s.data.toList)) ∧ w = w' := by
  unfold maxLen at hs
  by_cases h0 : s.size = 0
  · have hN := hid (nameL_short s h0)
    go_enter Tryz.func28, Tryz.ntmps28
    go_wp2
    go_ret
    exact ⟨ret_bool hN.out.symm, rfl⟩
  · have h1 : 0 < s.size := by omega
    by_cases h15 : 15 < s.size
    · have hN := hid (nameL_long s h15)
      clear h0
      go_enter Tryz.func28, Tryz.ntmps28
      go_wp2
      go_ret
      exact ⟨ret_bool hN.out.symm, rfl⟩
    · have hN := hid (nameL_of s h1 (by omega))
      have hO := hid (nameTo_one s h1)
      clear h0
      by_cases hl : letterB s[0] = true
      · go_enter Tryz.func28, Tryz.ntmps28
        go_wp2_with (go_at_call 104; refine (letter _ _).mono ?_; rintro e w' ⟨rfl, rfl⟩)
        go_loop [3] (fun i => ∃ k : Nat, 1 ≤ k ∧ k ≤ s.size ∧ i = .int .i64 k ∧ Hid (nameTo s k = true)) (fun i => s.size - (intOf i).toNat)
        case atStart => exact ⟨1, by omega, by omega, rfl, hO.out.trans hl⟩
        case round =>
          obtain ⟨k, hk1, hk, rfl, hE⟩ := hrel
          by_cases hlt : k < s.size
          · have hsu := hid (nameTo_succ s k hk1 hlt)
            have Y : Hid (nameB s[k] = true → Hid (nameTo s (k + 1) = true)) := fun hp => by show _ = _; rw [hsu.out, hE.out, hp]; rfl
            have O : Hid (nameB s[k] = false → Hid (nameL s.data.toList = false)) := fun hp => by
              show _ = _
              rw [hN.out]; exact nameTo_no s (k + 1) s.size (by omega) (by rw [hsu.out, hE.out, hp]; rfl) (by omega) (Nat.le_refl _)
            by_cases c1 : letterB s[k] = true
            · have hnx := Y.out (by unfold nameB; rw [c1]; rfl)
              clear Y O
              go_wp2_with (go_at_call 104; refine (letter _ _).mono ?_; rintro e w' ⟨rfl, rfl⟩)
              go_round
              case rel => exact ⟨k + 1, by omega, by omega, by go_num, hnx⟩
              case measure => simp [intOf]; omega
            · have c1' : letterB s[k] = false := by simpa using c1
              have D := hid (digit_int s[k])
              have T := hid (other_int s[k])
              clear c1
              go_wp2_with (go_at_call 104; refine (letter _ _).mono ?_; rintro e w' ⟨rfl, rfl⟩)
              all_goals first
                | (go_round; (case rel => exact ⟨k + 1, by omega, by omega, by go_num, Y.out (by unfold nameB; rw [D.out, T.out, c1']; simp only [Bool.false_or, Bool.or_eq_true, decide_eq_true_eq]; clear Y O; (try simp only [bne_iff_ne, bne_eq_false_iff_eq, ne_eq, Bool.not_eq_true', Bool.not_eq_false', decide_eq_true_eq, decide_eq_false_iff_not] at *); omega)⟩); (case measure => simp [intOf]; omega))
                | (go_ret; exact ⟨ret_bool (O.out (by unfold nameB; rw [D.out, T.out, c1']; simp only [Bool.false_or, Bool.or_eq_false_iff, decide_eq_false_iff_not]; clear Y O; (try simp only [bne_iff_ne, bne_eq_false_iff_eq, ne_eq, Bool.not_eq_true', Bool.not_eq_false', decide_eq_true_eq, decide_eq_false_iff_not] at *); omega)).out.symm, rfl⟩)
          · have hkl : k = s.size := by omega
            have hf : Hid (nameL s.data.toList = true) := by show _ = _; rw [hN.out, ← hkl]; exact hE.out
            clear hkl
            go_wp2
            go_ret
            exact ⟨ret_bool hf.out.symm, rfl⟩
      · have hl' : letterB s[0] = false := by simpa using hl
        clear hl
        have hf : Hid (nameL s.data.toList = false) := by
          show _ = _
          rw [hN.out]; exact nameTo_no s 1 s.size (by omega) (hO.out.trans hl') h1 (Nat.le_refl _)
        go_enter Tryz.func28, Tryz.ntmps28
        go_wp2_with (go_at_call 104; refine (letter _ _).mono ?_; rintro e w' ⟨rfl, rfl⟩)
        go_ret
        exact ⟨ret_bool hf.out.symm, rfl⟩

end Go.Proofs.YtlhbfpapmolohaaGreat.Sc
