/-
  THE CONTRACTS OF THE SMALL FUNCTIONS OF scan (isIn, isTextByte, isDigit, isLetter) AND OF THE REFERENCE (single, letter): each answers the Bool function of the same meaning; the world is as it was.
-/
import Derived.Test.YtlhocklcfhkbnaaRows
import Derived.Test.YtlhocklcfhkbnaaScanP
import Derived.WalkKit
import Derived.WalkSpells
import Derived.Lib.Bytealg
namespace Go.Proofs.Ytlhocklcfhkbnaa.Sc
set_option linter.unusedSimpArgs false
set_option linter.unusedVariables false
open Go.RowKit Sp

set_option maxHeartbeats 1000000 in
set_option maxRecDepth 100000 in
theorem lite_index (s : ByteArray) (c : UInt8) (w : World) :
    Calls Try.prog 35 #[.string s, .int .u8 (c.toNat : Int)] w fun e w' => e = .returned (.int .i64 (Lib.indexByte s.data.toList c)) ∧ w = w' := by
  go_enter Try.func35, Try.ntmps35
  go_wp2
  rw [run_callFunc_extern Try.func36 (by kernel_rfl) (by kernel_rfl) (by kernel_rfl) (e := Extern.BytealgIndexByte.indexByte) (by kernel_rfl), Lib.run_indexByteString]
  simp only [Result.andThen]
  rw [Oper.upon_value]
  go_wp2
  go_ret
  refine ⟨?_, rfl⟩
  simp

set_option maxHeartbeats 1000000 in
theorem strings_index (s : ByteArray) (c : UInt8) (w : World) :
    Calls Try.prog 34 #[.string s, .int .u8 (c.toNat : Int)] w fun e w' => e = .returned (.int .i64 (Lib.indexByte s.data.toList c)) ∧ w = w' := by
  go_enter Try.func34, Try.ntmps34
  go_wp2_with (go_at_call 35; refine (lite_index _ _ _).mono ?_; rintro e w' ⟨rfl, rfl⟩)
  go_ret
  exact ⟨rfl, rfl⟩

theorem hid {p : Prop} (h : p) : Hid p := h
theorem ret_bool {a b : Bool} (h : a = b) : Ending.returned (.bool a) = .returned (.bool b) := by rw [h]

set_option maxHeartbeats 1000000 in
theorem isIn (s : ByteArray) (c : UInt8) (w : World) :
    Calls Try.prog 28 #[.int .u8 (c.toNat : Int), .string s] w fun e w' => e = .returned (.bool (inB s.data.toList c)) ∧ w = w' := by
  go_enter Try.func28, Try.ntmps28
  go_wp2_with (go_at_call 34; refine (strings_index _ _ _).mono ?_; rintro e w' ⟨rfl, rfl⟩)
  go_ret
  exact ⟨ret_bool (index_nonneg _ _), rfl⟩

theorem isIn_blanks (c : UInt8) (w : World) :
    Calls Try.prog 28 #[.int .u8 (c.toNat : Int), .string ⟨#[9, 32]⟩] w fun e w' => e = .returned (.bool (blankB c)) ∧ w = w' := by
  refine (isIn _ _ _).mono ?_
  rintro e w' ⟨rfl, rfl⟩
  exact ⟨by rw [show (ByteArray.mk #[9, 32]).data.toList = [9, 32] from rfl, in_blanks], rfl⟩
theorem isIn_marks (c : UInt8) (w : World) :
    Calls Try.prog 28 #[.int .u8 (c.toNat : Int), .string ⟨#[123, 125, 59]⟩] w fun e w' => e = .returned (.bool (markB c)) ∧ w = w' := by
  refine (isIn _ _ _).mono ?_
  rintro e w' ⟨rfl, rfl⟩
  exact ⟨by rw [show (ByteArray.mk #[123, 125, 59]).data.toList = [123, 125, 59] from rfl, in_marks], rfl⟩
theorem isIn_others (c : UInt8) (w : World) :
    Calls Try.prog 28 #[.int .u8 (c.toNat : Int), .string ⟨#[45, 95, 47, 46]⟩] w fun e w' => e = .returned (.bool (otherB c)) ∧ w = w' := by
  refine (isIn _ _ _).mono ?_
  rintro e w' ⟨rfl, rfl⟩
  exact ⟨by rw [show (ByteArray.mk #[45, 95, 47, 46]).data.toList = [45, 95, 47, 46] from rfl, in_others], rfl⟩

set_option maxHeartbeats 1000000 in
theorem isTextByte (c : UInt8) (w : World) :
    Calls Try.prog 27 #[.int .u8 (c.toNat : Int)] w fun e w' => e = .returned (.bool (textB c)) ∧ w = w' := by
  go_enter Try.func27, Try.ntmps27
  go_wp2
  all_goals go_ret
  all_goals exact ⟨ret_bool (by rw [text_int, Bool.eq_iff_iff]; simp; omega), rfl⟩

set_option maxHeartbeats 1000000 in
theorem isDigit (c : UInt8) (w : World) :
    Calls Try.prog 32 #[.int .u8 (c.toNat : Int)] w fun e w' => e = .returned (.bool (digitB c)) ∧ w = w' := by
  go_enter Try.func32, Try.ntmps32
  go_wp2
  all_goals go_ret
  all_goals exact ⟨ret_bool (by rw [digit_int, Bool.eq_iff_iff]; simp; omega), rfl⟩

set_option maxHeartbeats 1000000 in
theorem isLetter (c : UInt8) (w : World) :
    Calls Try.prog 33 #[.int .u8 (c.toNat : Int)] w fun e w' => e = .returned (.bool (letterB c)) ∧ w = w' := by
  go_enter Try.func33, Try.ntmps33
  go_wp2
  all_goals go_ret
  all_goals exact ⟨ret_bool (by rw [letter_int, Bool.eq_iff_iff]; simp; omega), rfl⟩

set_option maxHeartbeats 1000000 in
theorem letter (c : UInt8) (w : World) :
    Calls Try.prog 31 #[.int .u8 (c.toNat : Int)] w fun e w' => e = .returned (.bool (letterB c)) ∧ w = w' := by
  go_enter Try.func31, Try.ntmps31
  go_wp2
  all_goals go_ret
  all_goals exact ⟨ret_bool (by rw [letter_int, Bool.eq_iff_iff]; simp; omega), rfl⟩

set_option maxHeartbeats 1000000 in
theorem single (c : UInt8) (w : World) :
    Calls Try.prog 30 #[.int .u8 (c.toNat : Int)] w fun e w' => e = .returned (.bool (markB c)) ∧ w = w' := by
  go_enter Try.func30, Try.ntmps30
  go_wp2
  all_goals go_ret
  all_goals exact ⟨ret_bool (by rw [mark_int, Bool.eq_iff_iff]; simp; omega), rfl⟩
end Go.Proofs.Ytlhocklcfhkbnaa.Sc
