/-
  THE CONTRACT OF sane: the fixed examples give the documented results.
-/
import Derived.Test.YtlhocklcfhkbnaaScanC
import Derived.Test.YtlhocklcfhkbnaaScanD
import Derived.Test.YtlhocklcfhkbnaaScanH
namespace Go.Proofs.Ytlhocklcfhkbnaa.Sc
set_option linter.unusedSimpArgs false
set_option linter.unusedVariables false
open Go.RowKit Sp Sm

theorem ex_err : errL ⟨#[97, 10, 10, 98]⟩ = 0 := by decide +kernel
theorem ex_lines : linesL ⟨#[97, 10, 10, 98]⟩ = [⟨#[97]⟩, ⟨#[]⟩, ⟨#[98]⟩] := by
  rw [linesL_ok ex_err, linesF_no _ _ _ (by decide) (by decide), linesF_nl _ _ _ (by decide) (by decide), linesF_nl _ _ _ (by decide) (by decide), linesF_no _ _ _ (by decide) (by decide), linesF_end _ _ _ (by decide)]
  decide +kernel
theorem ex_fields : (fieldsF ⟨#[32, 120, 9, 121, 32, 33, 122]⟩ 33 0).length = 2 := by
  rw [fieldsF_blank _ _ _ (by decide) (by decide), fieldsF_word _ _ _ (by decide) (by decide) (by decide)]
  rw [show endAt blankB (ByteArray.mk #[32, 120, 9, 121, 32, 33, 122]).data.toList (0 + 1) = 2 by decide +kernel]
  rw [fieldsF_blank _ _ _ (by decide) (by decide), fieldsF_word _ _ _ (by decide) (by decide) (by decide)]
  rw [show endAt blankB (ByteArray.mk #[32, 120, 9, 121, 32, 33, 122]).data.toList (2 + 1) = 4 by decide +kernel]
  rw [fieldsF_blank _ _ _ (by decide) (by decide), fieldsF_comment _ _ _ (by decide) (by decide) (by decide)]
  rfl
theorem ex_num : numB (ByteArray.mk #[52, 50]).data.toList 0 42 = true ∧ numV (ByteArray.mk #[52, 50]).data.toList 0 42 = 42 := by decide +kernel
theorem ex_name : nameL (ByteArray.mk #[101, 116, 104, 48, 47, 49, 46, 53]).data.toList = true ∧ nameL (ByteArray.mk #[48, 101, 116, 104]).data.toList = false := by decide +kernel

/-- scan.Lines of "a\\n\\nb": three lines, the first and the last known. -/
theorem lines_ex (w : World) : Calls Try.prog 13 #[.string ⟨#[97, 10, 10, 98]⟩] w fun e w' =>
    ∃ g cap, e = .returned (.tuple #[.slice (some ⟨g, 0, none⟩) 3 cap, .int .i64 0]) ∧ w'.cell? ⟨g, 0, none⟩ = some (.string ⟨#[97]⟩) ∧ w'.cell? ⟨g, 2, none⟩ = some (.string ⟨#[98]⟩) ∧ Below w.heap.size w w' ∧ w.heap.size ≤ w'.heap.size ∧ g < w'.heap.size := by
  refine (lines _ w (by decide)).mono ?_
  rintro e w' ⟨v, rfl, hown, hbel, hsz⟩
  rw [ex_lines] at hown
  rw [ex_err]
  have hlt := hown.lt
  rcases hown.2 with ⟨_, h⟩ | ⟨g, cap, cur, rfl, hb, hh, _⟩
  · cases h
  · refine ⟨g, cap, rfl, (hown.cellAt 0 (by decide)), (hown.cellAt 2 (by decide)), hbel, hsz, (hlt g rfl).2⟩
theorem number_ex (w : World) : Calls Try.prog 23 #[.string ⟨#[52, 50]⟩, .int .i64 0, .int .i64 42] w fun e w' => e = .returned (.tuple #[.int .i64 42, .bool true]) ∧ w = w' := by
  refine (number _ _ _ w (by decide)).mono ?_
  rintro e w' ⟨rfl, rfl⟩
  rw [ex_num.1, ex_num.2]; exact ⟨rfl, rfl⟩
theorem fields_ex (w : World) : Calls Try.prog 18 #[.string ⟨#[32, 120, 9, 121, 32, 33, 122]⟩, .int .u8 33] w fun e w' => ∃ a cap, e = .returned (.slice a 2 cap) ∧ Below w.heap.size w w' ∧ w.heap.size ≤ w'.heap.size := by
  refine (fields _ 33 w (by decide)).mono ?_
  rintro e w' ⟨v, rfl, hown, hbel, hsz⟩
  rw [ex_fields] at hown
  rcases hown.2 with ⟨_, h⟩ | ⟨g, cap, cur, rfl, hb, hh, _⟩
  · cases h
  · exact ⟨_, _, rfl, hbel, hsz⟩
theorem name_ex1 (w : World) : Calls Try.prog 26 #[.string ⟨#[101, 116, 104, 48, 47, 49, 46, 53]⟩] w fun e w' => e = .returned (.bool true) ∧ w = w' := by
  refine (name _ w (by decide)).mono ?_
  rintro e w' ⟨rfl, rfl⟩
  rw [ex_name.1]; exact ⟨rfl, rfl⟩
theorem name_ex2 (w : World) : Calls Try.prog 26 #[.string ⟨#[48, 101, 116, 104]⟩] w fun e w' => e = .returned (.bool false) ∧ w = w' := by
  refine (name _ w (by decide)).mono ?_
  rintro e w' ⟨rfl, rfl⟩
  rw [ex_name.2]; exact ⟨rfl, rfl⟩

set_option maxHeartbeats 2000000 in
set_option maxRecDepth 100000 in
theorem sane (w : World) : Calls Try.prog 16 #[] w fun e w' => e = .returned (.bool true) ∧ Below w.heap.size w w' := by
  go_enter Try.func16, Try.ntmps16
  go_wp2_with fail
  refine (lines_ex _).mono ?_
  rintro e w1 ⟨g, cap, rfl, c0, c2, hb1, hs1, hg⟩
  go_wp2_with fail
  refine (number_ex _).mono ?_
  rintro e w2 ⟨rfl, rfl⟩
  go_wp2_with fail
  refine (fields_ex _).mono ?_
  rintro e w3 ⟨a, cap3, rfl, hb3, hs3⟩
  go_wp2_with fail
  refine (name_ex1 _).mono ?_
  rintro e w4 ⟨rfl, rfl⟩
  go_wp2_with fail
  refine (name_ex2 _).mono ?_
  rintro e w5 ⟨rfl, rfl⟩
  go_wp2
  go_ret
  exact ⟨rfl, hb1.trans (hb3.mono hs1)⟩
end Go.Proofs.Ytlhocklcfhkbnaa.Sc
