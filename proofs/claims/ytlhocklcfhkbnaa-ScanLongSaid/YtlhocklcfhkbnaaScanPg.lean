/-
  PLAIN FACTS ON A TEXT OF BLANKS: no program is named here.
-/
import Derived.Test.YtlhocklcfhkbnaaScanPc
import Derived.Laws.BytesArg
namespace Go.Proofs.Ytlhocklcfhkbnaa.Sp
set_option linter.unusedSimpArgs false
set_option linter.unusedVariables false

def blanks (n : Nat) : ByteArray := strOfNums (List.replicate n 32)
theorem blanks_data (n : Nat) : (blanks n).data.toList = List.replicate n 32 := by
  unfold blanks; rw [strOfNums_data, List.map_replicate]; rfl
theorem blanks_size (n : Nat) : (blanks n).size = n := by unfold blanks; rw [strOfNums_size, List.length_replicate]
theorem blanks_text (n : Nat) : textAll (blanks n) = true := by
  unfold textAll; rw [blanks_data]; simp [textB]
theorem spl_blanks : ∀ (n : Nat) (cur : List UInt8), spl cur (List.replicate n 32) = if cur ++ List.replicate n 32 = [] then [] else [cur ++ List.replicate n 32]
  | 0, cur => by simp [spl]
  | n + 1, cur => by
    rw [List.replicate_succ, spl, if_neg (by decide), spl_blanks n (cur ++ [32])]
    simp
theorem blanks_err (n : Nat) (h : n ≤ 65536) : errL (blanks n) = 0 := by
  rw [errL_small (by rw [blanks_size]; exact h), blanks_text]; rfl
theorem blanks_lines (n : Nat) (h : n ≤ 65536) : (linesL (blanks n)).length = if n = 0 then 0 else 1 := by
  rw [linesL_ok (blanks_err n h)]
  have e := congrArg List.length (linesF_list (blanks n))
  rw [blanks_data, spl_blanks] at e
  have e2 : (datas (linesF (blanks n) 0 0)).length = (linesF (blanks n) 0 0).length := List.length_map ..
  rw [← e2, e]
  by_cases h0 : n = 0
  · subst h0; simp
  · simp [h0]
theorem blanks_long (n : Nat) (h : 65536 < n) : errL (blanks n) = 7 := errL_long (by rw [blanks_size]; exact h)

theorem set_row {α : Type} (a z : α) (n k : Nat) (h : k < n) : (List.replicate k a ++ List.replicate (n - k) z).set k a = List.replicate (k + 1) a ++ List.replicate (n - (k + 1)) z := by
  have e : n - k = (n - (k + 1)) + 1 := by omega
  rw [e, List.replicate_succ, List.set_append_right (h := by simp)]
  simp only [List.length_replicate, Nat.sub_self, List.set_cons_zero]
  rw [List.replicate_succ', List.append_assoc]; rfl
end Go.Proofs.Ytlhocklcfhkbnaa.Sp
