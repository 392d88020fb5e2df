/-
  PLAIN FACTS ON THE TOKENS OF A LIST OF LINES: no program is named here.
-/
import Derived.Test.YtlhocklcfhkbnaaScanPl
import Derived.Test.YtlhocklcfhkbnaaScanPf
namespace Go.Proofs.Ytlhocklcfhkbnaa.Sp
set_option linter.unusedSimpArgs false
set_option linter.unusedVariables false

def sizes : List ByteArray → Nat
  | [] => 0
  | t :: r => t.size + sizes r
theorem size_mem : ∀ {ls : List ByteArray} {t : ByteArray}, t ∈ ls → t.size ≤ sizes ls
  | [], _, h => by cases h
  | a :: r, t, h => by
    rw [sizes]
    rcases List.mem_cons.1 h with rfl | h
    · omega
    · have := size_mem h; omega
theorem tokensF_len : ∀ (ls : List ByteArray) (n : Nat), (tokensF ls n).length ≤ sizes ls
  | [], _ => Nat.le_refl _
  | t :: r, n => by
    rw [tokensF, sizes, List.length_append, List.length_map]
    have := tokF_len t 0
    have := tokensF_len r (n + 1)
    omega
theorem tokensF_drop (ls : List ByteArray) (k n : Nat) (h : k < ls.length) :
    tokensF (ls.drop k) n = (tokF (ls.getD k ByteArray.empty) 0).map (fun x => (n, x)) ++ tokensF (ls.drop (k + 1)) (n + 1) := by
  rw [List.drop_eq_getElem_cons h, tokensF, List.getD_eq_getElem?_getD, List.getElem?_eq_getElem h]; rfl
theorem extract_size (s : ByteArray) (a b : Nat) : (s.extract a b).size = min b s.size - a := ByteArray.size_extract ..
theorem linesF_sizes (s : ByteArray) : ∀ (f st i : Nat), s.size - i ≤ f → st ≤ i → i ≤ s.size → sizes (linesF s st i) ≤ s.size - st
  | 0, st, i, hf, h1, h2 => by
    rw [linesF_end s st i (by omega)]
    split
    · simp only [sizes, extract_size]; omega
    · simp only [sizes]; omega
  | f + 1, st, i, hf, h1, h2 => by
    by_cases hlt : i < s.size
    · by_cases hc : s[i]'hlt = 10
      · rw [linesF_nl s st i hlt hc]
        have := linesF_sizes s f (i + 1) (i + 1) (by omega) (by omega) (by omega)
        simp only [sizes, extract_size]; omega
      · rw [linesF_no s st i hlt hc]
        exact linesF_sizes s f st (i + 1) (by omega) (by omega) (by omega)
    · rw [linesF_end s st i hlt]
      split
      · simp only [sizes, extract_size]; omega
      · simp only [sizes]; omega
theorem linesL_sizes (s : ByteArray) : sizes (linesL s) ≤ 65536 := by
  by_cases h : errL s = 0
  · by_cases h6 : 65536 < s.size
    · rw [errL_long h6] at h; cases h
    · rw [linesL_ok h]
      have := linesF_sizes s s.size 0 0 (by omega) (by omega) (by omega)
      omega
  · rw [linesL_no h]; simp [sizes]
/-- P103: all tokens of s. -/
def toksL (s : ByteArray) : List (Nat × ByteArray) := tokensF (linesL s) 1
theorem toksL_len (s : ByteArray) : (toksL s).length ≤ 65536 := Nat.le_trans (tokensF_len _ _) (linesL_sizes s)
theorem toksL_no {s : ByteArray} (h : errL s ≠ 0) : toksL s = [] := by unfold toksL; rw [linesL_no h]; rfl
end Go.Proofs.Ytlhocklcfhkbnaa.Sp
