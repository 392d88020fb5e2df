/-
  PLAIN FACTS ON LINES: no program is named here.
-/
import Derived.Test.YtlhocklcfhkbnaaScanP
namespace Go.Proofs.Ytlhocklcfhkbnaa.Sp
set_option linter.unusedSimpArgs false
set_option linter.unusedVariables false

/-- The lines of s from position i on, where the line at hand began at st. -/
def linesF (s : ByteArray) (st i : Nat) : List ByteArray :=
  if h : i < s.size then
    if s[i] = 10 then s.extract st i :: linesF s (i + 1) (i + 1) else linesF s st (i + 1)
  else if st < s.size then [s.extract st s.size] else []
termination_by s.size - i

theorem linesF_nl (s : ByteArray) (st i : Nat) (h : i < s.size) (hc : s[i]'h = 10) : linesF s st i = s.extract st i :: linesF s (i + 1) (i + 1) := by
  rw [linesF, dif_pos h, if_pos hc]
theorem linesF_no (s : ByteArray) (st i : Nat) (h : i < s.size) (hc : ¬ s[i]'h = 10) : linesF s st i = linesF s st (i + 1) := by
  rw [linesF, dif_pos h, if_neg hc]
theorem linesF_end (s : ByteArray) (st i : Nat) (h : ¬ i < s.size) : linesF s st i = if st < s.size then [s.extract st s.size] else [] := by
  rw [linesF, dif_neg h]

def textTo (s : ByteArray) (k : Nat) : Bool := (s.data.toList.take k).all textB
theorem textTo_zero (s : ByteArray) : textTo s 0 = true := rfl
theorem textTo_succ (s : ByteArray) (k : Nat) (h : k < s.size) : textTo s (k + 1) = (textTo s k && textB (s[k]'h)) := by
  unfold textTo; rw [take_data s k h]; simp
theorem textTo_no (s : ByteArray) (k j : Nat) (h : textTo s k = false) (hk : k ≤ j) (hj : j ≤ s.size) : textTo s j = false := by
  induction j with
  | zero => have : k = 0 := by omega
            subst this; exact h
  | succ j ih =>
    by_cases e : k = j + 1
    · rw [← e]; exact h
    · rw [textTo_succ s j (by omega), ih (by omega) (by omega)]; rfl

/-- P101: the error, and the lines. -/
def errL (s : ByteArray) : Int := if 65536 < s.size then 7 else if textTo s s.size then 0 else 2
def linesL (s : ByteArray) : List ByteArray := if errL s = 0 then linesF s 0 0 else []
theorem errL_long {s : ByteArray} (h : 65536 < s.size) : errL s = 7 := by unfold errL; rw [if_pos h]
theorem errL_bad {s : ByteArray} (h : ¬ 65536 < s.size) (ht : textTo s s.size = false) : errL s = 2 := by unfold errL; rw [if_neg h, ht]; rfl
theorem errL_ok {s : ByteArray} (h : ¬ 65536 < s.size) (ht : textTo s s.size = true) : errL s = 0 := by unfold errL; rw [if_neg h, ht]; rfl
theorem linesL_no {s : ByteArray} (h : errL s ≠ 0) : linesL s = [] := by unfold linesL; rw [if_neg h]
theorem linesL_ok {s : ByteArray} (h : errL s = 0) : linesL s = linesF s 0 0 := by unfold linesL; rw [if_pos h]
theorem linesF_fuel (s : ByteArray) : ∀ (f st i : Nat), s.size - i ≤ f → (linesF s st i).length ≤ s.size - i + 1
  | 0, st, i, h => by
    rw [linesF_end s st i (by omega)]
    split
    · simp
    · simp
  | f + 1, st, i, h => by
    by_cases hi : i < s.size
    · by_cases hc : s[i]'hi = 10
      · rw [linesF_nl s st i hi hc, List.length_cons]
        have := linesF_fuel s f (i + 1) (i + 1) (by omega)
        omega
      · rw [linesF_no s st i hi hc]
        have := linesF_fuel s f st (i + 1) (by omega)
        omega
    · rw [linesF_end s st i hi]
      split
      · simp
      · simp
theorem linesF_len (s : ByteArray) (st i : Nat) : (linesF s st i).length ≤ s.size - i + 1 := linesF_fuel s _ st i (Nat.le_refl _)
theorem linesL_len (s : ByteArray) : (linesL s).length ≤ 65537 := by
  unfold linesL
  split
  · rename_i h
    have := linesF_len s 0 0
    by_cases h6 : 65536 < s.size
    · rw [errL_long h6] at h; cases h
    · omega
  · exact Nat.zero_le _
end Go.Proofs.Ytlhocklcfhkbnaa.Sp
