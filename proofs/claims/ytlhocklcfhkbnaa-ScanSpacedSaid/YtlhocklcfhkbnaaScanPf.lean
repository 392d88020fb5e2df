/-
  PLAIN FACTS ON FIELDS AND TOKENS OF ONE LINE: no program is named here.
-/
import Derived.Test.YtlhocklcfhkbnaaScanP
namespace Go.Proofs.Ytlhocklcfhkbnaa.Sp
set_option linter.unusedSimpArgs false
set_option linter.unusedVariables false

/-- P102: the fields of s from position i on. -/
def fieldsF (s : ByteArray) (c : UInt8) (i : Nat) : List ByteArray :=
  if h : i < s.size then
    if hb : blankB (s[i]'h) = true then fieldsF s c (i + 1)
    else if s[i]'h = c then []
    else s.extract i (endAt blankB s.data.toList i) :: fieldsF s c (endAt blankB s.data.toList i)
  else []
termination_by s.size - i
decreasing_by
  · omega
  · have := endAt_gt blankB s i h (by simpa using hb); omega

theorem fieldsF_end (s : ByteArray) (c : UInt8) (i : Nat) (h : ¬ i < s.size) : fieldsF s c i = [] := by rw [fieldsF, dif_neg h]
theorem fieldsF_blank (s : ByteArray) (c : UInt8) (i : Nat) (h : i < s.size) (hb : blankB (s[i]'h) = true) : fieldsF s c i = fieldsF s c (i + 1) := by
  rw [fieldsF, dif_pos h, dif_pos hb]
theorem fieldsF_comment (s : ByteArray) (c : UInt8) (i : Nat) (h : i < s.size) (hb : blankB (s[i]'h) = false) (hc : s[i]'h = c) : fieldsF s c i = [] := by
  rw [fieldsF, dif_pos h, dif_neg (by simp [hb]), if_pos hc]
theorem fieldsF_word (s : ByteArray) (c : UInt8) (i : Nat) (h : i < s.size) (hb : blankB (s[i]'h) = false) (hc : ¬ s[i]'h = c) :
    fieldsF s c i = s.extract i (endAt blankB s.data.toList i) :: fieldsF s c (endAt blankB s.data.toList i) := by
  rw [fieldsF, dif_pos h, dif_neg (by simp [hb]), if_neg hc]
theorem fieldsF_fuel (s : ByteArray) (c : UInt8) : ∀ (f i : Nat), s.size - i ≤ f → (fieldsF s c i).length ≤ s.size - i
  | 0, i, h => by rw [fieldsF_end s c i (by omega)]; simp
  | f + 1, i, h => by
    by_cases hi : i < s.size
    · by_cases hb : blankB (s[i]'hi) = true
      · rw [fieldsF_blank s c i hi hb]
        have := fieldsF_fuel s c f (i + 1) (by omega)
        omega
      · have hb' : blankB (s[i]'hi) = false := by simpa using hb
        by_cases hc : s[i]'hi = c
        · rw [fieldsF_comment s c i hi hb' hc]; simp
        · have hg := endAt_gt blankB s i hi hb'
          have := fieldsF_fuel s c f (endAt blankB s.data.toList i) (by omega)
          rw [fieldsF_word s c i hi hb' hc, List.length_cons]
          omega
    · rw [fieldsF_end s c i hi]; simp
theorem fieldsF_len (s : ByteArray) (c : UInt8) (i : Nat) : (fieldsF s c i).length ≤ s.size - i := fieldsF_fuel s c _ i (Nat.le_refl _)

/-- P103: the texts of the tokens of the line t from position i on. -/
def tokF (t : ByteArray) (i : Nat) : List ByteArray :=
  if h : i < t.size then
    if t[i]'h = 35 then []
    else if blankB (t[i]'h) = true then tokF t (i + 1)
    else if markB (t[i]'h) = true then t.extract i (i + 1) :: tokF t (i + 1)
    else if hs : stopB (t[i]'h) = true then []
    else t.extract i (endAt stopB t.data.toList i) :: tokF t (endAt stopB t.data.toList i)
  else []
termination_by t.size - i
decreasing_by
  · omega
  · omega
  · have := endAt_gt stopB t i h (by simpa using hs); omega

theorem stop_false {c : UInt8} (h1 : ¬ c = 35) (h2 : blankB c = false) (h3 : markB c = false) : stopB c = false := by
  unfold stopB; rw [h2, h3]; simpa using h1
theorem tokF_end (t : ByteArray) (i : Nat) (h : ¬ i < t.size) : tokF t i = [] := by rw [tokF, dif_neg h]
theorem tokF_comment (t : ByteArray) (i : Nat) (h : i < t.size) (hc : t[i]'h = 35) : tokF t i = [] := by rw [tokF, dif_pos h, if_pos hc]
theorem tokF_blank (t : ByteArray) (i : Nat) (h : i < t.size) (hc : ¬ t[i]'h = 35) (hb : blankB (t[i]'h) = true) : tokF t i = tokF t (i + 1) := by
  rw [tokF, dif_pos h, if_neg hc, if_pos hb]
theorem tokF_mark (t : ByteArray) (i : Nat) (h : i < t.size) (hc : ¬ t[i]'h = 35) (hb : blankB (t[i]'h) = false) (hm : markB (t[i]'h) = true) : tokF t i = t.extract i (i + 1) :: tokF t (i + 1) := by
  rw [tokF, dif_pos h, if_neg hc, if_neg (by simp [hb]), if_pos hm]
theorem tokF_word (t : ByteArray) (i : Nat) (h : i < t.size) (hc : ¬ t[i]'h = 35) (hb : blankB (t[i]'h) = false) (hm : markB (t[i]'h) = false) :
    tokF t i = t.extract i (endAt stopB t.data.toList i) :: tokF t (endAt stopB t.data.toList i) := by
  rw [tokF, dif_pos h, if_neg hc, if_neg (by simp [hb]), if_neg (by simp [hm]), dif_neg (by simp [stop_false hc hb hm])]
theorem tokF_fuel (t : ByteArray) : ∀ (f i : Nat), t.size - i ≤ f → (tokF t i).length ≤ t.size - i
  | 0, i, h => by rw [tokF_end t i (by omega)]; simp
  | f + 1, i, h => by
    by_cases hi : i < t.size
    · by_cases hc : t[i]'hi = 35
      · rw [tokF_comment t i hi hc]; simp
      · by_cases hb : blankB (t[i]'hi) = true
        · rw [tokF_blank t i hi hc hb]
          have := tokF_fuel t f (i + 1) (by omega)
          omega
        · have hb' : blankB (t[i]'hi) = false := by simpa using hb
          by_cases hm : markB (t[i]'hi) = true
          · rw [tokF_mark t i hi hc hb' hm, List.length_cons]
            have := tokF_fuel t f (i + 1) (by omega)
            omega
          · have hm' : markB (t[i]'hi) = false := by simpa using hm
            have hg := endAt_gt stopB t i hi (stop_false hc hb' hm')
            have := tokF_fuel t f (endAt stopB t.data.toList i) (by omega)
            rw [tokF_word t i hi hc hb' hm', List.length_cons]
            omega
    · rw [tokF_end t i hi]; simp
theorem tokF_len (t : ByteArray) (i : Nat) : (tokF t i).length ≤ t.size - i := tokF_fuel t _ i (Nat.le_refl _)

/-- The tokens of the lines ls, the first of which has the number n. -/
def tokensF : List ByteArray → Nat → List (Nat × ByteArray)
  | [], _ => []
  | t :: r, n => (tokF t 0).map (fun x => (n, x)) ++ tokensF r (n + 1)

theorem u8_ne {c d : UInt8} (h : ¬ c = d) : ((c.toNat : Int) == (d.toNat : Int)) = false := by rw [u8_beq]; simpa using h
theorem u8_is {c d : UInt8} (h : c = d) : ((c.toNat : Int) == (d.toNat : Int)) = true := by rw [h]; simp
end Go.Proofs.Ytlhocklcfhkbnaa.Sp
