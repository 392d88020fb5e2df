/-
  PLAIN FACTS ON MASKS AND PREFIXES, in natural numbers: no program is named here. 'blk k' is the number of addresses of a prefix of length k; 'mk k' is the mask; 'cl n' brings a length into 0 to 32.
-/
import Derived.Lib.Bytealg
import Derived.Lib.BitFns
import Derived.Laws.BitsAllLaws
namespace Go.Proofs.Ytlhbfpapmolohaa.Am
set_option linter.unusedSimpArgs false
set_option linter.unusedVariables false

def cl (n : Int) : Nat := (max 0 (min n 32)).toNat
def blk (k : Nat) : Nat := 2 ^ (32 - k)
def mk (k : Nat) : Nat := 4294967296 - blk k

theorem cl_le (n : Int) : cl n ≤ 32 := by unfold cl; omega
theorem cl_of (n : Int) (h0 : 0 ≤ n) (h1 : n ≤ 32) : (cl n : Int) = n := by unfold cl; omega
theorem cl_nat (k : Nat) (h : k ≤ 32) : cl (k : Int) = k := by unfold cl; omega
theorem blk_pos (k : Nat) : 0 < blk k := Nat.pow_pos (by decide)
theorem blk_le (k : Nat) : blk k ≤ 4294967296 := by
  unfold blk
  calc 2 ^ (32 - k) ≤ 2 ^ 32 := Nat.pow_le_pow_right (by decide) (by omega)
    _ = 4294967296 := by decide
theorem blk_succ (k : Nat) (h : k < 32) : blk k = 2 * blk (k + 1) := by
  unfold blk; rw [show 32 - k = (32 - (k + 1)) + 1 by omega, Nat.pow_succ]; omega
theorem blk_add (k : Nat) (h : k ≤ 32) : 2 ^ k * blk k = 4294967296 := by
  unfold blk; rw [← Nat.pow_add, show k + (32 - k) = 32 by omega]
theorem blk_dvd (j k : Nat) (h : j ≤ k) (hk : k ≤ 32) : blk k ∣ blk j := by
  unfold blk; exact Nat.pow_dvd_pow 2 (by omega)
theorem blk_dvd_all (k : Nat) : blk k ∣ 4294967296 := by
  unfold blk; rw [show (4294967296 : Nat) = 2 ^ 32 by decide]; exact Nat.pow_dvd_pow 2 (by omega)
theorem blk_32 : blk 32 = 1 := by decide
theorem mk_lt (k : Nat) : mk k < 4294967296 := by unfold mk; have := blk_pos k; omega
theorem mk_inj (j k : Nat) (hj : j ≤ 32) (hk : k ≤ 32) (h : mk j = mk k) : j = k := by
  have e : blk j = blk k := by unfold mk at h; have := blk_le j; have := blk_le k; omega
  unfold blk at e
  have := Nat.pow_right_inj (Nat.lt_succ_self 1) |>.1 e
  omega

/-- What the shift gives. -/
theorem mk_shift (k : Nat) (h : k ≤ 32) : (4294967295 * 2 ^ (32 - (k : Int)).toNat % 4294967296 : Int) = (mk k : Nat) := by
  have e : (32 - (k : Int)).toNat = 32 - k := by omega
  rw [e]
  have e2 : ((2 : Int) ^ (32 - k)) = ((blk k : Nat) : Int) := by unfold blk; simp
  rw [e2]
  have h1 := blk_pos k
  have h2 := blk_le k
  have e3 : (4294967295 * (blk k : Int)) = (mk k : Nat) + 4294967296 * ((blk k : Int) - 1) := by
    unfold mk; omega
  rw [e3, Int.add_mul_emod_self_left]
  have := mk_lt k
  omega

theorem mk_shift' (k : Nat) (h : k ≤ 32) : (4294967295 * 2 ^ (32 - k) % 4294967296 : Int) = (mk k : Nat) := by
  have := mk_shift k h
  rwa [show (32 - (k : Int)).toNat = 32 - k by omega] at this

theorem testBit_low (j i : Nat) : (2 ^ j - 1).testBit i = decide (i < j) := Nat.testBit_two_pow_sub_one j i
theorem testBit_high (m j i : Nat) : ((2 ^ m - 1) * 2 ^ j).testBit i = (decide (j ≤ i) && decide (i - j < m)) := by
  rw [Nat.mul_comm, Nat.testBit_two_pow_mul, testBit_low]
theorem mk_eq (k : Nat) (h : k ≤ 32) : mk k = (2 ^ k - 1) * 2 ^ (32 - k) := by
  have := blk_add k h
  unfold mk
  rw [Nat.sub_mul, Nat.one_mul, ← this]; rfl

/-- a & mask. -/
theorem and_mk (a k : Nat) (ha : a < 4294967296) (h : k ≤ 32) : a &&& mk k = a / blk k * blk k := by
  rw [mk_eq k h]
  apply Nat.eq_of_testBit_eq
  intro i
  rw [Nat.testBit_and, testBit_high]
  unfold blk
  rw [Nat.mul_comm (a / _), Nat.testBit_two_pow_mul, Nat.testBit_div_two_pow]
  by_cases h1 : 32 - k ≤ i
  · rw [show i - (32 - k) + (32 - k) = i by omega]
    by_cases h2 : i < 32
    · have : i - (32 - k) < k := by omega
      simp [h1, this]
    · have : a.testBit i = false := Nat.testBit_lt_two_pow (Nat.lt_of_lt_of_le ha (by rw [show (4294967296 : Nat) = 2 ^ 32 by decide]; exact Nat.pow_le_pow_right (by decide) (by omega)))
      rw [this]; simp
  · simp [h1]
/-- a &^ mask. -/
theorem andNot_mk (a k : Nat) (ha : a < 4294967296) (h : k ≤ 32) : a &&& (4294967295 - mk k) = a % blk k := by
  have e : 4294967295 - mk k = 2 ^ (32 - k) - 1 := by
    have := blk_pos k; have := blk_le k
    unfold mk
    show _ = blk k - 1
    omega
  rw [e, Nat.and_two_pow_sub_one_eq_mod]; rfl
/-- a | ^mask. -/
theorem or_low (a k : Nat) : a ||| (blk k - 1) = a / blk k * blk k + (blk k - 1) := by
  unfold blk
  rw [Nat.mul_comm (a / _), show 2 ^ (32 - k) * (a / 2 ^ (32 - k)) = (a / 2 ^ (32 - k)) <<< (32 - k) by rw [Nat.shiftLeft_eq, Nat.mul_comm], Nat.shiftLeft_add_eq_or_of_lt (by have : 0 < 2 ^ (32 - k) := Nat.pow_pos (by decide); omega)]
  apply Nat.eq_of_testBit_eq
  intro i
  rw [Nat.testBit_or, Nat.testBit_or, testBit_low, Nat.testBit_shiftLeft, Nat.testBit_div_two_pow]
  by_cases h1 : 32 - k ≤ i
  · rw [show i - (32 - k) + (32 - k) = i by omega]; simp [h1]
  · have : i < 32 - k := by omega
    simp [this]
/-- One bit more. -/
theorem mk_or (k : Nat) (h : k < 32) : mk k ||| 2 ^ (31 - k) = mk (k + 1) := by
  apply Nat.eq_of_testBit_eq
  intro i
  rw [Nat.testBit_or, mk_eq k (by omega), mk_eq (k + 1) (by omega), testBit_high, testBit_high, Nat.testBit_two_pow]
  rw [Bool.eq_iff_iff]
  simp only [Bool.or_eq_true, Bool.and_eq_true, decide_eq_true_eq]
  omega
theorem mk_zero : mk 0 = 0 := by decide

/-! ### The length of a mask -/
def lenF (m : Nat) : Option Nat := (List.range 33).find? fun k => mk k == m
def lenB (m : Nat) : Bool := (lenF m).isSome
def lenV (m : Nat) : Nat := (lenF m).getD 0
theorem lenF_mk (k : Nat) (h : k ≤ 32) : lenF (mk k) = some k := by
  unfold lenF
  cases e : (List.range 33).find? fun j => mk j == mk k with
  | none =>
    have := List.find?_eq_none.1 e k (by simp; omega)
    simp at this
  | some j =>
    have h1 := List.find?_some e
    have h2 := List.mem_of_find?_eq_some e
    simp at h1 h2
    rw [mk_inj j k (by omega) h h1]
theorem lenF_no (m : Nat) (h : ∀ k, k ≤ 32 → mk k ≠ m) : lenF m = none := by
  unfold lenF
  rw [List.find?_eq_none]
  intro k hk
  simp at hk
  simpa using h k (by omega)
theorem lenV_le (m : Nat) : lenV m ≤ 32 := by
  unfold lenV
  cases e : lenF m with
  | none => simp
  | some j =>
    unfold lenF at e
    have := List.mem_of_find?_eq_some e
    simp at this
    simp; omega

theorem bitLen_ones : ∀ j : Fin 33, Lib.bitLen (2 ^ j.val - 1) = j.val := by decide +kernel
/-- As many leading ones as m has. -/
def ones (m : Nat) : Nat := 32 - Lib.bitLen (4294967295 - m)
theorem ones_le (m : Nat) : ones m ≤ 32 := by unfold ones; omega
theorem bitLen_32 (m : Nat) : Lib.bitLen (4294967295 - m) ≤ 32 := Lib.bitLen_le _ 32 (by decide) (by rw [show (2 : Nat) ^ 32 = 4294967296 by decide]; omega)
theorem ones_int (m : Nat) : (32 - (Lib.bitLen (4294967295 - m) : Int)) = (ones m : Nat) := by
  have := bitLen_32 m
  unfold ones; omega
theorem ones_mk (k : Nat) (h : k ≤ 32) : ones (mk k) = k := by
  have e : 4294967295 - mk k = 2 ^ (32 - k) - 1 := by
    have := blk_pos k; have := blk_le k
    unfold mk
    show _ = blk k - 1
    omega
  unfold ones
  rw [e, bitLen_ones ⟨32 - k, by omega⟩]
  simp; omega
theorem len_yes (m : Nat) (h : mk (ones m) = m) : lenV m = ones m ∧ lenB m = true := by
  have := lenF_mk (ones m) (ones_le m)
  rw [h] at this
  unfold lenV lenB
  rw [this]; exact ⟨rfl, rfl⟩
theorem len_no (m : Nat) (h : mk (ones m) ≠ m) : lenV m = 0 ∧ lenB m = false := by
  have := lenF_no m fun k hk e => h (by rw [← e, ones_mk k hk])
  unfold lenV lenB
  rw [this]; exact ⟨rfl, rfl⟩
theorem len_mk (k : Nat) (h : k ≤ 32) : lenV (mk k) = k ∧ lenB (mk k) = true := by
  have := lenF_mk k h
  unfold lenV lenB
  rw [this]; exact ⟨rfl, rfl⟩
theorem not_u32 (m : Nat) (hm : m < 4294967296) : bits .xor .u32 IntKind.u32.max (m : Int) = ((4294967295 - m : Nat) : Int) := by
  show IntKind.u32.wrap ((BitVec.ofInt 32 4294967295 ^^^ BitVec.ofInt 32 (m : Int)).toNat : Int) = _
  have h1 : BitVec.ofInt 32 4294967295 = BitVec.allOnes 32 := by decide
  rw [h1, BitVec.allOnes_xor, BitVec.toNat_not, ofInt_u32 m (by omega), IntKind.wrap_u32']
  omega
/-- None of the first i lengths fits. -/
def noneTo (m i : Nat) : Prop := ∀ k, k < i → mk k ≠ m
theorem none_all (m : Nat) (h : noneTo m 33) : lenV m = 0 ∧ lenB m = false := by
  have := lenF_no m fun k hk => h k (by omega)
  unfold lenV lenB
  rw [this]; exact ⟨rfl, rfl⟩
end Go.Proofs.Ytlhbfpapmolohaa.Am
