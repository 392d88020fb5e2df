/-
  PLAIN FACTS ON THE DECIMAL FORM OF A NUMBER: it is read back. No program is named here.
-/
import Derived.Test.YtppdhcjmdgkadaaDoorScanPn
import Derived.Lib.Strings
namespace Go.Proofs.YtppdhcjmdgkadaaDoor.Sp
set_option linter.unusedSimpArgs false
set_option linter.unusedVariables false

def dgt (k : Nat) : ByteArray := (ByteArray.mk #[48, 49, 50, 51, 52, 53, 54, 55, 56, 57]).extract k (k + 1)
theorem dgt_data (k : Nat) (h : k ≤ 9) : (dgt k).data.toList = [48 + k.toUInt8] := by
  have hc : k = 0 ∨ k = 1 ∨ k = 2 ∨ k = 3 ∨ k = 4 ∨ k = 5 ∨ k = 6 ∨ k = 7 ∨ k = 8 ∨ k = 9 := by omega
  rcases hc with rfl | rfl | rfl | rfl | rfl | rfl | rfl | rfl | rfl | rfl <;> rfl
theorem dig_val (k : Nat) (h : k ≤ 9) : ((48 + k.toUInt8 : UInt8).toNat : Int) = 48 + k := by
  have hc : k = 0 ∨ k = 1 ∨ k = 2 ∨ k = 3 ∨ k = 4 ∨ k = 5 ∨ k = 6 ∨ k = 7 ∨ k = 8 ∨ k = 9 := by omega
  rcases hc with rfl | rfl | rfl | rfl | rfl | rfl | rfl | rfl | rfl | rfl <;> rfl

def decF : Nat → Nat → ByteArray
  | 0, n => dgt (n % 10)
  | f + 1, n => if 9 < n then decF f (n / 10) ++ dgt (n % 10) else dgt (n % 10)
def digL : Nat → Nat → List UInt8
  | 0, n => [48 + (n % 10).toUInt8]
  | f + 1, n => if 9 < n then digL f (n / 10) ++ [48 + (n % 10).toUInt8] else [48 + (n % 10).toUInt8]
theorem decF_data : ∀ (f n : Nat), (decF f n).data.toList = digL f n
  | 0, n => dgt_data _ (by omega)
  | f + 1, n => by
    rw [decF, digL]
    split
    · rw [ByteArray.data_append, Array.toList_append, decF_data f, dgt_data _ (by omega)]
    · exact dgt_data _ (by omega)
theorem digL_len : ∀ (f n : Nat), 1 ≤ (digL f n).length ∧ (digL f n).length ≤ f + 1
  | 0, n => ⟨Nat.le_refl _, Nat.le_refl _⟩
  | f + 1, n => by
    rw [digL]
    split
    · have := digL_len f (n / 10)
      rw [List.length_append]; simp only [List.length_cons, List.length_nil]; omega
    · simp
theorem dig_digit (k : Nat) (h : k ≤ 9) : digitB (48 + k.toUInt8) = true := by
  rw [digit_int, dig_val k h, decide_eq_true_eq]; omega
theorem digL_all : ∀ (f n : Nat), (digL f n).all digitB = true
  | 0, n => by rw [digL]; simp only [List.all_cons, List.all_nil, Bool.and_true]; exact dig_digit _ (by omega)
  | f + 1, n => by
    rw [digL]
    split
    · rw [List.all_append, digL_all f]; simp only [List.all_cons, List.all_nil, Bool.and_true, Bool.true_and]; exact dig_digit _ (by omega)
    · simp only [List.all_cons, List.all_nil, Bool.and_true]; exact dig_digit _ (by omega)
theorem valL_snoc (l : List UInt8) (c : UInt8) : valL (l ++ [c]) = 10 * valL l + ((c.toNat : Int) - 48) := by unfold valL; rw [List.foldl_append]; rfl
theorem valL_one (c : UInt8) : valL [c] = (c.toNat : Int) - 48 := by unfold valL; simp
theorem digL_val : ∀ (f n : Nat), n < 10 ^ (f + 1) → valL (digL f n) = n
  | 0, n, h => by
    rw [digL, valL_one, dig_val _ (by omega)]; simp at h; omega
  | f + 1, n, h => by
    rw [digL]
    split
    · rw [valL_snoc, digL_val f (n / 10) (by rw [Nat.pow_succ] at h; omega), dig_val _ (by omega)]; omega
    · rw [valL_one, dig_val _ (by omega)]; omega
theorem digL_head : ∀ (f n : Nat), 0 < n → n < 10 ^ (f + 1) → (digL f n).head? ≠ some 48
  | 0, n, h0, h => by
    rw [digL]
    simp at h
    have hc : n = 1 ∨ n = 2 ∨ n = 3 ∨ n = 4 ∨ n = 5 ∨ n = 6 ∨ n = 7 ∨ n = 8 ∨ n = 9 := by omega
    rcases hc with rfl | rfl | rfl | rfl | rfl | rfl | rfl | rfl | rfl <;> decide
  | f + 1, n, h0, h => by
    rw [digL]
    split
    · have hl := digL_len f (n / 10)
      have ih := digL_head f (n / 10) (by omega) (by rw [Nat.pow_succ] at h; omega)
      cases e : digL f (n / 10) with
      | nil => rw [e] at hl; simp at hl
      | cons c r => rw [e] at ih; simpa using ih
    · have hc : n = 1 ∨ n = 2 ∨ n = 3 ∨ n = 4 ∨ n = 5 ∨ n = 6 ∨ n = 7 ∨ n = 8 ∨ n = 9 := by omega
      rcases hc with rfl | rfl | rfl | rfl | rfl | rfl | rfl | rfl | rfl <;> decide
theorem digL_zero (f : Nat) : digL f 0 = [48] := by cases f <;> rfl
theorem numOk_dig (n : Nat) (h : n < 10000000000) : numOk (digL 9 n) = true := by
  have hl := digL_len 9 n
  have e1 : decide (1 ≤ (digL 9 n).length) = true := by simp; omega
  have e2 : decide ((digL 9 n).length ≤ 10) = true := by simp; omega
  have e3 : (decide ((digL 9 n).length = 1) || !((digL 9 n).head? == some 48)) = true := by
    by_cases h0 : n = 0
    · subst h0; rw [digL_zero]; rfl
    · have := digL_head 9 n (by omega) h
      rw [Bool.or_eq_true]; right
      simpa using this
  unfold numOk; rw [e1, e2, e3, digL_all]; rfl
theorem dec_num (n : Nat) (h : n < 10000000000) : numB (decF 9 n).data.toList 0 n = true ∧ numV (decF 9 n).data.toList 0 n = n := by
  have hv := digL_val 9 n h
  have hb : numB (decF 9 n).data.toList 0 n = true := by
    rw [decF_data]; unfold numB; rw [numOk_dig n h, hv]; simp
  refine ⟨hb, ?_⟩
  unfold numV; rw [hb, decF_data, hv]; rfl
theorem dec_less (n : Nat) (h : n < 10000000000) (b : Int) : numB (decF 9 n).data.toList ((n : Int) + 1) b = false := by
  have hv := digL_val 9 n h
  rw [decF_data]; unfold numB; rw [hv]
  have : decide ((n : Int) + 1 ≤ n) = false := by simp; omega
  rw [this]; simp
theorem dec_zero (n : Nat) (a b : Int) : numB ((ByteArray.mk #[48] ++ decF 9 n)).data.toList a b = false := by
  have hl := digL_len 9 n
  rw [ByteArray.data_append, Array.toList_append, decF_data]
  unfold numB numOk
  have e : decide (([48] ++ digL 9 n : List UInt8).length = 1) = false := by simp; intro e; rw [e] at hl; simp at hl
  have e2 : (([48] ++ digL 9 n : List UInt8).head? == some 48) = true := by simp
  have e3 : decide (((ByteArray.mk #[48]).data.toList ++ digL 9 n : List UInt8).length = 1) = false := e
  have e4 : (((ByteArray.mk #[48]).data.toList ++ digL 9 n : List UInt8).head? == some 48) = true := e2
  rw [e3, e4]; simp
theorem dec_size (f n : Nat) : (decF f n).size ≤ f + 1 := by
  rw [← len_data, decF_data]; exact (digL_len f n).2
end Go.Proofs.YtppdhcjmdgkadaaDoor.Sp
