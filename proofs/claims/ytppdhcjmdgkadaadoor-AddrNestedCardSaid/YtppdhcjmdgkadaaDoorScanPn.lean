/-
  PLAIN FACTS ON DECIMAL NUMBERS: no program is named here.
-/
import Derived.Test.YtppdhcjmdgkadaaDoorScanP
namespace Go.Proofs.YtppdhcjmdgkadaaDoor.Sp
set_option linter.unusedSimpArgs false
set_option linter.unusedVariables false

def valL (l : List UInt8) : Int := l.foldl (fun a c => 10 * a + ((c.toNat : Int) - 48)) 0
def numOk (l : List UInt8) : Bool := decide (1 ≤ l.length) && decide (l.length ≤ 10) && (decide (l.length = 1) || !(l.head? == some 48)) && l.all digitB
/-- P104: the number and whether it is one. -/
def numB (l : List UInt8) (a b : Int) : Bool := numOk l && decide (a ≤ valL l) && decide (valL l ≤ b)
def numV (l : List UInt8) (a b : Int) : Int := if numB l a b then valL l else 0

def valTo (s : ByteArray) (k : Nat) : Int := valL (s.data.toList.take k)
def digTo (s : ByteArray) (k : Nat) : Bool := (s.data.toList.take k).all digitB
theorem valTo_zero (s : ByteArray) : valTo s 0 = 0 := rfl
theorem digTo_zero (s : ByteArray) : digTo s 0 = true := rfl
theorem valTo_succ (s : ByteArray) (k : Nat) (h : k < s.size) : valTo s (k + 1) = 10 * valTo s k + (((s[k]'h).toNat : Int) - 48) := by
  unfold valTo valL; rw [take_data s k h, List.foldl_append]; rfl
theorem digTo_succ (s : ByteArray) (k : Nat) (h : k < s.size) : digTo s (k + 1) = (digTo s k && digitB (s[k]'h)) := by
  unfold digTo; rw [take_data s k h]; simp
theorem digTo_no (s : ByteArray) (k j : Nat) (h : digTo s k = false) (hk : k ≤ j) (hj : j ≤ s.size) : digTo s j = false := by
  induction j with
  | zero => have : k = 0 := by omega
            subst this; exact h
  | succ j ih =>
    by_cases e : k = j + 1
    · rw [← e]; exact h
    · rw [digTo_succ s j (by omega), ih (by omega) (by omega)]; rfl
theorem valTo_bd (s : ByteArray) : ∀ k, k ≤ s.size → digTo s k = true → 0 ≤ valTo s k ∧ valTo s k + 1 ≤ 10 ^ k
  | 0, _, _ => by rw [valTo_zero]; simp
  | k + 1, hk, hd => by
    rw [digTo_succ s k (by omega), Bool.and_eq_true] at hd
    have ih := valTo_bd s k (by omega) hd.1
    have hc := hd.2
    rw [digit_int, decide_eq_true_eq] at hc
    rw [valTo_succ s k (by omega), Int.pow_succ]
    omega
theorem pow_le (k : Nat) (h : k ≤ 10) : (10 : Int) ^ k ≤ 10000000000 := by
  have : k = 0 ∨ k = 1 ∨ k = 2 ∨ k = 3 ∨ k = 4 ∨ k = 5 ∨ k = 6 ∨ k = 7 ∨ k = 8 ∨ k = 9 ∨ k = 10 := by omega
  rcases this with rfl | rfl | rfl | rfl | rfl | rfl | rfl | rfl | rfl | rfl | rfl <;> decide
theorem pow_le' (k : Nat) (h : k ≤ 9) : (10 : Int) ^ k ≤ 1000000000 := by
  have : k = 0 ∨ k = 1 ∨ k = 2 ∨ k = 3 ∨ k = 4 ∨ k = 5 ∨ k = 6 ∨ k = 7 ∨ k = 8 ∨ k = 9 := by omega
  rcases this with rfl | rfl | rfl | rfl | rfl | rfl | rfl | rfl | rfl | rfl <;> decide
theorem valTo_le (s : ByteArray) (k : Nat) (hk : k ≤ s.size) (h9 : k ≤ 9) (hd : digTo s k = true) : 0 ≤ valTo s k ∧ valTo s k ≤ 999999999 := by
  have := valTo_bd s k hk hd; have := pow_le' k h9; omega
theorem valTo_le10 (s : ByteArray) (k : Nat) (hk : k ≤ s.size) (h9 : k ≤ 10) (hd : digTo s k = true) : 0 ≤ valTo s k ∧ valTo s k ≤ 9999999999 := by
  have := valTo_bd s k hk hd; have := pow_le k h9; omega

theorem head_data (s : ByteArray) (h : 0 < s.size) : s.data.toList.head? = some (s[0]'h) := by
  rw [List.head?_eq_getElem?, get_data s 0 h]
theorem numB_short (s : ByteArray) (a b : Int) (h : s.size = 0) : numB s.data.toList a b = false := by
  unfold numB numOk; rw [len_data, h]; rfl
theorem numB_long (s : ByteArray) (a b : Int) (h : 10 < s.size) : numB s.data.toList a b = false := by
  unfold numB numOk; rw [len_data]
  have : decide (s.size ≤ 10) = false := by simp; omega
  simp [this]
theorem numB_zero (s : ByteArray) (a b : Int) (h : 1 < s.size) (hz : (s[0]'(by omega)) = 48) : numB s.data.toList a b = false := by
  unfold numB numOk; rw [len_data, head_data s (by omega), hz]
  have : decide (s.size = 1) = false := by simp; omega
  simp [this]
theorem numB_dig (s : ByteArray) (a b : Int) (h : digTo s s.size = false) : numB s.data.toList a b = false := by
  have : s.data.toList.all digitB = false := by
    rw [← h]; unfold digTo; rw [List.take_of_length_le (by simp)]
  unfold numB numOk; rw [this]; simp
theorem numB_ok (s : ByteArray) (a b : Int) (h0 : 1 ≤ s.size) (h1 : s.size ≤ 10) (hz : s.size = 1 ∨ (s[0]'(by omega)) ≠ 48) (hd : digTo s s.size = true) :
    numB s.data.toList a b = (decide (a ≤ valTo s s.size) && decide (valTo s s.size ≤ b)) := by
  have e1 : s.data.toList.all digitB = true := by
    rw [← hd]; unfold digTo; rw [List.take_of_length_le (by simp)]
  have e2 : valTo s s.size = valL s.data.toList := by unfold valTo; rw [List.take_of_length_le (by simp)]
  unfold numB numOk; rw [e1, e2, len_data, head_data s (by omega)]
  have e3 : (decide (s.size = 1) || !(some (s[0]'(by omega)) == some (48 : UInt8))) = true := by
    rcases hz with h | h
    · simp [h]
    · simp [h]
  rw [e3]
  have e4 : decide (1 ≤ s.size) = true := by simp; omega
  have e5 : decide (s.size ≤ 10) = true := by simp; omega
  rw [e4, e5]; rfl
theorem numV_no {l : List UInt8} {a b : Int} (h : numB l a b = false) : numV l a b = 0 := by unfold numV; rw [h]; rfl
theorem numV_yes (s : ByteArray) {a b : Int} (h : numB s.data.toList a b = true) : numV s.data.toList a b = valTo s s.size := by
  unfold numV valTo; rw [h, List.take_of_length_le (by simp)]; rfl
end Go.Proofs.YtppdhcjmdgkadaaDoor.Sp
