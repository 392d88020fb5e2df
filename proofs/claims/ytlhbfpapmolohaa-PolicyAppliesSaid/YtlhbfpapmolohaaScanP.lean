/-
  PLAIN FACTS ON BYTES, FOR THE LAYER scan: no program is named here. The kinds of bytes (blank, mark, stop, text, digit, letter, name) as Bool functions, and what 'Lib.indexByte' says of membership.
-/
import Derived.Lib.Bytealg
namespace Go.Proofs.Ytlhbfpapmolohaa.Sp
set_option linter.unusedSimpArgs false
set_option linter.unusedVariables false

/-- Is c one of the bytes of the list? -/
def inB (l : List UInt8) (c : UInt8) : Bool := l.contains c

theorem index_nonneg (l : List UInt8) (c : UInt8) : decide (0 ≤ Lib.indexByte l c) = inB l c := by
  unfold inB
  induction l with
  | nil => simp [Lib.indexByte]
  | cons b l ih =>
    unfold Lib.indexByte
    by_cases h : b = c
    · subst h; simp
    · have h1 : (b == c) = false := by simpa using h
      have h2 : (c == b) = false := by simpa using fun e => h e.symm
      have hge := Lib.indexByte_ge l c
      rw [List.contains_cons, h2, Bool.false_or, ← ih, h1]
      simp only [Bool.false_eq_true, if_false]
      by_cases h3 : Lib.indexByte l c = -1
      · simp [h3]
      · have : (Lib.indexByte l c == -1) = false := by simpa using h3
        rw [this]
        simp only [Bool.false_eq_true, if_false, decide_eq_decide]
        omega

def blankB (c : UInt8) : Bool := c == 9 || c == 32
def markB (c : UInt8) : Bool := c == 123 || c == 125 || c == 59
def stopB (c : UInt8) : Bool := blankB c || markB c || c == 35
def textB (c : UInt8) : Bool := c == 9 || c == 10 || (32 ≤ c && c ≤ 126)
def digitB (c : UInt8) : Bool := 48 ≤ c && c ≤ 57
def letterB (c : UInt8) : Bool := (65 ≤ c && c ≤ 90) || (97 ≤ c && c ≤ 122)
def otherB (c : UInt8) : Bool := c == 45 || c == 95 || c == 47 || c == 46
def nameB (c : UInt8) : Bool := letterB c || digitB c || otherB c

theorem in_blanks (c : UInt8) : inB [9, 32] c = blankB c := by simp only [inB, blankB, List.contains_cons, List.contains_nil, Bool.or_false]
theorem in_marks (c : UInt8) : inB [123, 125, 59] c = markB c := by simp only [inB, markB, List.contains_cons, List.contains_nil, Bool.or_false, Bool.or_assoc]
theorem in_stops (c : UInt8) : inB [9, 32, 123, 125, 59, 35] c = stopB c := by simp only [inB, stopB, blankB, markB, List.contains_cons, List.contains_nil, Bool.or_false, Bool.or_assoc]
theorem in_others (c : UInt8) : inB [45, 95, 47, 46] c = otherB c := by simp only [inB, otherB, List.contains_cons, List.contains_nil, Bool.or_false, Bool.or_assoc]

/-! ### The same in the walk's own numbers -/
theorem u8_eq (c d : UInt8) : ((c.toNat : Int) = (d.toNat : Int)) ↔ c = d := by
  constructor
  · intro h; exact UInt8.toNat_inj.1 (by omega)
  · intro h; rw [h]
theorem u8_beq (c d : UInt8) : ((c.toNat : Int) == (d.toNat : Int)) = (c == d) := by
  rw [Bool.eq_iff_iff]; simp [u8_eq]
theorem u8_le (c d : UInt8) : decide ((c.toNat : Int) ≤ (d.toNat : Int)) = decide (c ≤ d) := by
  rw [decide_eq_decide, UInt8.le_iff_toNat_le]; omega
theorem blank_int (c : UInt8) : blankB c = decide ((c.toNat : Int) = 9 ∨ (c.toNat : Int) = 32) := by
  rw [Bool.eq_iff_iff]; simp only [blankB, Bool.or_eq_true, beq_iff_eq, decide_eq_true_eq, ← UInt8.toNat_inj, UInt8.reduceToNat]; omega
theorem mark_int (c : UInt8) : markB c = decide ((c.toNat : Int) = 123 ∨ (c.toNat : Int) = 125 ∨ (c.toNat : Int) = 59) := by
  rw [Bool.eq_iff_iff]; simp only [markB, Bool.or_eq_true, beq_iff_eq, decide_eq_true_eq, ← UInt8.toNat_inj, UInt8.reduceToNat]; omega
theorem text_int (c : UInt8) : textB c = decide ((c.toNat : Int) = 9 ∨ (c.toNat : Int) = 10 ∨ (32 ≤ (c.toNat : Int) ∧ (c.toNat : Int) ≤ 126)) := by
  rw [Bool.eq_iff_iff]; simp only [textB, Bool.or_eq_true, Bool.and_eq_true, beq_iff_eq, decide_eq_true_eq, ← UInt8.toNat_inj, UInt8.le_iff_toNat_le, UInt8.reduceToNat]; omega
theorem digit_int (c : UInt8) : digitB c = decide (48 ≤ (c.toNat : Int) ∧ (c.toNat : Int) ≤ 57) := by
  rw [Bool.eq_iff_iff]; simp only [digitB, Bool.and_eq_true, decide_eq_true_eq, UInt8.le_iff_toNat_le, UInt8.reduceToNat]; omega
theorem letter_int (c : UInt8) : letterB c = decide ((65 ≤ (c.toNat : Int) ∧ (c.toNat : Int) ≤ 90) ∨ (97 ≤ (c.toNat : Int) ∧ (c.toNat : Int) ≤ 122)) := by
  rw [Bool.eq_iff_iff]; simp only [letterB, Bool.or_eq_true, Bool.and_eq_true, decide_eq_true_eq, UInt8.le_iff_toNat_le, UInt8.reduceToNat]; omega
theorem other_int (c : UInt8) : otherB c = decide ((c.toNat : Int) = 45 ∨ (c.toNat : Int) = 95 ∨ (c.toNat : Int) = 47 ∨ (c.toNat : Int) = 46) := by
  rw [Bool.eq_iff_iff]; simp only [otherB, Bool.or_eq_true, beq_iff_eq, decide_eq_true_eq, ← UInt8.toNat_inj, UInt8.reduceToNat]; omega

/-! ### Positions in a string -/
theorem get_data (s : ByteArray) (k : Nat) (h : k < s.size) : s.data.toList[k]? = some (s[k]'h) := by
  rw [List.getElem?_eq_getElem (by simpa using h)]; rfl
theorem get_data' (s : ByteArray) (k : Nat) (h : k < s.size) (h' : k < s.data.toList.length) : s.data.toList[k] = s[k]'h := rfl
theorem drop_data (s : ByteArray) (k : Nat) (h : k < s.size) : s.data.toList.drop k = s[k]'h :: s.data.toList.drop (k + 1) := by
  rw [List.drop_eq_getElem_cons (by simpa using h)]; rfl
theorem take_data (s : ByteArray) (k : Nat) (h : k < s.size) : s.data.toList.take (k + 1) = s.data.toList.take k ++ [s[k]'h] := by
  rw [List.take_succ_eq_append_getElem (by simpa using h)]; rfl
theorem len_data (s : ByteArray) : s.data.toList.length = s.size := by simp

/-- The end of the run that begins at k and has no byte of p. -/
def endAt (p : UInt8 → Bool) (l : List UInt8) (k : Nat) : Nat := k + ((l.drop k).takeWhile (fun c => !p c)).length
theorem endAt_ge (p : UInt8 → Bool) (l : List UInt8) (k : Nat) : k ≤ endAt p l k := by unfold endAt; omega
theorem endAt_le (p : UInt8 → Bool) (l : List UInt8) (k : Nat) (h : k ≤ l.length) : endAt p l k ≤ l.length := by
  unfold endAt
  have := (List.takeWhile_sublist (l := l.drop k) (fun c => !p c)).length_le
  simp only [List.length_drop] at this
  omega
theorem endAt_end (p : UInt8 → Bool) (l : List UInt8) (k : Nat) (h : l.length ≤ k) : endAt p l k = k := by
  unfold endAt; rw [List.drop_eq_nil_of_le h]; rfl
theorem endAt_stop (p : UInt8 → Bool) (s : ByteArray) (k : Nat) (h : k < s.size) (hp : p (s[k]'h) = true) : endAt p s.data.toList k = k := by
  unfold endAt; rw [drop_data s k h, List.takeWhile_cons]; simp [hp]
theorem endAt_step (p : UInt8 → Bool) (s : ByteArray) (k : Nat) (h : k < s.size) (hp : p (s[k]'h) = false) : endAt p s.data.toList k = endAt p s.data.toList (k + 1) := by
  unfold endAt; rw [drop_data s k h, List.takeWhile_cons]; simp [hp]; omega
theorem endAt_gt (p : UInt8 → Bool) (s : ByteArray) (k : Nat) (h : k < s.size) (hp : p (s[k]'h) = false) : k < endAt p s.data.toList k := by
  rw [endAt_step p s k h hp]; have := endAt_ge p s.data.toList (k + 1); omega
theorem endAt_congr (p q : UInt8 → Bool) (h : ∀ c, p c = q c) (l : List UInt8) (k : Nat) : endAt p l k = endAt q l k := by
  have : p = q := funext h
  rw [this]

/-- P105. -/
def nameL : List UInt8 → Bool
  | [] => false
  | c :: t => decide (t.length ≤ 14) && letterB c && t.all nameB
/-- The first k bytes of s are as a name's: one or more, a letter first. -/
def nameTo (s : ByteArray) (k : Nat) : Bool := match s.data.toList.take k with | [] => true | c :: t => letterB c && t.all nameB
theorem nameTo_one (s : ByteArray) (h : 0 < s.size) : nameTo s 1 = letterB (s[0]'h) := by
  unfold nameTo; rw [take_data s 0 h]; simp
theorem nameTo_succ (s : ByteArray) (k : Nat) (h0 : 0 < k) (h : k < s.size) : nameTo s (k + 1) = (nameTo s k && nameB (s[k]'h)) := by
  unfold nameTo; rw [take_data s k h]
  cases e : s.data.toList.take k with
  | nil => have := congrArg List.length e; simp only [List.length_take, len_data, List.length_nil] at this; omega
  | cons c t => simp [Bool.and_assoc]
theorem nameTo_no (s : ByteArray) (k j : Nat) (h0 : 0 < k) (h : nameTo s k = false) (hk : k ≤ j) (hj : j ≤ s.size) : nameTo s j = false := by
  induction j with
  | zero => omega
  | succ j ih =>
    by_cases e : k = j + 1
    · rw [← e]; exact h
    · rw [nameTo_succ s j (by omega) (by omega), ih (by omega) (by omega)]; rfl
theorem nameL_of (s : ByteArray) (h0 : 0 < s.size) (h : s.size ≤ 15) : nameL s.data.toList = nameTo s s.size := by
  unfold nameTo nameL
  rw [List.take_of_length_le (by simp)]
  cases e : s.data.toList with
  | nil => have := congrArg List.length e; simp only [len_data, List.length_nil] at this; omega
  | cons c t =>
    have := congrArg List.length e; simp at this
    have : decide (t.length ≤ 14) = true := by simp; omega
    simp [this]
theorem nameL_short (s : ByteArray) (h : s.size = 0) : nameL s.data.toList = false := by
  cases e : s.data.toList with
  | nil => rfl
  | cons c t => have := congrArg List.length e; simp at this; omega
theorem nameL_long (s : ByteArray) (h : 15 < s.size) : nameL s.data.toList = false := by
  unfold nameL
  cases e : s.data.toList with
  | nil => rfl
  | cons c t =>
    have := congrArg List.length e; simp at this
    have : decide (t.length ≤ 14) = false := by simp; omega
    simp [this]
end Go.Proofs.Ytlhbfpapmolohaa.Sp
