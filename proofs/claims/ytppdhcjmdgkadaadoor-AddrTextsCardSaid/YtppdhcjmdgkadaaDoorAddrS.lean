/-
  PLAIN FACTS ON THE TEXTS OF ADDRESSES: cutting at a byte, the four parts, reading and writing. No program is named here.
-/
import Derived.Test.YtppdhcjmdgkadaaDoorScanPd
import Derived.Test.YtppdhcjmdgkadaaDoorAddrP
import Derived.Lib.Strings
namespace Go.Proofs.YtppdhcjmdgkadaaDoor.As
set_option linter.unusedSimpArgs false
set_option linter.unusedVariables false
open Sp Am

def atB (c b : UInt8) : Bool := b == c
/-- The place of the first c (the length, if there is none). -/
def cutAt (c : UInt8) (l : List UInt8) : Nat := (l.takeWhile fun b => !atB c b).length
theorem cutAt_le (c : UInt8) (l : List UInt8) : cutAt c l ≤ l.length := (List.takeWhile_sublist _).length_le
theorem index_cut (c : UInt8) (l : List UInt8) : Lib.indexByte l c = if cutAt c l < l.length then (cutAt c l : Int) else -1 := by
  induction l with
  | nil => rfl
  | cons b l ih =>
    unfold Lib.indexByte cutAt
    by_cases h : b = c
    · subst h; simp [atB]
    · have h1 : (b == c) = false := by simpa using h
      rw [ih, List.takeWhile_cons]
      simp only [atB, h1, Bool.not_false, if_true, List.length_cons]
      have e : (List.takeWhile (fun b => !atB c b) l).length = cutAt c l := rfl
      simp only [atB] at e
      rw [e]
      by_cases h2 : cutAt c l < l.length
      · have : ((cutAt c l : Int) == -1) = false := by simp
        simp [h2, this]
      · simp [h2]
theorem cut_take (c : UInt8) (l : List UInt8) : l.take (cutAt c l) = l.takeWhile fun b => !atB c b := by
  unfold cutAt
  induction l with
  | nil => rfl
  | cons b l ih =>
    rw [List.takeWhile_cons]
    split
    · rw [List.length_cons, List.take_succ_cons, ih]
    · rfl
def partL (c : UInt8) (l : List UInt8) : List UInt8 := l.take (cutAt c l)
def restL (c : UInt8) (l : List UInt8) : List UInt8 := l.drop (cutAt c l + 1)
def hasB (c : UInt8) (l : List UInt8) : Bool := decide (cutAt c l < l.length)

/-- What is written in front of a first c. -/
theorem cut_front (c : UInt8) (a r : List UInt8) (h : ∀ b ∈ a, b ≠ c) : cutAt c (a ++ c :: r) = a.length := by
  unfold cutAt
  rw [List.takeWhile_append_of_pos (by intro b hb; simp [atB, h b hb]), List.takeWhile_cons]
  simp [atB]
theorem cut_none (c : UInt8) (a : List UInt8) (h : ∀ b ∈ a, b ≠ c) : cutAt c a = a.length := by
  unfold cutAt
  rw [show a.takeWhile (fun b => !atB c b) = a from ?_]
  induction a with
  | nil => rfl
  | cons b a ih =>
    rw [List.takeWhile_cons]
    simp only [atB, List.mem_cons, forall_eq_or_imp] at h ⊢
    have h1 : (b == c) = false := by simpa using h.1
    simp only [h1, Bool.not_false, if_true]
    have := ih h.2
    simp only [atB] at this
    rw [this]
theorem front_all (c : UInt8) (a r : List UInt8) (h : ∀ b ∈ a, b ≠ c) : partL c (a ++ c :: r) = a ∧ restL c (a ++ c :: r) = r ∧ hasB c (a ++ c :: r) = true := by
  unfold partL restL hasB
  rw [cut_front c a r h]
  refine ⟨by simp, ?_, by simp⟩
  rw [show a ++ c :: r = (a ++ [c]) ++ r by simp, show a.length + 1 = (a ++ [c]).length by simp, List.drop_left]
theorem none_all (c : UInt8) (a : List UInt8) (h : ∀ b ∈ a, b ≠ c) : partL c a = a ∧ hasB c a = false := by
  unfold partL hasB
  rw [cut_none c a h]
  simp

/-! ### Four numbers with dots between them -/
def contF : Nat → Nat → List UInt8 → Option Nat
  | 0, a, _ => some a
  | r + 1, a, l => if (hasB 46 l != decide (0 < r)) = true then none else if numB (partL 46 l) 0 255 = true then contF r (a * 256 + (numV (partL 46 l) 0 255).toNat) (restL 46 l) else none
/-- P201: the address that the text names, if any. -/
def addrO (l : List UInt8) : Option Nat := contF 4 0 l
def addrV (l : List UInt8) : Nat := (addrO l).getD 0
def addrB (l : List UInt8) : Bool := (addrO l).isSome

theorem num_bd {l : List UInt8} {b : Int} (h : numB l 0 b = true) : 0 ≤ numV l 0 b ∧ numV l 0 b ≤ b := by
  unfold numV; rw [h]
  unfold numB at h
  simp only [Bool.and_eq_true, decide_eq_true_eq] at h
  simp only [if_true]
  omega
theorem contF_lt : ∀ (r a : Nat) (l : List UInt8) (v : Nat), contF r a l = some v → v < (a + 1) * 256 ^ r
  | 0, a, l, v, h => by rw [contF] at h; cases h; simp
  | r + 1, a, l, v, h => by
    rw [contF] at h
    split at h
    · cases h
    · split at h
      · rename_i hb
        have h1 := contF_lt r _ _ v h
        have h2 := num_bd hb
        calc v < (a * 256 + (numV (partL 46 l) 0 255).toNat + 1) * 256 ^ r := h1
          _ ≤ ((a + 1) * 256) * 256 ^ r := Nat.mul_le_mul_right _ (by omega)
          _ = (a + 1) * 256 ^ (r + 1) := by rw [Nat.pow_succ, Nat.mul_assoc, Nat.mul_comm 256]
      · cases h
theorem addrV_lt (l : List UInt8) : addrV l < 4294967296 := by
  unfold addrV
  cases e : addrO l with
  | none => decide
  | some v => exact contF_lt 4 0 l v e

theorem step_no (r a : Nat) (l : List UInt8) (h : (hasB 46 l != decide (0 < r)) = true) : contF (r + 1) a l = none := by rw [contF, if_pos h]
theorem step_bad (r a : Nat) (l : List UInt8) (h : numB (partL 46 l) 0 255 = false) : contF (r + 1) a l = none := by
  rw [contF]
  split
  · rfl
  · rw [if_neg (by rw [h]; decide)]
theorem step_yes (r a : Nat) (l : List UInt8) (h : (hasB 46 l != decide (0 < r)) = false) (h2 : numB (partL 46 l) 0 255 = true) :
    contF (r + 1) a l = contF r (a * 256 + (numV (partL 46 l) 0 255).toNat) (restL 46 l) := by rw [contF, if_neg (by rw [h]; decide), if_pos h2]
theorem val_none {l : List UInt8} (h : addrO l = none) : addrV l = 0 ∧ addrB l = false := by unfold addrV addrB; rw [h]; exact ⟨rfl, rfl⟩
theorem val_some {l : List UInt8} {v : Nat} (h : addrO l = some v) : addrV l = v ∧ addrB l = true := by unfold addrV addrB; rw [h]; exact ⟨rfl, rfl⟩

/-! ### The same, byte by byte -/
theorem cut_eq (c : UInt8) : ∀ (l : List UInt8) (m : Nat), (∀ j, j < m → l[j]? ≠ some c) → m ≤ l.length → (m = l.length ∨ l[m]? = some c) → cutAt c l = m
  | [], m, _, hm, _ => by have : m = 0 := by simpa using hm
                          subst this; rfl
  | b :: l, 0, _, _, h2 => by
    rcases h2 with h2 | h2
    · simp at h2
    · simp at h2
      subst h2
      unfold cutAt; simp [atB]
  | b :: l, m + 1, h1, hm, h2 => by
    have hb : (b == c) = false := by
      have := h1 0 (by omega)
      simpa using this
    have ih := cut_eq c l m (fun j hj => by have := h1 (j + 1) (by omega); simpa using this) (by simpa using hm) (by simpa using h2)
    unfold cutAt at ih ⊢
    rw [List.takeWhile_cons]
    simp only [atB, hb, Bool.not_false, if_true, List.length_cons] at ih ⊢
    rw [ih]
def noDot (l : List UInt8) (f i : Nat) : Prop := ∀ j, f ≤ j → j < i → l[j]? ≠ some 46
theorem cut_from (l : List UInt8) (f i : Nat) (hf : f ≤ i) (hi : i ≤ l.length) (h : noDot l f i) (h2 : i = l.length ∨ l[i]? = some 46) : cutAt 46 (l.drop f) = i - f := by
  refine cut_eq 46 _ _ (fun j hj => ?_) (by rw [List.length_drop]; omega) ?_
  · rw [List.getElem?_drop]; exact h (f + j) (by omega) (by omega)
  · rcases h2 with h2 | h2
    · left; rw [List.length_drop]; omega
    · right; rw [List.getElem?_drop, show f + (i - f) = i by omega]; exact h2
theorem part_from (l : List UInt8) (f i : Nat) (hf : f ≤ i) (hi : i ≤ l.length) (h : noDot l f i) (h2 : i = l.length ∨ l[i]? = some 46) :
    partL 46 (l.drop f) = (l.drop f).take (i - f) ∧ restL 46 (l.drop f) = l.drop (i + 1) ∧ hasB 46 (l.drop f) = decide (i < l.length) := by
  have e := cut_from l f i hf hi h h2
  unfold partL restL hasB
  rw [e, List.drop_drop, List.length_drop]
  refine ⟨rfl, by rw [show f + (i - f + 1) = i + 1 by omega], ?_⟩
  rw [decide_eq_decide]; omega
/-- What is still to be read, p parts being read. -/
def contR (p a : Nat) (l : List UInt8) : Option Nat := if p < 4 then contF (4 - p) a l else none
/-- The whole's value, by the place to which one has come. -/
def contE (l : List UInt8) (i f p a : Nat) : Option Nat := if i ≤ l.length then contR p a (l.drop f) else if p = 4 then some a else none
theorem contE_start (l : List UInt8) : contE l 0 0 0 0 = addrO l := by unfold contE contR addrO; simp
theorem contE_next (l : List UInt8) (i f p a : Nat) (hi : i < l.length) : contE l (i + 1) f p a = contE l i f p a := by
  unfold contE; rw [if_pos (by omega), if_pos (by omega)]
theorem contE_end (l : List UInt8) (i f p a : Nat) (hi : ¬ i ≤ l.length) : contE l i f p a = if p = 4 then some a else none := by unfold contE; rw [if_neg hi]
theorem contE_four (l : List UInt8) (i f a : Nat) (hi : i ≤ l.length) : contE l i f 4 a = none := by unfold contE contR; rw [if_pos hi, if_neg (by omega)]
theorem contE_bad (l : List UInt8) (i f p a : Nat) (hi : i ≤ l.length) (h : numB (partL 46 (l.drop f)) 0 255 = false) : contE l i f p a = none := by
  unfold contE contR; rw [if_pos hi]
  split
  · rename_i hp
    rw [show 4 - p = (3 - p) + 1 by omega]; exact step_bad _ _ _ h
  · rfl
theorem contE_part (l : List UInt8) (i f p a : Nat) (hf : f ≤ i) (hi : i ≤ l.length) (h : noDot l f i) (h2 : i = l.length ∨ l[i]? = some 46) (hp : p < 4)
    (hn : numB (partL 46 (l.drop f)) 0 255 = true) : contE l i f p a = contE l (i + 1) (i + 1) (p + 1) (a * 256 + (numV (partL 46 (l.drop f)) 0 255).toNat) := by
  obtain ⟨e1, e2, e3⟩ := part_from l f i hf hi h h2
  have hc : contE l i f p a = contF (3 - p + 1) a (l.drop f) := by
    unfold contE contR; rw [if_pos hi, if_pos hp, show 4 - p = 3 - p + 1 by omega]
  rw [hc]
  by_cases hl : i < l.length
  · rw [decide_eq_true hl] at e3
    by_cases h3 : p < 3
    · rw [step_yes _ _ _ (by rw [e3, decide_eq_true (by omega : 0 < 3 - p)]; rfl) hn, e2]
      unfold contE contR
      rw [if_pos (by omega), if_pos (by omega), show 4 - (p + 1) = 3 - p by omega]
    · rw [step_no _ _ _ (by rw [e3, decide_eq_false (by omega : ¬ 0 < 3 - p)]; rfl)]
      unfold contE contR
      rw [if_pos (by omega), if_neg (by omega)]
  · rw [decide_eq_false hl] at e3
    rw [contE_end _ _ _ _ _ (by omega)]
    by_cases h3 : p < 3
    · rw [step_no _ _ _ (by rw [e3, decide_eq_true (by omega : 0 < 3 - p)]; rfl), if_neg (by omega)]
    · rw [show 3 - p = 0 by omega, step_yes _ _ _ (by rw [e3]; rfl) hn, contF, if_pos (by omega)]

/-! ### Writing -/
/-- The decimal form of a number up to 255. -/
def dec8 (n : Nat) : List UInt8 := digL 9 n
theorem dec8_all : ∀ n : Fin 256, numB (dec8 n.val) 0 255 = true ∧ (numV (dec8 n.val) 0 255).toNat = n.val ∧ (dec8 n.val).all (fun b => b != 46 && b != 47) = true := by decide +kernel
theorem dec8_ok (n : Nat) (h : n < 256) : numB (dec8 n) 0 255 = true ∧ (numV (dec8 n) 0 255).toNat = n ∧ (∀ b ∈ dec8 n, b ≠ 46) ∧ (∀ b ∈ dec8 n, b ≠ 47) := by
  obtain ⟨h1, h2, h3⟩ := dec8_all ⟨n, h⟩
  simp only at h1 h2 h3
  rw [List.all_eq_true] at h3
  refine ⟨h1, h2, fun b hb e => ?_, fun b hb e => ?_⟩
  · have := h3 b hb; simp [e] at this
  · have := h3 b hb; simp [e] at this
def dotL (a : Nat) : List UInt8 := dec8 (a / 16777216) ++ 46 :: (dec8 (a / 65536 % 256) ++ 46 :: (dec8 (a / 256 % 256) ++ 46 :: dec8 (a % 256)))
theorem dot_back (a : Nat) (h : a < 4294967296) : addrO (dotL a) = some a := by
  obtain ⟨a1, a2, a3, _⟩ := dec8_ok (a / 16777216) (by omega)
  obtain ⟨b1, b2, b3, _⟩ := dec8_ok (a / 65536 % 256) (by omega)
  obtain ⟨c1, c2, c3, _⟩ := dec8_ok (a / 256 % 256) (by omega)
  obtain ⟨d1, d2, d3, _⟩ := dec8_ok (a % 256) (by omega)
  unfold addrO dotL
  obtain ⟨p1, p2, p3⟩ := front_all 46 (dec8 (a / 16777216)) (dec8 (a / 65536 % 256) ++ 46 :: (dec8 (a / 256 % 256) ++ 46 :: dec8 (a % 256))) a3
  obtain ⟨q1, q2, q3⟩ := front_all 46 (dec8 (a / 65536 % 256)) (dec8 (a / 256 % 256) ++ 46 :: dec8 (a % 256)) b3
  obtain ⟨r1, r2, r3⟩ := front_all 46 (dec8 (a / 256 % 256)) (dec8 (a % 256)) c3
  obtain ⟨s1, s3⟩ := none_all 46 (dec8 (a % 256)) d3
  rw [step_yes 3 _ _ (by rw [p3]; rfl) (by rw [p1]; exact a1), p1, p2, a2, step_yes 2 _ _ (by rw [q3]; rfl) (by rw [q1]; exact b1), q1, q2, b2,
    step_yes 1 _ _ (by rw [r3]; rfl) (by rw [r1]; exact c1), r1, r2, c2, step_yes 0 _ _ (by rw [s3]; rfl) (by rw [s1]; exact d1), s1, d2, contF]
  congr 1
  omega
theorem dot_no47 (a : Nat) (h : a < 4294967296) : ∀ b ∈ dotL a, b ≠ 47 := by
  obtain ⟨_, _, _, a4⟩ := dec8_ok (a / 16777216) (by omega)
  obtain ⟨_, _, _, b4⟩ := dec8_ok (a / 65536 % 256) (by omega)
  obtain ⟨_, _, _, c4⟩ := dec8_ok (a / 256 % 256) (by omega)
  obtain ⟨_, _, _, d4⟩ := dec8_ok (a % 256) (by omega)
  intro b hb
  unfold dotL at hb
  simp only [List.mem_append, List.mem_cons] at hb
  rcases hb with hb | rfl | hb | rfl | hb | rfl | hb
  · exact a4 b hb
  · decide
  · exact b4 b hb
  · decide
  · exact c4 b hb
  · decide
  · exact d4 b hb

/-! ### An address, a slash and a length -/
/-- P204. -/
def hostB (l : List UInt8) : Bool := hasB 47 l && addrB (partL 47 l) && numB (restL 47 l) 0 32
def hostA (l : List UInt8) : Nat := if hostB l then addrV (partL 47 l) else 0
def hostN (l : List UInt8) : Nat := if hostB l then (numV (restL 47 l) 0 32).toNat else 0
def slashL (a n : Nat) : List UInt8 := dotL a ++ 47 :: dec8 n
theorem dec32_all : ∀ n : Fin 33, numB (dec8 n.val) 0 32 = true ∧ (numV (dec8 n.val) 0 32).toNat = n.val := by decide +kernel
theorem slash_back (a n : Nat) (ha : a < 4294967296) (hn : n ≤ 32) : hostB (slashL a n) = true ∧ hostA (slashL a n) = a ∧ hostN (slashL a n) = n := by
  obtain ⟨p1, p2, p3⟩ := front_all 47 (dotL a) (dec8 n) (dot_no47 a ha)
  have hd := val_some (dot_back a ha)
  obtain ⟨n1, n2⟩ := dec32_all ⟨n, by omega⟩
  simp only at n1 n2
  have hb : hostB (slashL a n) = true := by
    unfold hostB slashL; rw [p1, p2, p3, hd.2, n1]; rfl
  refine ⟨hb, ?_, ?_⟩
  · unfold hostA; rw [hb]; unfold slashL; rw [p1, hd.1]; rfl
  · unfold hostN; rw [hb]; unfold slashL; rw [p2, n2]; rfl
theorem hostN_le (l : List UInt8) : hostN l ≤ 32 := by
  unfold hostN
  split
  · rename_i h
    unfold hostB at h
    simp only [Bool.and_eq_true] at h
    have := num_bd h.2
    omega
  · omega
theorem hostA_lt (l : List UInt8) : hostA l < 4294967296 := by
  unfold hostA
  split
  · exact addrV_lt _
  · decide
end Go.Proofs.YtppdhcjmdgkadaaDoor.As
