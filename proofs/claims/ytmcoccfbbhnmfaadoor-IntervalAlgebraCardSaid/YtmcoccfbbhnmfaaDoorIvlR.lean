/-
  PLAIN FACTS ON ALL PAIRS OF TWO LISTS OF INTERVALS, as the reference's Intersect takes them. No program is named here.
-/
import Derived.Test.YtmcoccfbbhnmfaaDoorIvlN
namespace Go.Proofs.YtmcoccfbbhnmfaaDoor.Ip
set_option linter.unusedSimpArgs false
set_option linter.unusedVariables false
open Im

def pair (x y : Iv) : List Iv := if x.1 ≤ x.2 ∧ y.1 ≤ y.2 then [(max x.1 y.1, min x.2 y.2)] else []
def rowP (x : Iv) : List Iv → List Iv
  | [] => []
  | y :: r => pair x y ++ rowP x r
def cross : List Iv → List Iv → List Iv
  | [], _ => []
  | x :: r, b => rowP x b ++ cross r b
theorem rowP_drop {x : Iv} {b : List Iv} {k : Nat} (hk : k < b.length) : rowP x (b.drop k) = pair x (nth b k) ++ rowP x (b.drop (k + 1)) := by rw [nth_drop hk, rowP]
theorem cross_drop {a b : List Iv} {k : Nat} (hk : k < a.length) : cross (a.drop k) b = rowP (nth a k) b ++ cross (a.drop (k + 1)) b := by rw [nth_drop hk, cross]
theorem pair_has (x y : Iv) (z : Nat) : hasB (pair x y) z = ((decide (x.1 ≤ z) && decide (z ≤ x.2)) && (decide (y.1 ≤ z) && decide (z ≤ y.2))) := by
  unfold pair
  split
  · rw [Bool.eq_iff_iff]; simp only [has_cons, has_nil, Bool.or_false, Bool.and_eq_true, decide_eq_true_eq]; omega
  · rw [has_nil, eq_comm, ← Bool.not_eq_true]; simp only [Bool.and_eq_true, decide_eq_true_eq]; omega
theorem rowP_has (x : Iv) (z : Nat) : ∀ b, hasB (rowP x b) z = ((decide (x.1 ≤ z) && decide (z ≤ x.2)) && hasB b z)
  | [] => by simp [rowP]
  | y :: r => by rw [rowP, has_append, rowP_has x z r, pair_has, has_cons, Bool.and_or_distrib_left]
theorem cross_has (b : List Iv) (z : Nat) : ∀ a, hasB (cross a b) z = (hasB a z && hasB b z)
  | [] => by simp [cross]
  | x :: r => by rw [cross, has_append, cross_has b z r, rowP_has, has_cons, Bool.and_or_distrib_right]
theorem pair_len (x y : Iv) : (pair x y).length ≤ 1 := by unfold pair; split <;> simp
theorem rowP_len (x : Iv) : ∀ b, (rowP x b).length ≤ b.length
  | [] => Nat.le_refl _
  | y :: r => by have := rowP_len x r; have := pair_len x y; rw [rowP, List.length_append, List.length_cons]; omega
theorem cross_len (b : List Iv) : ∀ a, (cross a b).length ≤ a.length * b.length
  | [] => Nat.zero_le _
  | x :: r => by
    have := cross_len b r; have := rowP_len x b
    rw [cross, List.length_append, List.length_cons, Nat.add_mul, Nat.one_mul]; omega
theorem pair_bd {n : Nat} {x y : Iv} (hx : x.1 < n ∧ x.2 < n) (hy : y.1 < n ∧ y.2 < n) : Bd n (pair x y) := by
  unfold pair
  split
  · exact bd_cons.2 ⟨⟨by simp only; omega, by simp only; omega⟩, bd_nil _⟩
  · exact bd_nil _
theorem rowP_bd {n : Nat} {x : Iv} (hx : x.1 < n ∧ x.2 < n) : ∀ {b}, Bd n b → Bd n (rowP x b)
  | [], _ => bd_nil _
  | y :: r, h => bd_append.2 ⟨pair_bd hx (bd_cons.1 h).1, rowP_bd hx (bd_cons.1 h).2⟩
theorem cross_bd {n : Nat} {b : List Iv} (hb : Bd n b) : ∀ {a}, Bd n a → Bd n (cross a b)
  | [], _ => bd_nil _
  | x :: r, h => bd_append.2 ⟨rowP_bd (bd_cons.1 h).1 hb, cross_bd hb (bd_cons.1 h).2⟩
theorem cross_norm (a b : List Iv) : norm (cross a b) = inter a b := (norm_of (inter_can a b).1 fun z => by rw [(inter_can a b).2, cross_has]).symm
theorem subt_ref {a b : List Iv} (ha : Bd 4294967296 a) (hb : Bd 4294967296 b) : inter a (compl 4294967296 b) = subt a b :=
  can_uniq (inter_can _ _).1 (subt_can ha hb).1 fun z => by
    rw [(inter_can _ _).2, (subt_can ha hb).2, (compl_can hb).2]
    cases e : hasB a z with
    | false => rfl
    | true => rw [decide_eq_true (bd_has ha e)]; rfl
end Go.Proofs.YtmcoccfbbhnmfaaDoor.Ip
