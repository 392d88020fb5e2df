/-
  PLAIN FACTS FOR THE LOOPS OF interval: what holds between two rounds. No program is named here.
-/
import Derived.Test.YtmcoccfbbhnmfaaDoorIvlM
namespace Go.Proofs.YtmcoccfbbhnmfaaDoor.Ip
set_option linter.unusedSimpArgs false
set_option linter.unusedVariables false
open Im

/-- Normalize: of the sorted list t the first k are joined in acc. -/
def NInv (t : List Iv) (k : Nat) (acc : List Iv) : Prop :=
  Can 0 acc ∧ (∀ y ∈ t.drop k, ∀ i ∈ acc, i.1 ≤ y.1) ∧ (∀ x, (hasB acc x || hasB (t.drop k) x) = hasB t x) ∧ acc.length ≤ k
theorem ninv_start (t : List Iv) : NInv t 0 [] := ⟨trivial, fun _ _ _ h => (by cases h), fun x => (by simp), Nat.le_refl _⟩
theorem ninv_skip {t acc : List Iv} {k : Nat} (hk : k < t.length) (h : NInv t k acc) (he : (nth t k).2 < (nth t k).1) : NInv t (k + 1) acc := by
  obtain ⟨h1, h2, h3, h4⟩ := h
  rw [nth_drop hk] at h2 h3
  refine ⟨h1, fun y hy => h2 y (List.mem_cons_of_mem _ hy), fun x => ?_, by omega⟩
  have := h3 x
  rw [has_cons] at this
  rw [← this]
  have e : (decide ((nth t k).1 ≤ x) && decide (x ≤ (nth t k).2)) = false := by
    rw [← Bool.not_eq_true]; simp; omega
  rw [e, Bool.false_or]
theorem ninv_new {t acc : List Iv} {k : Nat} (hs : t.Pairwise fun x y => x.1 ≤ y.1) (hk : k < t.length) (h : NInv t k acc) (hx : (nth t k).1 ≤ (nth t k).2) (hg : ∀ i ∈ acc, i.2 + 1 < (nth t k).1) : NInv t (k + 1) (acc ++ [nth t k]) := by
  obtain ⟨h1, h2, h3, h4⟩ := h
  have hp := hs.sublist (List.drop_sublist k t)
  rw [nth_drop hk] at h2 h3 hp
  refine ⟨can_append h1 (Nat.zero_le _) hx hg, fun y hy i hi => ?_, fun x => ?_, by simp; omega⟩
  · rcases List.mem_append.1 hi with hi | hi
    · exact h2 y (List.mem_cons_of_mem _ hy) i hi
    · rw [List.mem_singleton.1 hi]; exact (List.pairwise_cons.1 hp).1 y hy
  · rw [← h3 x, has_append, has_cons, has_cons, has_nil, Bool.or_false, Bool.or_assoc]
theorem ninv_join {t acc : List Iv} {l : Iv} {k : Nat} (hs : t.Pairwise fun x y => x.1 ≤ y.1) (hk : k < t.length) (h : NInv t k (acc ++ [l])) (hx : (nth t k).1 ≤ (nth t k).2) (hg : ¬ l.2 + 1 < (nth t k).1) : NInv t (k + 1) (acc ++ [(l.1, max l.2 (nth t k).2)]) := by
  obtain ⟨h1, h2, h3, h4⟩ := h
  have hp := hs.sublist (List.drop_sublist k t)
  rw [nth_drop hk] at h2 h3 hp
  have hl := can_last h1
  have hlx := h2 _ (List.mem_cons_self ..) l (List.mem_append_right _ (List.mem_singleton.2 rfl))
  refine ⟨can_append (can_left h1) (Nat.zero_le _) (by simp only; omega) hl.1, fun y hy i hi => ?_, fun x => ?_, by simp at h4 ⊢; omega⟩
  · rcases List.mem_append.1 hi with hi | hi
    · exact h2 y (List.mem_cons_of_mem _ hy) i (List.mem_append_left _ hi)
    · rw [List.mem_singleton.1 hi]; exact h2 y (List.mem_cons_of_mem _ hy) l (List.mem_append_right _ (List.mem_singleton.2 rfl))
  · rw [← h3 x, has_append, has_append, has_cons, has_cons, has_cons, has_nil, Bool.or_false, Bool.or_false]
    have e : (decide (l.1 ≤ x) && decide (x ≤ max l.2 (nth t k).2)) = ((decide (l.1 ≤ x) && decide (x ≤ l.2)) || (decide ((nth t k).1 ≤ x) && decide (x ≤ (nth t k).2))) := by
      rw [Bool.eq_iff_iff]; simp only [Bool.or_eq_true, Bool.and_eq_true, decide_eq_true_eq]; omega
    simp only [e, Bool.or_assoc]
theorem ninv_bd {t acc : List Iv} {k n : Nat} (hb : Bd n t) (h : NInv t k acc) : Bd n acc := by
  refine can_bd h.1 fun x hx => bd_has hb ?_
  rw [← h.2.2.1 x, hx]; rfl
theorem ninv_end {t acc : List Iv} {k : Nat} (hk : t.length ≤ k) (h : NInv t k acc) : acc = norm t := by
  obtain ⟨h1, h2, h3, h4⟩ := h
  refine norm_of h1 fun x => ?_
  have := h3 x
  rw [List.drop_eq_nil_of_le hk] at this
  simpa using this
/-- All before the last one end well before it. -/
theorem ninv_gap {acc : List Iv} {l x : Iv} (h : Can 0 (acc ++ [l])) (hg : l.2 + 1 < x.1) : ∀ i ∈ acc ++ [l], i.2 + 1 < x.1 := by
  intro i hi
  have hl := can_last h
  rcases List.mem_append.1 hi with hi | hi
  · have := hl.1 i hi; omega
  · rw [List.mem_singleton.1 hi]; exact hg
theorem snoc_of {l : List Iv} (h : l ≠ []) : ∃ a x, l = a ++ [x] := ⟨l.dropLast, l.getLast h, (List.dropLast_concat_getLast h).symm⟩
end Go.Proofs.YtmcoccfbbhnmfaaDoor.Ip

namespace Go.Proofs.YtmcoccfbbhnmfaaDoor.Ip
set_option linter.unusedSimpArgs false
set_option linter.unusedVariables false
open Im
/-! ### The reference's Normalize -/
/-- What is below next is done. -/
def RInv (N : Nat) (s : List Iv) (acc : List Iv) (next : Nat) : Prop :=
  Can 0 acc ∧ (∀ x, hasB acc x = (hasB s x && decide (x < next))) ∧ (∀ i ∈ acc, i.2 + 1 ≤ next) ∧ (next = 0 ∨ hasB s next = false) ∧ next ≤ N
theorem rinv_start (N : Nat) (s : List Iv) : RInv N s [] 0 := ⟨trivial, fun x => (by simp), fun _ h => (by cases h), .inl rfl, Nat.zero_le _⟩
theorem rinv_len {N next : Nat} {s acc : List Iv} (h : RInv N s acc next) : acc.length ≤ N := by
  obtain ⟨h1, h2, h3, h4, h5⟩ := h
  have := can_len (n := next) h1 fun i hi => ⟨by have := (can_mem h1 hi).2; have := h3 i hi; omega, by have := h3 i hi; omega⟩
  omega
/-- The least number of the set from next on, of the first k intervals; N where there is none. -/
def BInv (N : Nat) (s : List Iv) (next k best : Nat) : Prop :=
  (best = N ∨ (next ≤ best ∧ best < N ∧ hasB s best = true)) ∧ ∀ x, next ≤ x → hasB (s.take k) x = true → best ≤ x
theorem binv_start (N : Nat) (s : List Iv) (next : Nat) : BInv N s next 0 N := ⟨.inl rfl, fun x _ h => (by simp at h)⟩
theorem binv_le {N : Nat} {s : List Iv} {next k best : Nat} (h : BInv N s next k best) : best ≤ N := by rcases h.1 with h | h <;> omega
theorem take_has {s : List Iv} {k x : Nat} (hk : k < s.length) : hasB (s.take (k + 1)) x = (hasB (s.take k) x || (decide ((nth s k).1 ≤ x) && decide (x ≤ (nth s k).2))) := by
  rw [nth_take hk, has_append, has_cons, has_nil, Bool.or_false]
theorem binv_skip {N : Nat} {s : List Iv} {next k best : Nat} (hk : k < s.length) (h : BInv N s next k best) (hn : ¬ ((nth s k).1 ≤ (nth s k).2 ∧ next ≤ (nth s k).2)) : BInv N s next (k + 1) best := by
  refine ⟨h.1, fun x h1 h2 => ?_⟩
  rw [take_has hk] at h2
  simp only [Bool.or_eq_true, Bool.and_eq_true, decide_eq_true_eq] at h2
  rcases h2 with h2 | h2
  · exact h.2 x h1 h2
  · exact absurd ⟨by omega, by omega⟩ hn
theorem binv_step {N : Nat} {s : List Iv} {next k best : Nat} (hb : Bd N s) (hk : k < s.length) (h : BInv N s next k best) (h1 : (nth s k).1 ≤ (nth s k).2) (h2 : next ≤ (nth s k).2) : BInv N s next (k + 1) (min best (max (nth s k).1 next)) := by
  have hx := hb _ (nth_mem hk)
  have hin : hasB s (max (nth s k).1 next) = true := has_iff.2 ⟨_, nth_mem hk, by omega, by omega⟩
  constructor
  · rcases Nat.le_total best (max (nth s k).1 next) with g | g
    · rw [Nat.min_eq_left g]; exact h.1
    · rw [Nat.min_eq_right g]; exact .inr ⟨by omega, by omega, hin⟩
  · intro x g1 g2
    rw [take_has hk] at g2
    simp only [Bool.or_eq_true, Bool.and_eq_true, decide_eq_true_eq] at g2
    rcases g2 with g2 | g2
    · have := h.2 x g1 g2; omega
    · omega
theorem rinv_end {N : Nat} {s acc : List Iv} {next k : Nat} (hb : Bd N s) (h : RInv N s acc next) (hk : s.length ≤ k) (hB : BInv N s next k N) : acc = norm s := by
  refine norm_of h.1 fun x => ?_
  rw [h.2.1]
  cases e : hasB s x with
  | false => rfl
  | true =>
    have hx := bd_has hb e
    rcases Nat.lt_or_ge x next with g | g
    · simp [g]
    · have := hB.2 x g (by rw [List.take_of_length_le hk]; exact e)
      omega
/-- All from best to hi is in the set. -/
def HInv (N : Nat) (s : List Iv) (best hi : Nat) : Prop := best ≤ hi ∧ hi < N ∧ ∀ x, best ≤ x → x ≤ hi → hasB s x = true
theorem hinv_start {N : Nat} {s : List Iv} {next k best : Nat} (h : BInv N s next k best) (hn : best ≠ N) : HInv N s best best := by
  obtain ⟨h1, h2, h3⟩ := h.1.resolve_left hn
  exact ⟨Nat.le_refl _, h2, fun x a b => by rw [show x = best by omega]; exact h3⟩
/-- Of the first k intervals none goes on behind hi, if nothing was found; else hi has grown since. -/
def GInv (N : Nat) (s : List Iv) (best h0 k hi : Nat) (g : Bool) : Prop :=
  HInv N s best hi ∧ (g = false → hi = h0 ∧ ∀ i ∈ s.take k, ¬ (i.1 ≤ i.2 ∧ i.1 ≤ h0 + 1 ∧ h0 < i.2)) ∧ (g = true → h0 < hi)
theorem ginv_start {N : Nat} {s : List Iv} {best hi : Nat} (h : HInv N s best hi) : GInv N s best hi 0 hi false := ⟨h, fun _ => ⟨rfl, fun _ h => (by simp at h)⟩, fun h => (by cases h)⟩
theorem ginv_skip {N : Nat} {s : List Iv} {best h0 k hi : Nat} {g : Bool} (hk : k < s.length) (h : GInv N s best h0 k hi g) (hn : ¬ ((nth s k).1 ≤ (nth s k).2 ∧ (nth s k).1 ≤ hi + 1 ∧ hi < (nth s k).2)) : GInv N s best h0 (k + 1) hi g := by
  refine ⟨h.1, fun hg => ?_, h.2.2⟩
  obtain ⟨e, h2⟩ := h.2.1 hg
  refine ⟨e, fun i hi' => ?_⟩
  rw [nth_take hk] at hi'
  rcases List.mem_append.1 hi' with hi' | hi'
  · exact h2 i hi'
  · rw [List.mem_singleton.1 hi', ← e]; exact hn
theorem ginv_step {N : Nat} {s : List Iv} {best h0 k hi : Nat} {g : Bool} (hb : Bd N s) (hk : k < s.length) (h : GInv N s best h0 k hi g) (h1 : (nth s k).1 ≤ (nth s k).2) (h2 : (nth s k).1 ≤ hi + 1) (h3 : hi < (nth s k).2) : GInv N s best h0 (k + 1) (nth s k).2 true := by
  obtain ⟨⟨a1, a2, a3⟩, b, c⟩ := h
  have hx := hb _ (nth_mem hk)
  refine ⟨⟨by omega, hx.2, fun x g1 g2 => ?_⟩, fun h => (by cases h), fun _ => ?_⟩
  · rcases Nat.lt_or_ge hi x with g3 | g3
    · exact has_iff.2 ⟨_, nth_mem hk, by omega, g2⟩
    · exact a3 x g1 g3
  · cases g with
    | true => have := c rfl; omega
    | false => have := (b rfl).1; omega
theorem rinv_next {N : Nat} {s acc : List Iv} {next k k' best hi h0 : Nat} (hb : Bd N s) (h : RInv N s acc next) (hk : s.length ≤ k) (hk' : s.length ≤ k') (hB : BInv N s next k best) (hn : best ≠ N) (hG : GInv N s best h0 k' hi false) :
    RInv N s (acc ++ [(best, hi)]) (hi + 1) ∧ next ≤ hi := by
  obtain ⟨r1, r2, r3, r4, r5⟩ := h
  obtain ⟨b1, b2, b3⟩ := hB.1.resolve_left hn
  obtain ⟨⟨g1, g2, g3⟩, g4, _⟩ := hG
  obtain ⟨rfl, g5⟩ := g4 rfl
  have hne : next ≠ best ∨ next = 0 := by
    rcases r4 with r4 | r4
    · exact .inr r4
    · refine .inl fun e => ?_
      rw [e, b3] at r4; cases r4
  have hlt : ∀ i ∈ acc, i.2 + 1 < best := fun i hi => by
    have := r3 i hi
    rcases hne with e | e
    · omega
    · omega
  have htop : hasB s (hi + 1) = false := by
    cases e : hasB s (hi + 1) with
    | false => rfl
    | true =>
      obtain ⟨i, hi', e1, e2⟩ := has_iff.1 e
      exact absurd ⟨by omega, e1, by omega⟩ (g5 i (by rw [List.take_of_length_le hk']; exact hi'))
  refine ⟨⟨can_append r1 (Nat.zero_le _) g1 hlt, fun x => ?_, fun i hi' => ?_, .inr htop, by omega⟩, by omega⟩
  · rw [has_append, has_cons, has_nil, Bool.or_false, r2]
    cases e : hasB s x with
    | false =>
      rw [Bool.false_and, Bool.false_and, Bool.false_or, ← Bool.not_eq_true]
      simp only [Bool.and_eq_true, decide_eq_true_eq]
      rintro ⟨q1, q2⟩
      rw [g3 x q1 q2] at e; cases e
    | true =>
      have : next ≤ x → best ≤ x := fun g => hB.2 x g (by rw [List.take_of_length_le hk]; exact e)
      rw [Bool.eq_iff_iff]
      simp only [Bool.or_eq_true, Bool.and_eq_true, decide_eq_true_eq, true_and]
      omega
  · rcases List.mem_append.1 hi' with hi' | hi'
    · have := hlt i hi'; omega
    · rw [List.mem_singleton.1 hi']; exact Nat.le_refl _
end Go.Proofs.YtmcoccfbbhnmfaaDoor.Ip

namespace Go.Proofs.YtmcoccfbbhnmfaaDoor.Ip
set_option linter.unusedSimpArgs false
set_option linter.unusedVariables false
open Im
/-! ### Canonical or not, element by element -/
def okAt (s : List Iv) (j : Nat) : Bool := decide ((nth s j).1 ≤ (nth s j).2) && (decide (j = 0) || decide ((nth s (j - 1)).2 + 1 < (nth s j).1))
theorem nth_succ (x : Nat × Nat) (s : List (Nat × Nat)) (j : Nat) : nth (x :: s) (j + 1) = nth s j := by simp [nth]
theorem nth_zero (x : Nat × Nat) (s : List (Nat × Nat)) : nth (x :: s) 0 = x := rfl
theorem canB_all : ∀ s : List Iv, canB s = true ↔ ∀ j, j < s.length → okAt s j = true
  | [] => by simp [canB]
  | [x] => by
    simp only [canB, List.length_singleton]
    constructor
    · intro h j hj
      have : j = 0 := by omega
      subst this
      simpa [okAt, nth] using h
    · intro h
      simpa [okAt, nth] using h 0 (by omega)
  | x :: y :: r => by
    have ih := canB_all (y :: r)
    have e0 : okAt (x :: y :: r) 0 = decide (x.1 ≤ x.2) := by rw [Bool.eq_iff_iff]; simp [okAt, nth_zero]; exact decide_eq_true_iff
    have e1 : okAt (x :: y :: r) 1 = (decide (y.1 ≤ y.2) && decide (x.2 + 1 < y.1)) := by rw [Bool.eq_iff_iff]; simp [okAt, nth]
    have e2 : ∀ j, okAt (x :: y :: r) (j + 1 + 1) = okAt (y :: r) (j + 1) := fun j => by
      unfold okAt
      rw [nth_succ x, show j + 1 + 1 - 1 = j + 1 by omega, nth_succ x, show j + 1 - 1 = j by omega, Bool.eq_iff_iff]
      simp
    have e3 : okAt (y :: r) 0 = decide (y.1 ≤ y.2) := by rw [Bool.eq_iff_iff]; simp [okAt, nth_zero]; exact decide_eq_true_iff
    rw [canB, Bool.and_eq_true, Bool.and_eq_true, ih]
    constructor
    · rintro ⟨h1, h2, h3⟩ j hj
      match j with
      | 0 => rw [e0]; exact h1
      | 1 => rw [e1, h2, Bool.and_true, ← e3]; exact h3 0 (by simp)
      | j + 2 => rw [e2]; exact h3 (j + 1) (by simpa using hj)
    · intro h
      have h0 := h 0 (by simp)
      have h1 := h 1 (by simp)
      rw [e0] at h0
      rw [e1, Bool.and_eq_true] at h1
      refine ⟨h0, h1.2, fun j hj => ?_⟩
      match j with
      | 0 => rw [e3]; exact h1.1
      | j + 1 => rw [← e2]; exact h (j + 1 + 1) (by simpa using hj)
/-- Nothing found in the first k. -/
def allTo (s : List Iv) (k : Nat) : Prop := ∀ j, j < k → okAt s j = true
theorem allTo_zero (s : List Iv) : allTo s 0 := fun j h => by omega
theorem allTo_succ {s : List Iv} {k : Nat} (h : allTo s k) (hk : okAt s k = true) : allTo s (k + 1) := fun j hj => by
  rcases Nat.lt_or_ge j k with g | g
  · exact h j g
  · rw [show j = k by omega]; exact hk
theorem allTo_end {s : List Iv} {k : Nat} (h : allTo s k) (hk : s.length ≤ k) : canB s = true := (canB_all s).2 fun j hj => h j (by omega)
theorem allTo_no {s : List Iv} {k : Nat} (hk : k < s.length) (h : okAt s k = false) : canB s = false := by
  rw [← Bool.not_eq_true, canB_all]
  intro g
  have := g k hk
  rw [h] at this; cases this
/-- In the set or not, element by element. -/
theorem has_drop {s : List Iv} {k x : Nat} (hk : k < s.length) : hasB (s.drop k) x = ((decide ((nth s k).1 ≤ x) && decide (x ≤ (nth s k).2)) || hasB (s.drop (k + 1)) x) := by
  rw [nth_drop hk, has_cons]
end Go.Proofs.YtmcoccfbbhnmfaaDoor.Ip

namespace Go.Proofs.YtmcoccfbbhnmfaaDoor.Ip
set_option linter.unusedSimpArgs false
set_option linter.unusedVariables false
open Im
/-! ### The complement, the size: one interval more -/
theorem cmpl_gap {N p k : Nat} {s : List Iv} (hk : k < s.length) (h : p < (nth s k).1) : cmpl N p (s.drop k) = [(p, (nth s k).1 - 1)] ++ cmpl N ((nth s k).2 + 1) (s.drop (k + 1)) := by rw [nth_drop hk, cmpl, if_pos h]
theorem cmpl_join {N p k : Nat} {s : List Iv} (hk : k < s.length) (h : ¬ p < (nth s k).1) : cmpl N p (s.drop k) = cmpl N ((nth s k).2 + 1) (s.drop (k + 1)) := by rw [nth_drop hk, cmpl, if_neg h]; rfl
theorem cmpl_end {N p k : Nat} {s : List Iv} (hk : s.length ≤ k) (h : p < N) : cmpl N p (s.drop k) = [(p, N - 1)] := by rw [List.drop_eq_nil_of_le hk, cmpl, if_pos h]
theorem cmpl_full {N p k : Nat} {s : List Iv} (hk : s.length ≤ k) (h : ¬ p < N) : cmpl N p (s.drop k) = [] := by rw [List.drop_eq_nil_of_le hk, cmpl, if_neg h]
theorem size_drop {k : Nat} {s : List Iv} (hk : k < s.length) : sizeL (s.drop k) = ((nth s k).2 + 1 - (nth s k).1) + sizeL (s.drop (k + 1)) := by rw [nth_drop hk, sizeL]
theorem com_len : ∀ (n : Nat) (a b : List Iv), a.length + b.length ≤ n → (com a b).length ≤ a.length + b.length
  | _, [], b, _ => by unfold com; simp
  | _, _ :: _, [], _ => by unfold com; simp
  | 0, x :: a, y :: b, h => by simp at h
  | n + 1, x :: a, y :: b, h => by
    simp at h
    rw [com]
    rw [List.length_append]
    have h0 : (if max x.1 y.1 ≤ min x.2 y.2 then [(max x.1 y.1, min x.2 y.2)] else []).length ≤ 1 := by split <;> simp
    generalize (if max x.1 y.1 ≤ min x.2 y.2 then [(max x.1 y.1, min x.2 y.2)] else []).length = z at *
    by_cases hlt : x.2 < y.2
    · have := com_len n a (y :: b) (by simp; omega)
      rw [if_pos hlt]
      simp at this ⊢; omega
    · have := com_len n (x :: a) b (by simp; omega)
      rw [if_neg hlt]
      simp at this ⊢; omega
/-- What Intersect, Subtract give. -/
def inter (a b : List Iv) : List Iv := com (norm a) (norm b)
def subt (a b : List Iv) : List Iv := com (norm a) (compl 4294967296 b)
theorem inter_can (a b : List Iv) : Can 0 (inter a b) ∧ ∀ z, hasB (inter a b) z = (hasB a z && hasB b z) := com_norm a b
theorem inter_bd {a b : List Iv} (h : Bd 4294967296 a) : Bd 4294967296 (inter a b) := can_bd (inter_can a b).1 fun x hx => by
  rw [(inter_can a b).2, Bool.and_eq_true] at hx; exact bd_has h hx.1
theorem inter_len (a b : List Iv) : (inter a b).length ≤ a.length + b.length := by
  have := com_len _ (norm a) (norm b) (Nat.le_refl _)
  have := norm_len a; have := norm_len b
  unfold inter; omega
theorem subt_can {a b : List Iv} (ha : Bd 4294967296 a) (hb : Bd 4294967296 b) : Can 0 (subt a b) ∧ ∀ z, hasB (subt a b) z = (hasB a z && !hasB b z) := by
  have h := com_can _ (norm a) (compl 4294967296 b) (Nat.le_refl _) 0 0 (norm_can a).1 (compl_can hb).1
  refine ⟨h.1, fun z => ?_⟩
  show hasB (com _ _) z = _
  rw [h.2, norm_has, (compl_can hb).2]
  cases e : hasB a z with
  | false => rfl
  | true =>
    have := bd_has ha e
    rw [decide_eq_true this]; rfl
theorem subt_bd {a b : List Iv} (ha : Bd 4294967296 a) (hb : Bd 4294967296 b) : Bd 4294967296 (subt a b) := can_bd (subt_can ha hb).1 fun x hx => by
  rw [(subt_can ha hb).2, Bool.and_eq_true] at hx; exact bd_has ha hx.1
theorem subt_len (a b : List Iv) : (subt a b).length ≤ a.length + b.length + 1 := by
  have := com_len _ (norm a) (compl 4294967296 b) (Nat.le_refl _)
  have := norm_len a; have := compl_len 4294967296 b
  unfold subt; omega
end Go.Proofs.YtmcoccfbbhnmfaaDoor.Ip
