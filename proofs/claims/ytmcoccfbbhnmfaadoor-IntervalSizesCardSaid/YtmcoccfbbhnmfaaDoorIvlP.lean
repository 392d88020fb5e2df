/-
  PLAIN FACTS ON LISTS OF INTERVALS OF NATURAL NUMBERS: the set that a list denotes, canonical lists, that there is one for each set; union, intersection, complement, size. No program is named here.
-/
namespace Go.Proofs.YtmcoccfbbhnmfaaDoor.Ip
set_option linter.unusedSimpArgs false
set_option linter.unusedVariables false

abbrev Iv := Nat × Nat

/-- x is in the set that s denotes. -/
def hasB (s : List Iv) (x : Nat) : Bool := s.any fun i => decide (i.1 ≤ x) && decide (x ≤ i.2)
@[simp] theorem has_nil (x : Nat) : hasB [] x = false := rfl
@[simp] theorem has_cons (i : Iv) (s : List Iv) (x : Nat) : hasB (i :: s) x = ((decide (i.1 ≤ x) && decide (x ≤ i.2)) || hasB s x) := by simp [hasB]
@[simp] theorem has_append (s t : List Iv) (x : Nat) : hasB (s ++ t) x = (hasB s x || hasB t x) := by simp [hasB]
theorem has_iff {s : List Iv} {x : Nat} : hasB s x = true ↔ ∃ i ∈ s, i.1 ≤ x ∧ x ≤ i.2 := by simp [hasB]
theorem has_perm {s t : List Iv} (h : s.Perm t) (x : Nat) : hasB s x = hasB t x := by
  rw [Bool.eq_iff_iff, has_iff, has_iff]
  exact ⟨fun ⟨i, hi, hx⟩ => ⟨i, h.mem_iff.1 hi, hx⟩, fun ⟨i, hi, hx⟩ => ⟨i, h.mem_iff.2 hi, hx⟩⟩

/-- A canonical list that begins at b or behind it. -/
def Can : Nat → List Iv → Prop
  | _, [] => True
  | b, x :: r => b ≤ x.1 ∧ x.1 ≤ x.2 ∧ Can (x.2 + 2) r
theorem Can.mono : ∀ {s : List Iv} {b c : Nat}, Can b s → c ≤ b → Can c s
  | [], _, _, _, _ => trivial
  | _ :: _, _, _, ⟨h1, h2, h3⟩, h => ⟨Nat.le_trans h h1, h2, h3⟩
theorem Can.ge : ∀ {s : List Iv} {b x : Nat}, Can b s → hasB s x = true → b ≤ x
  | [], _, _, _, h => by simp at h
  | i :: r, b, x, ⟨h1, h2, h3⟩, h => by
    simp at h
    rcases h with ⟨h4, h5⟩ | h4
    · omega
    · have := Can.ge h3 h4; omega
theorem Can.not {s : List Iv} {b x : Nat} (h : Can b s) (hx : x < b) : hasB s x = false := by
  cases e : hasB s x with
  | false => rfl
  | true => have := h.ge e; omega

/-- There is one canonical list for a set. -/
theorem can_uniq : ∀ {s t : List Iv} {b c : Nat}, Can b s → Can c t → (∀ x, hasB s x = hasB t x) → s = t
  | [], [], _, _, _, _, _ => rfl
  | [], y :: t, _, _, _, ⟨_, h2, _⟩, h => by have := h y.1; simp [h2] at this
  | x :: s, [], _, _, ⟨_, h2, _⟩, _, h => by have := h x.1; simp [h2] at this
  | x :: s, y :: t, b, c, ⟨a1, a2, a3⟩, ⟨b1, b2, b3⟩, h => by
    have e1 : x.1 = y.1 := by
      have h1 := h x.1
      have h2 := h y.1
      have n1 : x.1 < y.1 → hasB t x.1 = false := fun g => b3.not (by omega)
      have n2 : y.1 < x.1 → hasB s y.1 = false := fun g => a3.not (by omega)
      rcases Nat.lt_trichotomy x.1 y.1 with g | g | g
      · simp [n1 g, a2] at h1; omega
      · exact g
      · simp [n2 g, b2] at h2; omega
    have e2 : x.2 = y.2 := by
      rcases Nat.lt_trichotomy x.2 y.2 with g | g | g
      · have h1 := h (x.2 + 1)
        have n1 := a3.not (x := x.2 + 1) (by omega)
        have n2 : hasB (y :: t) (x.2 + 1) = true := by rw [has_cons, decide_eq_true (show y.1 ≤ x.2 + 1 by omega), decide_eq_true (show x.2 + 1 ≤ y.2 by omega)]; rfl
        rw [n2, has_cons, n1] at h1; simp at h1; omega
      · exact g
      · have h1 := h (y.2 + 1)
        have n1 := b3.not (x := y.2 + 1) (by omega)
        have n2 : hasB (x :: s) (y.2 + 1) = true := by rw [has_cons, decide_eq_true (show x.1 ≤ y.2 + 1 by omega), decide_eq_true (show y.2 + 1 ≤ x.2 by omega)]; rfl
        rw [n2, has_cons, n1] at h1; simp at h1; omega
    have e3 : s = t := by
      refine can_uniq a3 b3 fun z => ?_
      have hz := h z
      rcases Nat.lt_or_ge z (x.2 + 2) with g | g
      · rw [a3.not g, b3.not (by omega)]
      · have g1 : ¬ z ≤ x.2 := by omega
        have g2 : ¬ z ≤ y.2 := by omega
        simpa [g1, g2] using hz
    exact congr (congrArg List.cons (Prod.ext e1 e2)) e3

theorem can_append : ∀ {s : List Iv} {b : Nat} {x : Iv}, Can b s → b ≤ x.1 → x.1 ≤ x.2 → (∀ i ∈ s, i.2 + 1 < x.1) → Can b (s ++ [x])
  | [], _, _, _, h1, h2, _ => ⟨h1, h2, trivial⟩
  | i :: r, b, x, ⟨a1, a2, a3⟩, h1, h2, h => ⟨a1, a2, can_append a3 (by have := h i (List.mem_cons_self ..); omega) h2 fun j hj => h j (List.mem_cons_of_mem _ hj)⟩
theorem can_left : ∀ {s t : List Iv} {b : Nat}, Can b (s ++ t) → Can b s
  | [], _, _, _ => trivial
  | _ :: _, _, _, ⟨a1, a2, a3⟩ => ⟨a1, a2, can_left a3⟩
theorem can_right : ∀ {s t : List Iv} {b : Nat}, Can b (s ++ t) → Can b t
  | [], _, _, h => h
  | _ :: _, _, _, ⟨a1, a2, a3⟩ => (can_right a3).mono (by omega)
theorem can_last : ∀ {s : List Iv} {b : Nat} {x : Iv}, Can b (s ++ [x]) → (∀ i ∈ s, i.2 + 1 < x.1) ∧ b ≤ x.1 ∧ x.1 ≤ x.2
  | [], _, _, ⟨a1, a2, _⟩ => ⟨fun _ h => (by cases h), a1, a2⟩
  | i :: r, b, x, ⟨a1, a2, a3⟩ => by
    have h := can_last a3
    refine ⟨fun j hj => ?_, by omega, h.2.2⟩
    rcases List.mem_cons.1 hj with rfl | hj
    · omega
    · exact h.1 j hj
theorem can_drop {s : List Iv} {b : Nat} (h : Can b s) (k : Nat) : Can b (s.drop k) := can_right (s := s.take k) (by rw [List.take_append_drop]; exact h)
theorem can_take {s : List Iv} {b : Nat} (h : Can b s) (k : Nat) : Can b (s.take k) := can_left (t := s.drop k) (by rw [List.take_append_drop]; exact h)
theorem can_mem : ∀ {s : List Iv} {b : Nat} {i : Iv}, Can b s → i ∈ s → b ≤ i.1 ∧ i.1 ≤ i.2
  | x :: r, b, i, ⟨a1, a2, a3⟩, h => by
    rcases List.mem_cons.1 h with rfl | h
    · exact ⟨a1, a2⟩
    · have := can_mem a3 h; omega
/-- All numbers are below n. -/
def Bd (n : Nat) (s : List Iv) : Prop := ∀ i ∈ s, i.1 < n ∧ i.2 < n
theorem bd_nil (n : Nat) : Bd n [] := fun _ h => by cases h
theorem bd_cons {n : Nat} {i : Iv} {s : List Iv} : Bd n (i :: s) ↔ (i.1 < n ∧ i.2 < n) ∧ Bd n s := by simp [Bd]
theorem bd_append {n : Nat} {s t : List Iv} : Bd n (s ++ t) ↔ Bd n s ∧ Bd n t := by
  simp only [Bd, List.mem_append]
  exact ⟨fun h => ⟨fun i hi => h i (.inl hi), fun i hi => h i (.inr hi)⟩, fun h i hi => hi.elim (h.1 i) (h.2 i)⟩
theorem bd_has {n : Nat} {s : List Iv} (h : Bd n s) {x : Nat} (hx : hasB s x = true) : x < n := by
  obtain ⟨i, hi, h1, h2⟩ := has_iff.1 hx
  have := h i hi; omega
/-- A canonical list whose set has no number from n on. -/
theorem can_bd : ∀ {s : List Iv} {b n : Nat}, Can b s → (∀ x, hasB s x = true → x < n) → Bd n s
  | [], _, _, _, _ => bd_nil _
  | x :: r, b, n, ⟨a1, a2, a3⟩, h => by
    have h2 := h x.2 (by simp [a2])
    refine bd_cons.2 ⟨⟨by omega, h2⟩, can_bd a3 fun z hz => h z (by simp [hz])⟩
theorem can_len : ∀ {s : List Iv} {b n : Nat}, Can b s → Bd n s → s.length ≤ n - b
  | [], _, _, _, _ => Nat.zero_le _
  | x :: r, b, n, ⟨a1, a2, a3⟩, h => by
    have hb := bd_cons.1 h
    have := can_len a3 hb.2
    rw [List.length_cons]; omega

/-! ### The canonical list of a set -/
def addI : Iv → List Iv → List Iv
  | x, [] => [x]
  | x, y :: r => if x.2 + 1 < y.1 then x :: y :: r else if y.2 + 1 < x.1 then y :: addI x r else addI (min x.1 y.1, max x.2 y.2) r
theorem addI_can : ∀ (t : List Iv) (x : Iv) (b : Nat), Can b t → b ≤ x.1 → x.1 ≤ x.2 → Can b (addI x t) ∧ ∀ z, hasB (addI x t) z = hasB (x :: t) z
  | [], x, b, _, h1, h2 => ⟨⟨h1, h2, trivial⟩, fun _ => rfl⟩
  | y :: r, x, b, ⟨a1, a2, a3⟩, h1, h2 => by
    unfold addI
    split
    · exact ⟨⟨h1, h2, by omega, a2, a3⟩, fun _ => rfl⟩
    · split
      · have ih := addI_can r x (y.2 + 2) a3 (by omega) h2
        refine ⟨⟨a1, a2, ih.1⟩, fun z => ?_⟩
        rw [has_cons, ih.2]; simp [Bool.or_left_comm]
      · have ih := addI_can r (min x.1 y.1, max x.2 y.2) b (a3.mono (by omega)) (by simp; omega) (by simp; omega)
        refine ⟨ih.1, fun z => ?_⟩
        rw [ih.2, Bool.eq_iff_iff]
        simp only [has_cons, Bool.or_eq_true, Bool.and_eq_true, decide_eq_true_eq]
        constructor
        · rintro (h | h)
          · omega
          · exact .inr (.inr h)
        · rintro (h | h | h)
          · omega
          · omega
          · exact .inr h
def norm : List Iv → List Iv
  | [] => []
  | x :: r => if x.2 < x.1 then norm r else addI x (norm r)
theorem norm_can : ∀ s : List Iv, Can 0 (norm s) ∧ ∀ z, hasB (norm s) z = hasB s z
  | [] => ⟨trivial, fun _ => rfl⟩
  | x :: r => by
    have ih := norm_can r
    unfold norm
    split
    · refine ⟨ih.1, fun z => ?_⟩
      rw [ih.2, has_cons, Bool.eq_iff_iff]
      simp only [Bool.or_eq_true, Bool.and_eq_true, decide_eq_true_eq]
      exact ⟨.inr, fun h => h.elim (fun g => by omega) id⟩
    · have := addI_can (norm r) x 0 ih.1 (Nat.zero_le _) (by omega)
      exact ⟨this.1, fun z => by rw [this.2, has_cons, has_cons, ih.2]⟩
theorem norm_has (s : List Iv) (z : Nat) : hasB (norm s) z = hasB s z := (norm_can s).2 z
theorem norm_of {s t : List Iv} {b : Nat} (h : Can b t) (hs : ∀ x, hasB t x = hasB s x) : t = norm s :=
  can_uniq h (norm_can s).1 fun x => (hs x).trans (norm_has s x).symm
theorem norm_same {s t : List Iv} (h : ∀ x, hasB s x = hasB t x) : norm s = norm t := norm_of (norm_can s).1 fun x => (norm_has s x).trans (h x)
theorem norm_self {s : List Iv} {b : Nat} (h : Can b s) : norm s = s := (norm_of h fun _ => rfl).symm
theorem norm_norm (s : List Iv) : norm (norm s) = norm s := norm_self (norm_can s).1
theorem norm_bd {n : Nat} {s : List Iv} (h : Bd n s) : Bd n (norm s) := can_bd (norm_can s).1 fun x hx => bd_has h (by rw [← norm_has]; exact hx)
theorem addI_len : ∀ (t : List Iv) (x : Iv), (addI x t).length ≤ t.length + 1
  | [], x => Nat.le_refl _
  | y :: r, x => by
    unfold addI
    split
    · simp
    · split
      · have := addI_len r x; simp; omega
      · have := addI_len r (min x.1 y.1, max x.2 y.2); simp; omega
theorem norm_len : ∀ s : List Iv, (norm s).length ≤ s.length
  | [] => Nat.le_refl _
  | x :: r => by
    have ih := norm_len r
    unfold norm
    split
    · simp; omega
    · have := addI_len (norm r) x; simp; omega
theorem norm_nil_iff {s : List Iv} : norm s = [] ↔ ∀ x, hasB s x = false := by
  constructor
  · intro h x; rw [← norm_has, h]; rfl
  · intro h; exact (norm_of (b := 0) (t := []) trivial fun x => by rw [h]; rfl).symm

/-! ### Canonical or not -/
def canB : List Iv → Bool
  | [] => true
  | [x] => decide (x.1 ≤ x.2)
  | x :: y :: r => decide (x.1 ≤ x.2) && (decide (x.2 + 1 < y.1) && canB (y :: r))
theorem canB_iff : ∀ {s : List Iv}, canB s = true ↔ Can 0 s
  | [] => by simp [canB, Can]
  | [x] => by simp [canB, Can]
  | x :: y :: r => by
    have ih := canB_iff (s := y :: r)
    simp only [canB, Bool.and_eq_true, decide_eq_true_eq, ih]
    unfold Can
    constructor
    · rintro ⟨h1, h2, h3⟩
      refine ⟨Nat.zero_le _, h1, ?_⟩
      obtain ⟨_, h4, h5⟩ := h3
      exact ⟨by omega, h4, h5⟩
    · rintro ⟨h1, h2, h3⟩
      obtain ⟨h4, h5, h6⟩ := h3
      exact ⟨h2, by omega, Nat.zero_le _, h5, h6⟩

/-! ### What two canonical lists have in common -/
def com : List Iv → List Iv → List Iv
  | [], _ => []
  | _ :: _, [] => []
  | x :: a, y :: b => (if max x.1 y.1 ≤ min x.2 y.2 then [(max x.1 y.1, min x.2 y.2)] else []) ++ (if x.2 < y.2 then com a (y :: b) else com (x :: a) b)
termination_by a b => a.length + b.length
theorem com_can : ∀ (n : Nat) (a b : List Iv), a.length + b.length ≤ n → ∀ p q, Can p a → Can q b → Can (max p q) (com a b) ∧ ∀ z, hasB (com a b) z = (hasB a z && hasB b z)
  | _, [], b, _, _, _, _, _ => ⟨by unfold com; trivial, fun z => by unfold com; simp⟩
  | _, _ :: _, [], _, _, _, _, _ => ⟨by unfold com; trivial, fun z => by unfold com; simp⟩
  | 0, x :: a, y :: b, h, _, _, _, _ => by simp at h
  | n + 1, x :: a, y :: b, h, p, q, ⟨a1, a2, a3⟩, ⟨b1, b2, b3⟩ => by
    simp at h
    by_cases hlt : x.2 < y.2
    · have ih := com_can n a (y :: b) (by simp; omega) (x.2 + 2) q a3 ⟨b1, b2, b3⟩
      have e : com (x :: a) (y :: b) = (if max x.1 y.1 ≤ min x.2 y.2 then [(max x.1 y.1, min x.2 y.2)] else []) ++ com a (y :: b) := by rw [com, if_pos hlt]
      rw [e]
      have n1 : ∀ z, z ≤ x.2 → hasB b z = false := fun z hz => b3.not (by omega)
      have n2 : ∀ z, z ≤ x.2 → hasB a z = false := fun z hz => a3.not (by omega)
      constructor
      · split
        · exact ⟨by simp; omega, by simp; omega, ih.1.mono (by simp; omega)⟩
        · exact ih.1.mono (by omega)
      · intro z
        rw [has_append, ih.2]
        have e2 : hasB (if max x.1 y.1 ≤ min x.2 y.2 then [(max x.1 y.1, min x.2 y.2)] else []) z = (decide (max x.1 y.1 ≤ z) && decide (z ≤ min x.2 y.2)) := by
          split
          · simp
          · rw [Bool.eq_iff_iff]; simp; omega
        rw [e2]
        by_cases hz : z ≤ x.2
        · rw [has_cons, has_cons, n1 z hz, n2 z hz, Bool.eq_iff_iff]; simp; omega
        · rw [has_cons, Bool.eq_iff_iff]; simp [hz]; omega
    · have ih := com_can n (x :: a) b (by simp; omega) p (y.2 + 2) ⟨a1, a2, a3⟩ b3
      have e : com (x :: a) (y :: b) = (if max x.1 y.1 ≤ min x.2 y.2 then [(max x.1 y.1, min x.2 y.2)] else []) ++ com (x :: a) b := by rw [com, if_neg hlt]
      rw [e]
      have n1 : ∀ z, z ≤ y.2 → hasB b z = false := fun z hz => b3.not (by omega)
      have n2 : ∀ z, z ≤ y.2 → hasB a z = false := fun z hz => a3.not (by omega)
      constructor
      · split
        · exact ⟨by simp; omega, by simp; omega, ih.1.mono (by simp; omega)⟩
        · exact ih.1.mono (by omega)
      · intro z
        rw [has_append, ih.2]
        have e2 : hasB (if max x.1 y.1 ≤ min x.2 y.2 then [(max x.1 y.1, min x.2 y.2)] else []) z = (decide (max x.1 y.1 ≤ z) && decide (z ≤ min x.2 y.2)) := by
          split
          · simp
          · rw [Bool.eq_iff_iff]; simp; omega
        rw [e2]
        by_cases hz : z ≤ y.2
        · rw [has_cons, has_cons, n1 z hz, n2 z hz, Bool.eq_iff_iff]; simp; omega
        · rw [has_cons, has_cons, Bool.eq_iff_iff]; simp [hz]; omega
theorem com_norm (a b : List Iv) : Can 0 (com (norm a) (norm b)) ∧ ∀ z, hasB (com (norm a) (norm b)) z = (hasB a z && hasB b z) := by
  have := com_can _ (norm a) (norm b) (Nat.le_refl _) 0 0 (norm_can a).1 (norm_can b).1
  refine ⟨this.1, fun z => ?_⟩
  rw [this.2, norm_has, norm_has]

/-! ### The complement below N -/
def cmpl (N : Nat) : Nat → List Iv → List Iv
  | p, [] => if p < N then [(p, N - 1)] else []
  | p, x :: r => (if p < x.1 then [(p, x.1 - 1)] else []) ++ cmpl N (x.2 + 1) r
theorem cmpl_can (N : Nat) : ∀ (s : List Iv) (p : Nat), Can p s → Bd N s → Can p (cmpl N p s) ∧ ∀ z, hasB (cmpl N p s) z = (decide (p ≤ z) && (decide (z < N) && !hasB s z))
  | [], p, _, _ => by
    unfold cmpl
    split
    · exact ⟨⟨Nat.le_refl _, by simp; omega, trivial⟩, fun z => by rw [Bool.eq_iff_iff]; simp; omega⟩
    · exact ⟨trivial, fun z => by rw [Bool.eq_iff_iff]; simp; omega⟩
  | x :: r, p, ⟨a1, a2, a3⟩, hb => by
    have hb' := bd_cons.1 hb
    have ih := cmpl_can N r (x.2 + 1) (a3.mono (by omega)) hb'.2
    unfold cmpl
    have n1 : ∀ z, z ≤ x.2 + 1 → hasB r z = false := fun z hz => a3.not (by omega)
    constructor
    · split
      · exact ⟨Nat.le_refl _, by simp; omega, ih.1.mono (by simp; omega)⟩
      · exact ih.1.mono (by omega)
    · intro z
      rw [has_append, ih.2]
      have e2 : hasB (if p < x.1 then [(p, x.1 - 1)] else []) z = (decide (p ≤ z) && decide (z < x.1)) := by
        split
        · rw [Bool.eq_iff_iff]; simp; omega
        · rw [Bool.eq_iff_iff]; simp; omega
      rw [e2, has_cons]
      by_cases hz : z ≤ x.2
      · rw [n1 z (by omega), Bool.eq_iff_iff]; simp; omega
      · have hz' : x.2 + 1 ≤ z := by omega
        have h1 : ¬ z < x.1 := by omega
        have h2 : p ≤ z := by omega
        rw [Bool.eq_iff_iff]; simp [hz, hz', h1, h2]
def compl (N : Nat) (s : List Iv) : List Iv := cmpl N 0 (norm s)
theorem compl_can {N : Nat} {s : List Iv} (h : Bd N s) : Can 0 (compl N s) ∧ ∀ z, hasB (compl N s) z = (decide (z < N) && !hasB s z) := by
  have := cmpl_can N (norm s) 0 (norm_can s).1 (norm_bd h)
  refine ⟨this.1, fun z => ?_⟩
  rw [show compl N s = cmpl N 0 (norm s) from rfl, this.2, norm_has]; simp
theorem compl_bd {N : Nat} {s : List Iv} (h : Bd N s) : Bd N (compl N s) := can_bd (compl_can h).1 fun x hx => by
  rw [(compl_can h).2] at hx; simp at hx; exact hx.1
theorem cmpl_len (N : Nat) : ∀ (s : List Iv) (p : Nat), (cmpl N p s).length ≤ s.length + 1
  | [], p => by unfold cmpl; split <;> simp
  | x :: r, p => by
    have := cmpl_len N r (x.2 + 1)
    unfold cmpl
    split <;> simp <;> omega
theorem compl_len (N : Nat) (s : List Iv) : (compl N s).length ≤ s.length + 1 := Nat.le_trans (cmpl_len N _ _) (by have := norm_len s; omega)

/-! ### Sizes -/
def sizeL : List Iv → Nat
  | [] => 0
  | x :: r => (x.2 + 1 - x.1) + sizeL r
theorem sizeL_append : ∀ a b : List Iv, sizeL (a ++ b) = sizeL a + sizeL b
  | [], b => by simp [sizeL]
  | x :: r, b => by rw [List.cons_append, sizeL, sizeL, sizeL_append r b]; omega
theorem sizeL_le : ∀ {s : List Iv} {b n : Nat}, Can b s → Bd n s → sizeL s ≤ n - b
  | [], _, _, _, _ => Nat.zero_le _
  | x :: r, b, n, ⟨a1, a2, a3⟩, h => by
    have hb := bd_cons.1 h
    have := sizeL_le a3 hb.2
    rw [sizeL]; omega
/-- How many numbers below n there are. -/
def cnt (f : Nat → Bool) : Nat → Nat
  | 0 => 0
  | n + 1 => cnt f n + if f n then 1 else 0
theorem cnt_congr {f g : Nat → Bool} : ∀ n, (∀ x, x < n → f x = g x) → cnt f n = cnt g n
  | 0, _ => rfl
  | n + 1, h => by rw [cnt, cnt, cnt_congr n fun x hx => h x (by omega), h n (by omega)]
theorem cnt_two (f g : Nat → Bool) : ∀ n, cnt (fun x => f x || g x) n + cnt (fun x => f x && g x) n = cnt f n + cnt g n
  | 0 => rfl
  | n + 1 => by
    have := cnt_two f g n
    simp only [cnt]
    rcases Bool.eq_false_or_eq_true (f n) with h | h <;> rcases Bool.eq_false_or_eq_true (g n) with k | k <;> simp [h, k] <;> omega
theorem cnt_not (f : Nat → Bool) : ∀ n, cnt f n + cnt (fun x => !f x) n = n
  | 0 => rfl
  | n + 1 => by
    have := cnt_not f n
    simp only [cnt]
    rcases Bool.eq_false_or_eq_true (f n) with h | h <;> simp [h] <;> omega
theorem cnt_none (n : Nat) : cnt (fun _ => false) n = 0 := by
  induction n with
  | zero => rfl
  | succ n ih => simp [cnt, ih]
theorem cnt_pos {f : Nat → Bool} : ∀ {n x : Nat}, x < n → f x = true → 0 < cnt f n
  | n + 1, x, h, hf => by
    rw [cnt]
    rcases Nat.lt_or_ge x n with g | g
    · have := cnt_pos g hf; omega
    · have : x = n := by omega
      subst this
      simp [hf]
theorem cnt_iv (lo hi : Nat) : ∀ n, lo ≤ hi → cnt (fun x => decide (lo ≤ x) && decide (x ≤ hi)) n = min n (hi + 1) - min n lo
  | 0, _ => by simp [cnt]
  | n + 1, h => by
    have := cnt_iv lo hi n h
    rw [cnt, this]
    by_cases h1 : lo ≤ n <;> by_cases h2 : n ≤ hi <;> simp [h1, h2] <;> omega
/-- The size of a canonical list is the number of its elements. -/
theorem size_cnt : ∀ {s : List Iv} {b n : Nat}, Can b s → Bd n s → sizeL s = cnt (hasB s) n
  | [], _, n, _, _ => by
    rw [cnt_congr (f := hasB []) (g := fun _ => false) n fun _ _ => rfl, cnt_none]; rfl
  | x :: r, b, n, ⟨a1, a2, a3⟩, h => by
    have hb := bd_cons.1 h
    have ih := size_cnt a3 hb.2
    have e1 := cnt_two (fun z => decide (x.1 ≤ z) && decide (z ≤ x.2)) (hasB r) n
    have e2 : cnt (fun z => (decide (x.1 ≤ z) && decide (z ≤ x.2)) && hasB r z) n = 0 := by
      rw [cnt_congr (g := fun _ => false) n fun z _ => ?_, cnt_none]
      rcases Nat.lt_or_ge z (x.2 + 2) with g | g
      · rw [a3.not g]; simp
      · have : ¬ z ≤ x.2 := by omega
        simp [this]
    have e3 : cnt (hasB (x :: r)) n = cnt (fun z => (decide (x.1 ≤ z) && decide (z ≤ x.2)) || hasB r z) n := cnt_congr n fun z _ => has_cons x r z
    have e4 := cnt_iv x.1 x.2 n a2
    rw [sizeL, ih, e3]
    omega
/-- The number of elements of the set. -/
def sizeV (s : List Iv) : Nat := sizeL (norm s)
theorem sizeV_cnt {n : Nat} {s : List Iv} (h : Bd n s) : sizeV s = cnt (hasB s) n := by
  unfold sizeV
  rw [size_cnt (norm_can s).1 (norm_bd h)]
  exact cnt_congr n fun x _ => norm_has s x
theorem sizeV_le {n : Nat} {s : List Iv} (h : Bd n s) : sizeV s ≤ n := by
  have := sizeL_le (norm_can s).1 (norm_bd h)
  unfold sizeV; omega
theorem sizeV_zero {n : Nat} {s : List Iv} (h : Bd n s) : sizeV s = 0 ↔ (norm s).length = 0 := by
  rw [sizeV_cnt h, List.length_eq_zero_iff, norm_nil_iff]
  constructor
  · intro h0 x
    cases e : hasB s x with
    | false => rfl
    | true => have := cnt_pos (bd_has h e) e; omega
  · intro h0
    rw [cnt_congr (g := fun _ => false) n fun z _ => h0 z, cnt_none]
theorem size_two {n : Nat} {a b u i : List Iv} (ha : Bd n a) (hb : Bd n b) (hu : Bd n u) (hi : Bd n i)
    (eu : ∀ x, hasB u x = (hasB a x || hasB b x)) (ei : ∀ x, hasB i x = (hasB a x && hasB b x)) : sizeV u + sizeV i = sizeV a + sizeV b := by
  rw [sizeV_cnt ha, sizeV_cnt hb, sizeV_cnt hu, sizeV_cnt hi, cnt_congr n fun x _ => eu x, cnt_congr (f := hasB i) n fun x _ => ei x]
  exact cnt_two _ _ n
theorem size_compl {n : Nat} {a : List Iv} (ha : Bd n a) : sizeV a + sizeV (compl n a) = n := by
  rw [sizeV_cnt ha, sizeV_cnt (compl_bd ha), cnt_congr (f := hasB (compl n a)) (g := fun x => !hasB a x) n fun x hx => by rw [(compl_can ha).2]; simp [hx]]
  exact cnt_not _ n
end Go.Proofs.YtmcoccfbbhnmfaaDoor.Ip
