/-
  PLAIN FACTS ON THE PREFIXES THAT MAKE UP A SET: a prefix is a pair (first address, length k at most 32); it is the biggest one inside the set; two lists of such prefixes that cover the same set are one. The greedy cover of an interval, and the cover by halves. No program is named here.
-/
import Derived.Test.YtmcoccfbbhnmfaaDoorAddrP
import Derived.Test.YtmcoccfbbhnmfaaDoorIvlP
namespace Go.Proofs.YtmcoccfbbhnmfaaDoor.Ip
set_option linter.unusedSimpArgs false
set_option linter.unusedVariables false
open Am

abbrev Px := Nat × Nat
/-- x lies in the prefix. -/
def InP (p : Px) (x : Nat) : Prop := p.1 ≤ x ∧ x < p.1 + blk p.2
def OkP (p : Px) : Prop := p.2 ≤ 32 ∧ p.1 % blk p.2 = 0 ∧ p.1 + blk p.2 ≤ 4294967296
/-- The prefix that is one bit shorter. -/
def par (p : Px) : Px := (p.1 / blk (p.2 - 1) * blk (p.2 - 1), p.2 - 1)
def Whole (s : List Iv) (p : Px) : Prop := ∀ x, InP p x → hasB s x = true
/-- A prefix inside the set that no longer one holds. -/
def Big (s : List Iv) (p : Px) : Prop := OkP p ∧ Whole s p ∧ (p.2 = 0 ∨ ¬ Whole s (par p))
/-- Ascending and disjoint. -/
def Asc : Nat → List Px → Prop
  | _, [] => True
  | b, p :: r => b ≤ p.1 ∧ Asc (p.1 + blk p.2) r
theorem Asc.mono : ∀ {l : List Px} {b c : Nat}, Asc b l → c ≤ b → Asc c l
  | [], _, _, _, _ => trivial
  | _ :: _, _, _, ⟨h1, h2⟩, h => ⟨Nat.le_trans h h1, h2⟩
theorem asc_mem : ∀ {l : List Px} {b : Nat} {p : Px}, Asc b l → p ∈ l → b ≤ p.1
  | q :: r, b, p, ⟨h1, h2⟩, h => by
    rcases List.mem_cons.1 h with rfl | h
    · exact h1
    · have := asc_mem h2 h; omega
theorem asc_append : ∀ {l m : List Px} {b c : Nat}, Asc b l → Asc c m → b ≤ c → (∀ p ∈ l, p.1 + blk p.2 ≤ c) → Asc b (l ++ m)
  | [], m, b, c, _, h, hbc, _ => h.mono hbc
  | p :: r, m, b, c, ⟨h1, h2⟩, h, hbc, hl => ⟨h1, asc_append h2 h (hl p (List.mem_cons_self ..)) fun q hq => hl q (List.mem_cons_of_mem _ hq)⟩
theorem asc_uniq : ∀ {l m : List Px} {b c : Nat}, Asc b l → Asc c m → (∀ p, p ∈ l ↔ p ∈ m) → l = m
  | [], [], _, _, _, _, _ => rfl
  | [], q :: m, _, _, _, _, h => absurd ((h q).2 (List.mem_cons_self ..)) (by simp)
  | p :: l, [], _, _, _, _, h => absurd ((h p).1 (List.mem_cons_self ..)) (by simp)
  | p :: l, q :: m, b, c, ⟨h1, h2⟩, ⟨k1, k2⟩, h => by
    have bp := blk_pos p.2
    have bq := blk_pos q.2
    have e : p = q := by
      rcases List.mem_cons.1 ((h p).1 (List.mem_cons_self ..)) with e | g1
      · exact e
      · rcases List.mem_cons.1 ((h q).2 (List.mem_cons_self ..)) with e | g2
        · exact e.symm
        · have := asc_mem k2 g1; have := asc_mem h2 g2; omega
    subst e
    refine congrArg (p :: ·) (asc_uniq h2 k2 fun z => ?_)
    have hz := h z
    constructor
    · intro g
      rcases List.mem_cons.1 (hz.1 (List.mem_cons_of_mem _ g)) with e | g'
      · subst e; have := asc_mem h2 g; omega
      · exact g'
    · intro g
      rcases List.mem_cons.1 (hz.2 (List.mem_cons_of_mem _ g)) with e | g'
      · subst e; have := asc_mem k2 g; omega
      · exact g'

/-! ### Two prefixes that meet: one lies in the other -/
theorem okp_dvd {p : Px} (h : OkP p) : blk p.2 ∣ p.1 := Nat.dvd_of_mod_eq_zero h.2.1
theorem meet_eq {p q : Px} (hp : OkP p) (hq : OkP q) {x : Nat} (h1 : InP p x) (h2 : InP q x) (hk : q.2 ≤ p.2) : q.1 ≤ p.1 ∧ p.1 + blk p.2 ≤ q.1 + blk q.2 := by
  have d : blk p.2 ∣ blk q.2 := blk_dvd q.2 p.2 hk hp.1
  obtain ⟨c, hc⟩ := d
  obtain ⟨u, hu⟩ := okp_dvd hp
  obtain ⟨v, hv⟩ := okp_dvd hq
  obtain ⟨a1, a2⟩ := h1
  obtain ⟨b1, b2⟩ := h2
  have bp := blk_pos p.2
  have hv' : q.1 = blk p.2 * (c * v) := by rw [hv, hc, Nat.mul_assoc]
  have e1 : q.1 + blk q.2 = blk p.2 * (c * v + c) := by rw [hv', hc, Nat.mul_add]
  have l1 : c * v < u + 1 := by
    refine Nat.lt_of_mul_lt_mul_left (a := blk p.2) ?_
    rw [← hv', Nat.mul_add, ← hu]; omega
  have l2 : u < c * v + c := by
    refine Nat.lt_of_mul_lt_mul_left (a := blk p.2) ?_
    rw [← hu, ← e1]; omega
  constructor
  · rw [hv', hu]; exact Nat.mul_le_mul_left _ (by omega)
  · rw [e1, hu]
    have := Nat.mul_le_mul_left (blk p.2) (show u + 1 ≤ c * v + c by omega)
    rwa [Nat.mul_add, Nat.mul_one] at this
theorem par_ok {p : Px} (h : OkP p) (h0 : p.2 ≠ 0) : OkP (par p) ∧ ∀ x, InP p x → InP (par p) x := by
  have hk : p.2 - 1 ≤ 32 := by have := h.1; omega
  have bs := blk_succ (p.2 - 1) (by have := h.1; omega)
  rw [show p.2 - 1 + 1 = p.2 by omega] at bs
  have bp := blk_pos p.2
  have bl := blk_le (p.2 - 1)
  have dm := Nat.div_add_mod p.1 (blk (p.2 - 1))
  have ml := Nat.mod_lt p.1 (blk_pos (p.2 - 1))
  have e0 : p.1 / blk (p.2 - 1) * blk (p.2 - 1) = p.1 - p.1 % blk (p.2 - 1) := by rw [Nat.mul_comm]; omega
  obtain ⟨u, hu⟩ := okp_dvd h
  have hm : p.1 % blk (p.2 - 1) = blk p.2 * (u % 2) := by
    rw [hu, bs, Nat.mul_comm 2, Nat.mul_mod_mul_left]
  have h2 : u % 2 = 0 ∨ u % 2 = 1 := by omega
  obtain ⟨d, hd⟩ := blk_dvd_all (p.2 - 1)
  have hlt : p.1 / blk (p.2 - 1) < d := by
    refine Nat.lt_of_mul_lt_mul_left (a := blk (p.2 - 1)) ?_
    rw [← hd]; have := h.2.2; omega
  have hup : p.1 / blk (p.2 - 1) * blk (p.2 - 1) + blk (p.2 - 1) ≤ 4294967296 := by
    rw [hd, Nat.mul_comm]
    have := Nat.mul_le_mul_left (blk (p.2 - 1)) (show p.1 / blk (p.2 - 1) + 1 ≤ d from hlt)
    rwa [Nat.mul_add, Nat.mul_one] at this
  refine ⟨⟨hk, Nat.mul_mod_left _ _, hup⟩, ?_⟩
  rintro x ⟨x1, x2⟩
  unfold InP par
  simp only
  rw [e0, hm]
  rcases h2 with h2 | h2
  · rw [h2]; omega
  · rw [h2, Nat.mul_one] at hm ⊢
    have : blk p.2 ≤ p.1 := by
      rcases Nat.eq_zero_or_pos u with g | g
      · subst g; simp at h2
      · rw [hu]; exact Nat.le_mul_of_pos_right _ g
    omega
/-- The parent is the one prefix of its length that meets p. -/
theorem par_in {p q : Px} (hp : OkP p) (hq : OkP q) {x : Nat} (h1 : InP p x) (h2 : InP q x) (hk : q.2 < p.2) : ∀ y, InP (par p) y → InP q y := by
  have hpp := par_ok hp (by omega)
  rintro y ⟨y1, y2⟩
  have := meet_eq hpp.1 hq (hpp.2 x h1) h2 (by show q.2 ≤ p.2 - 1; omega)
  exact ⟨by omega, by omega⟩
theorem big_meet {s : List Iv} {p q : Px} (hp : Big s p) (hq : Big s q) {x : Nat} (h1 : InP p x) (h2 : InP q x) : p = q := by
  rcases Nat.lt_trichotomy p.2 q.2 with h | h | h
  · exact absurd (fun y hy => hp.2.1 y (par_in hq.1 hp.1 h2 h1 h y hy)) (hq.2.2.resolve_left (by omega))
  · have a := meet_eq hp.1 hq.1 h1 h2 (by omega)
    have b := meet_eq hq.1 hp.1 h2 h1 (by omega)
    exact Prod.ext (by omega) h
  · exact absurd (fun y hy => hq.2.1 y (par_in hp.1 hq.1 h1 h2 h y hy)) (hp.2.2.resolve_left (by omega))

/-- The list of prefixes that is promised. -/
def Cover (s : List Iv) (l : List Px) : Prop := Asc 0 l ∧ (∀ p ∈ l, Big s p) ∧ ∀ x, hasB s x = true → ∃ p ∈ l, InP p x
theorem cover_uniq {s : List Iv} {l m : List Px} (hl : Cover s l) (hm : Cover s m) : l = m := by
  refine asc_uniq hl.1 hm.1 fun p => ⟨fun h => ?_, fun h => ?_⟩
  · have bp := blk_pos p.2
    have hi : InP p p.1 := ⟨Nat.le_refl _, by omega⟩
    have hb := hl.2.1 p h
    obtain ⟨q, hq, hx⟩ := hm.2.2 p.1 (hb.2.1 _ hi)
    rw [big_meet hb (hm.2.1 q hq) hi hx]; exact hq
  · have bp := blk_pos p.2
    have hi : InP p p.1 := ⟨Nat.le_refl _, by omega⟩
    have hb := hm.2.1 p h
    obtain ⟨q, hq, hx⟩ := hl.2.2 p.1 (hb.2.1 _ hi)
    rw [big_meet hb (hl.2.1 q hq) hi hx]; exact hq
theorem cover_same {s t : List Iv} (h : ∀ x, hasB s x = hasB t x) {l : List Px} (hl : Cover s l) : Cover t l := by
  have e : hasB s = hasB t := funext h
  unfold Cover Big Whole at *
  rwa [e] at hl

/-! ### Canonical lists and stretches of numbers -/
def wholeB (s : List Iv) (a h : Nat) : Bool := s.any fun i => decide (i.1 ≤ a) && decide (h ≤ i.2)
def meetsB (s : List Iv) (a h : Nat) : Bool := s.any fun i => decide (i.1 ≤ h) && decide (a ≤ i.2)
theorem whole_iff : ∀ {s : List Iv} {b a h : Nat}, Can b s → a ≤ h → (wholeB s a h = true ↔ ∀ x, a ≤ x → x ≤ h → hasB s x = true)
  | [], b, a, h, _, hah => by
    unfold wholeB
    simp only [List.any_nil, has_nil]
    exact ⟨fun h => (by cases h), fun g => g a (Nat.le_refl _) hah⟩
  | i :: r, b, a, h, ⟨c1, c2, c3⟩, hah => by
    have ih := whole_iff (s := r) (a := a) (h := h) c3 hah
    have e : wholeB (i :: r) a h = ((decide (i.1 ≤ a) && decide (h ≤ i.2)) || wholeB r a h) := by simp [wholeB]
    rw [e]
    by_cases hi : i.1 ≤ a ∧ h ≤ i.2
    · simp only [hi.1, hi.2, decide_true, Bool.and_self, Bool.true_or, true_iff]
      intro x h1 h2
      rw [has_cons, decide_eq_true (show i.1 ≤ x by omega), decide_eq_true (show x ≤ i.2 by omega)]; rfl
    · have e2 : (decide (i.1 ≤ a) && decide (h ≤ i.2)) = false := by
        rw [← Bool.not_eq_true, Bool.and_eq_true, decide_eq_true_eq, decide_eq_true_eq]; exact hi
      rw [e2, Bool.false_or, ih]
      constructor
      · intro g x h1 h2; rw [has_cons, g x h1 h2]; simp
      · intro g x h1 h2
        have ga := g a (Nat.le_refl _) hah
        have na : ¬ (i.1 ≤ a ∧ a ≤ i.2) := by
          rintro ⟨g1, g2⟩
          have g3 := g (i.2 + 1) (by omega) (by omega)
          rw [has_cons, c3.not (by omega)] at g3
          simp at g3; omega
        have gx := g x h1 h2
        rw [has_cons] at ga gx
        have hra : hasB r a = true := by simp at ga; rcases ga with ga | ga; exact absurd ga na; exact ga
        have := c3.ge hra
        simp at gx
        rcases gx with gx | gx
        · omega
        · exact gx
theorem meets_iff {s : List Iv} {b a h : Nat} (hc : Can b s) (hah : a ≤ h) : meetsB s a h = true ↔ ∃ x, a ≤ x ∧ x ≤ h ∧ hasB s x = true := by
  unfold meetsB
  rw [List.any_eq_true]
  constructor
  · rintro ⟨i, hi, hx⟩
    have := (can_mem hc hi).2
    simp at hx
    exact ⟨max a i.1, by omega, by omega, has_iff.2 ⟨i, hi, by omega, by omega⟩⟩
  · rintro ⟨x, h1, h2, h3⟩
    obtain ⟨i, hi, g1, g2⟩ := has_iff.1 h3
    exact ⟨i, hi, by simp; omega⟩
theorem can_same : ∀ {s : List Iv} {b x : Nat} {i j : Iv}, Can b s → i ∈ s → j ∈ s → i.1 ≤ x → x ≤ i.2 → j.1 ≤ x → x ≤ j.2 → i = j
  | y :: r, b, x, i, j, ⟨c1, c2, c3⟩, hi, hj, h1, h2, h3, h4 => by
    rcases List.mem_cons.1 hi with e1 | hi' <;> rcases List.mem_cons.1 hj with e2 | hj'
    · rw [e1, e2]
    · subst e1; have := can_mem c3 hj'; omega
    · subst e2; have := can_mem c3 hi'; omega
    · exact can_same c3 hi' hj' h1 h2 h3 h4
/-- A stretch inside the set lies in the interval that holds one of its numbers. -/
theorem whole_in {s : List Iv} {b a h x : Nat} {i : Iv} (hc : Can b s) (hi : i ∈ s) (h1 : i.1 ≤ x) (h2 : x ≤ i.2) (h3 : a ≤ x) (h4 : x ≤ h) (hw : ∀ y, a ≤ y → y ≤ h → hasB s y = true) : i.1 ≤ a ∧ h ≤ i.2 := by
  have hb := (whole_iff hc (by omega)).2 hw
  unfold wholeB at hb
  rw [List.any_eq_true] at hb
  obtain ⟨j, hj, hx⟩ := hb
  simp at hx
  rw [can_same hc hi hj h1 h2 (by omega) (by omega)]
  exact hx

/-! ### The cover by halves -/
def wth (s : List Iv) : Nat → Nat → List Px
  | 0, a => if wholeB s a a then [(a, 32)] else []
  | f + 1, a => if wholeB s a (a + blk (32 - (f + 1)) - 1) then [(a, 32 - (f + 1))] else if meetsB s a (a + blk (32 - (f + 1)) - 1) then wth s f a ++ wth s f (a + blk (32 - f)) else []
theorem wholeP {s : List Iv} {b : Nat} (hc : Can b s) (a k : Nat) : wholeB s a (a + blk k - 1) = true ↔ Whole s (a, k) := by
  have := blk_pos k
  rw [whole_iff hc (by omega)]
  unfold Whole InP
  simp only
  exact ⟨fun h x hx => h x hx.1 (by omega), fun h x h1 h2 => h x ⟨h1, by omega⟩⟩
theorem wth_all {s : List Iv} {b : Nat} (hc : Can b s) : ∀ (f a : Nat), f ≤ 32 → OkP (a, 32 - f) →
    Asc a (wth s f a) ∧ (∀ p ∈ wth s f a, OkP p ∧ Whole s p ∧ a ≤ p.1 ∧ p.1 + blk p.2 ≤ a + blk (32 - f) ∧ (p = (a, 32 - f) ∨ (32 - f < p.2 ∧ ¬ Whole s (par p)))) ∧
    ∀ x, InP (a, 32 - f) x → hasB s x = true → ∃ p ∈ wth s f a, InP p x
  | 0, a, _, hok => by
    have e1 : blk 32 = 1 := by decide
    have hw := wholeP hc a 32
    rw [e1, Nat.add_sub_cancel] at hw
    unfold wth
    by_cases h : wholeB s a a = true
    · rw [if_pos h]
      refine ⟨⟨Nat.le_refl _, trivial⟩, fun p hp => ?_, fun x hx _ => ⟨_, List.mem_singleton.2 rfl, hx⟩⟩
      rw [List.mem_singleton.1 hp]
      exact ⟨hok, hw.1 h, Nat.le_refl _, Nat.le_refl _, .inl rfl⟩
    · rw [if_neg h]
      refine ⟨trivial, fun _ hp => (by cases hp), fun x hx hs => ?_⟩
      exfalso
      apply h
      rw [whole_iff hc (Nat.le_refl _)]
      intro y h1 h2
      have : x = y := by have := hx.1; have := hx.2; simp only [Nat.sub_zero, e1] at *; omega
      rw [← this]; exact hs
  | f + 1, a, hf, hok => by
    have hk : 32 - f = 32 - (f + 1) + 1 := by omega
    have bs := blk_succ (32 - (f + 1)) (by omega)
    rw [← hk] at bs
    have bp := blk_pos (32 - f)
    have hw := wholeP hc a (32 - (f + 1))
    unfold wth
    by_cases h : wholeB s a (a + blk (32 - (f + 1)) - 1) = true
    · rw [if_pos h]
      refine ⟨⟨Nat.le_refl _, trivial⟩, fun p hp => ?_, fun x hx _ => ⟨_, List.mem_singleton.2 rfl, hx⟩⟩
      rw [List.mem_singleton.1 hp]
      exact ⟨hok, hw.1 h, Nat.le_refl _, Nat.le_refl _, .inl rfl⟩
    · rw [if_neg h]
      by_cases hm : meetsB s a (a + blk (32 - (f + 1)) - 1) = true
      · rw [if_pos hm]
        obtain ⟨o1, o2, o3⟩ := hok
        simp only at o1 o2 o3
        obtain ⟨u, hu⟩ := Nat.dvd_of_mod_eq_zero o2
        have hu2 : a = blk (32 - f) * (2 * u) := by rw [hu, bs, Nat.mul_comm 2 (blk (32 - f)), Nat.mul_assoc]
        have okl : OkP (a, 32 - f) := ⟨by simp, by show a % blk (32 - f) = 0; rw [hu2]; exact Nat.mul_mod_right _ _, by show a + blk (32 - f) ≤ _; omega⟩
        have okh : OkP (a + blk (32 - f), 32 - f) := ⟨by simp, by show (a + blk (32 - f)) % blk (32 - f) = 0; rw [Nat.add_mod_right, hu2]; exact Nat.mul_mod_right _ _, by show a + blk (32 - f) + blk (32 - f) ≤ _; omega⟩
        have il := wth_all hc f a (by omega) okl
        have ih := wth_all hc f (a + blk (32 - f)) (by omega) okh
        have nw : ¬ Whole s (a, 32 - (f + 1)) := fun g => h (hw.2 g)
        have pl : par (a, 32 - f) = (a, 32 - (f + 1)) := by
          unfold par; simp only
          rw [show 32 - f - 1 = 32 - (f + 1) by omega]
          rw [show a / blk (32 - (f + 1)) * blk (32 - (f + 1)) = a by exact Nat.div_mul_cancel (Nat.dvd_of_mod_eq_zero o2)]
        have ph : par (a + blk (32 - f), 32 - f) = (a, 32 - (f + 1)) := by
          unfold par; simp only
          rw [show 32 - f - 1 = 32 - (f + 1) by omega]
          have bq := blk_pos (32 - (f + 1))
          have : (a + blk (32 - f)) / blk (32 - (f + 1)) = a / blk (32 - (f + 1)) := by
            rw [hu, Nat.mul_add_div bq, Nat.mul_div_cancel_left _ bq, Nat.div_eq_of_lt (by omega), Nat.add_zero]
          rw [this, Nat.div_mul_cancel (Nat.dvd_of_mod_eq_zero o2)]
        refine ⟨asc_append il.1 ih.1 (by omega) fun p hp => (il.2.1 p hp).2.2.2.1, fun p hp => ?_, fun x hx hs => ?_⟩
        · rcases List.mem_append.1 hp with hp | hp
          · obtain ⟨p1, p2, p3, p4, p5⟩ := il.2.1 p hp
            refine ⟨p1, p2, p3, by omega, .inr ?_⟩
            rcases p5 with rfl | p5
            · exact ⟨by simp; omega, by rw [pl]; exact nw⟩
            · exact ⟨by omega, p5.2⟩
          · obtain ⟨p1, p2, p3, p4, p5⟩ := ih.2.1 p hp
            refine ⟨p1, p2, by omega, by omega, .inr ?_⟩
            rcases p5 with rfl | p5
            · exact ⟨by simp; omega, by rw [ph]; exact nw⟩
            · exact ⟨by omega, p5.2⟩
        · obtain ⟨x1, x2⟩ := hx
          simp only at x1 x2
          rcases Nat.lt_or_ge x (a + blk (32 - f)) with g | g
          · obtain ⟨p, hp, hx⟩ := il.2.2 x ⟨x1, g⟩ hs
            exact ⟨p, List.mem_append_left _ hp, hx⟩
          · obtain ⟨p, hp, hx⟩ := ih.2.2 x ⟨g, by simp only; omega⟩ hs
            exact ⟨p, List.mem_append_right _ hp, hx⟩
      · rw [if_neg hm]
        refine ⟨trivial, fun _ hp => (by cases hp), fun x hx hs => ?_⟩
        exfalso
        apply hm
        rw [meets_iff hc (by omega)]
        obtain ⟨x1, x2⟩ := hx
        simp only at x1 x2
        exact ⟨x, x1, by omega, hs⟩
theorem wth_cover {s : List Iv} {b : Nat} (hc : Can b s) (hb : Bd 4294967296 s) : Cover s (wth s 32 0) := by
  have e0 : blk 0 = 4294967296 := by decide
  have h := wth_all hc 32 0 (Nat.le_refl _) ⟨by simp, by simp, by simp [e0]⟩
  rw [Nat.sub_self] at h
  refine ⟨h.1, fun p hp => ?_, fun x hx => ?_⟩
  · obtain ⟨p1, p2, p3, p4, p5⟩ := h.2.1 p hp
    refine ⟨p1, p2, ?_⟩
    rcases p5 with rfl | p5
    · exact .inl rfl
    · exact .inr p5.2
  · have := bd_has hb hx
    exact h.2.2 x ⟨Nat.zero_le _, by simp only; rw [e0]; omega⟩ hx
theorem wth_len (s : List Iv) : ∀ f a, (wth s f a).length ≤ 2 ^ f
  | 0, a => by unfold wth; split <;> simp
  | f + 1, a => by
    have h1 := wth_len s f a
    have h2 := wth_len s f (a + blk (32 - f))
    have := Nat.pow_pos (n := f) (show 0 < 2 by decide)
    unfold wth
    split
    · rw [Nat.pow_succ]; simp; omega
    · split
      · rw [List.length_append, Nat.pow_succ]; omega
      · simp

/-! ### The greedy cover of one interval -/
/-- How many zero bits n ends in; 32 for 0. -/
def tz (n : Nat) : Nat := if n = 0 then 32 else if n % 2 = 1 then 0 else tz (n / 2) + 1
termination_by n
theorem tz_dvd : ∀ n, n ≠ 0 → 2 ^ tz n ∣ n ∧ ¬ 2 ^ (tz n + 1) ∣ n := by
  intro n
  induction n using Nat.strongRecOn with
  | ind n ih =>
    intro h0
    unfold tz
    rw [if_neg h0]
    split
    · rename_i h1
      refine ⟨by simp, fun h => ?_⟩
      have : n % 2 = 0 := Nat.mod_eq_zero_of_dvd (by simpa using h)
      omega
    · rename_i h1
      have h2 := ih (n / 2) (by omega) (by omega)
      have e : n = 2 * (n / 2) := by omega
      constructor
      · rw [Nat.pow_succ, Nat.mul_comm]
        rw [e]; rw [show 2 * (n / 2) / 2 = n / 2 by omega]
        exact Nat.mul_dvd_mul_left 2 h2.1
      · intro g
        apply h2.2
        rw [Nat.pow_succ, Nat.mul_comm] at g
        rw [e] at g; rw [show 2 * (n / 2) / 2 = n / 2 by omega] at g
        exact Nat.dvd_of_mul_dvd_mul_left (by decide) g
theorem tz_lt {n : Nat} (h0 : n ≠ 0) (h : n < 4294967296) : tz n < 32 := by
  have h1 := (tz_dvd n h0).1
  have := Nat.le_of_dvd (by omega) h1
  rcases Nat.lt_or_ge (tz n) 32 with g | g
  · exact g
  · have := Nat.pow_le_pow_right (n := 2) (by decide) g
    have e : (2 : Nat) ^ 32 = 4294967296 := by decide
    omega
theorem tz_le (n : Nat) (h : n < 4294967296) : tz n ≤ 32 := by
  by_cases h0 : n = 0
  · subst h0; unfold tz; simp
  · have := tz_lt h0 h; omega
/-- A block of 2^j numbers that begins at n: just where j is at most tz n. -/
theorem tz_iff {n j : Nat} (h : n < 4294967296) (hj : j ≤ 32) : 2 ^ j ∣ n ↔ j ≤ tz n := by
  by_cases h0 : n = 0
  · subst h0; unfold tz; simp [hj]
  · have h1 := tz_dvd n h0
    constructor
    · intro g
      rcases Nat.lt_or_ge (tz n) j with g1 | g1
      · exact absurd (Nat.dvd_trans (Nat.pow_dvd_pow 2 (by omega)) g) h1.2
      · exact g1
    · intro g; exact Nat.dvd_trans (Nat.pow_dvd_pow 2 g) h1.1
/-- How wide the prefix is that begins at lo and ends at hi or before it: 2^wid numbers. -/
def wid (lo hi : Nat) : Nat := min (tz lo) (Lib.bitLen (hi - lo + 1) - 1)
theorem bit_iff {x j : Nat} (h : 0 < x) (h64 : x < 2 ^ 64) : 2 ^ j ≤ x ↔ j ≤ Lib.bitLen x - 1 := by
  have hl : ∀ x, 0 < x → x < 2 ^ 64 → 0 < Lib.bitLen x ∧ 2 ^ (Lib.bitLen x - 1) ≤ x ∧ x < 2 ^ Lib.bitLen x := by
    intro x
    induction x using Nat.strongRecOn with
    | ind x ih =>
      intro hx h6
      rw [Lib.bitLen_half x (by omega) h6]
      by_cases h1 : x = 1
      · subst h1; decide
      · have := ih (x / 2) (by omega) (by omega) (by omega)
        obtain ⟨a, b, c⟩ := this
        refine ⟨by omega, ?_, ?_⟩
        · rw [show 1 + Lib.bitLen (x / 2) - 1 = (Lib.bitLen (x / 2) - 1) + 1 by omega, Nat.pow_succ]; omega
        · rw [Nat.add_comm, Nat.pow_succ]; omega
  obtain ⟨a, b, c⟩ := hl x h h64
  constructor
  · intro g
    have : j < Lib.bitLen x := by
      rcases Nat.lt_or_ge j (Lib.bitLen x) with g1 | g1
      · exact g1
      · have := Nat.pow_le_pow_right (n := 2) (by decide) g1; omega
    omega
  · intro g
    exact Nat.le_trans (Nat.pow_le_pow_right (by decide) g) b
theorem wid_iff {lo hi j : Nat} (h1 : lo ≤ hi) (h2 : hi < 4294967296) (hj : j ≤ 32) : j ≤ wid lo hi ↔ 2 ^ j ∣ lo ∧ lo + 2 ^ j ≤ hi + 1 := by
  unfold wid
  rw [Nat.le_min, ← tz_iff (by omega) hj, ← bit_iff (by omega) (by rw [show (2 : Nat) ^ 64 = 18446744073709551616 by decide]; omega)]
  constructor
  · rintro ⟨a, b⟩; exact ⟨a, by omega⟩
  · rintro ⟨a, b⟩; exact ⟨a, by omega⟩
theorem wid_le {lo hi : Nat} (h : lo < 4294967296) : wid lo hi ≤ 32 := by have := tz_le lo h; unfold wid; omega
theorem wid_fits {lo hi : Nat} (h1 : lo ≤ hi) (h2 : hi < 4294967296) : 2 ^ wid lo hi ∣ lo ∧ lo + 2 ^ wid lo hi ≤ hi + 1 := (wid_iff h1 h2 (wid_le (by omega))).1 (Nat.le_refl _)
theorem blk_wid {j : Nat} (h : j ≤ 32) : blk (32 - j) = 2 ^ j := by unfold blk; rw [show 32 - (32 - j) = j by omega]
def grd (lo hi : Nat) : List Px :=
  if h : lo ≤ hi then (lo, 32 - wid lo hi) :: grd (lo + 2 ^ wid lo hi) hi else []
termination_by hi + 1 - lo
decreasing_by have := Nat.pow_pos (n := wid lo hi) (show 0 < 2 by decide); omega
theorem grd_no {lo hi : Nat} (h : hi < lo) : grd lo hi = [] := by unfold grd; rw [dif_neg (by omega)]
theorem grd_yes {lo hi : Nat} (h : lo ≤ hi) : grd lo hi = (lo, 32 - wid lo hi) :: grd (lo + 2 ^ wid lo hi) hi := by
  conv => lhs; unfold grd
  rw [dif_pos h]

/-- No block inside lo to hi has 'next' in its inside. -/
def Free (lo hi next : Nat) : Prop := ∀ q : Px, OkP q → lo ≤ q.1 → q.1 + blk q.2 ≤ hi + 1 → ¬ (q.1 < next ∧ next < q.1 + blk q.2)
theorem free_start (lo hi : Nat) : Free lo hi lo := fun q _ h1 _ h => by omega
theorem wid_ok {next hi : Nat} (h1 : next ≤ hi) (h2 : hi < 4294967296) : OkP (next, 32 - wid next hi) := by
  have hw := wid_fits h1 h2
  have hl := wid_le (lo := next) (hi := hi) (by omega)
  unfold OkP
  simp only
  rw [blk_wid hl]
  exact ⟨by omega, Nat.mod_eq_zero_of_dvd hw.1, by omega⟩
/-- No longer block begins at next. -/
theorem wid_max {next hi : Nat} (h1 : next ≤ hi) (h2 : hi < 4294967296) {q : Px} (hq : OkP q) (e : q.1 = next) (he : q.1 + blk q.2 ≤ hi + 1) : 32 - wid next hi ≤ q.2 := by
  have h := (wid_iff (j := 32 - q.2) h1 h2 (by omega)).2 ⟨by rw [← e]; exact okp_dvd hq, by rw [← e]; exact he⟩
  have := hq.1
  omega
theorem free_next {lo hi next : Nat} (hl : lo ≤ next) (h1 : next ≤ hi) (h2 : hi < 4294967296) (hf : Free lo hi next) : Free lo hi (next + 2 ^ wid next hi) := by
  rintro q hq q1 q2 ⟨q3, q4⟩
  have hok := wid_ok h1 h2
  have hlw := wid_le (lo := next) (hi := hi) (by omega)
  have hb := blk_wid hlw
  have hp := Nat.pow_pos (n := wid next hi) (show 0 < 2 by decide)
  rcases Nat.lt_trichotomy q.1 next with g | g | g
  · exact hf q hq q1 q2 ⟨g, by omega⟩
  · have hm := wid_max h1 h2 hq g q2
    have d := blk_dvd (32 - wid next hi) q.2 hm hq.1
    have := Nat.le_of_dvd (blk_pos _) d
    omega
  · have i1 : InP (next, 32 - wid next hi) q.1 := ⟨by simp only; omega, by simp only; omega⟩
    have i2 : InP q q.1 := ⟨Nat.le_refl _, by have := blk_pos q.2; omega⟩
    rcases Nat.le_total q.2 (32 - wid next hi) with hk | hk
    · have := meet_eq hok hq i1 i2 hk
      simp only at this; omega
    · have := meet_eq hq hok i2 i1 hk
      simp only at this; omega
theorem free_par {lo hi next : Nat} (hl : lo ≤ next) (h1 : next ≤ hi) (h2 : hi < 4294967296) (hf : Free lo hi next) (h0 : 32 - wid next hi ≠ 0) :
    ¬ (lo ≤ (par (next, 32 - wid next hi)).1 ∧ (par (next, 32 - wid next hi)).1 + blk (par (next, 32 - wid next hi)).2 ≤ hi + 1) := by
  rintro ⟨g1, g2⟩
  have hok := wid_ok h1 h2
  have hpp := par_ok hok h0
  have hin := hpp.2 next ⟨Nat.le_refl _, by have := blk_pos (32 - wid next hi); simp only; omega⟩
  rcases Nat.lt_or_ge (par (next, 32 - wid next hi)).1 next with g | g
  · exact hf _ hpp.1 g1 g2 ⟨g, hin.2⟩
  · have e : (par (next, 32 - wid next hi)).1 = next := by have := hin.1; omega
    have := wid_max h1 h2 hpp.1 e g2
    unfold par at this; simp only at this; omega
theorem grd_all (hi : Nat) (h2 : hi < 4294967296) (lo : Nat) : ∀ (n next : Nat), hi + 1 - next ≤ n → lo ≤ next → next ≤ hi + 1 → Free lo hi next →
    Asc next (grd next hi) ∧ (∀ p ∈ grd next hi, OkP p ∧ next ≤ p.1 ∧ p.1 + blk p.2 ≤ hi + 1 ∧ (p.2 = 0 ∨ ¬ (lo ≤ (par p).1 ∧ (par p).1 + blk (par p).2 ≤ hi + 1))) ∧ ∀ x, next ≤ x → x ≤ hi → ∃ p ∈ grd next hi, InP p x := by
  intro n
  induction n with
  | zero =>
    intro next hn _ _ _
    rw [grd_no (by omega)]
    exact ⟨trivial, fun _ h => (by cases h), fun x h1 h2 => by omega⟩
  | succ n ih =>
    intro next hn hl hle hf
    rcases Nat.lt_or_ge hi next with g | g
    · rw [grd_no g]
      exact ⟨trivial, fun _ h => (by cases h), fun x h1 h2 => by omega⟩
    · rw [grd_yes g]
      have hlw := wid_le (lo := next) (hi := hi) (by omega)
      have hb := blk_wid hlw
      have hp := Nat.pow_pos (n := wid next hi) (show 0 < 2 by decide)
      have hw := wid_fits g h2
      have k := ih (next + 2 ^ wid next hi) (by omega) (by omega) (by omega) (free_next hl g h2 hf)
      refine ⟨⟨Nat.le_refl _, by simp only; rw [hb]; exact k.1⟩, fun p hp' => ?_, fun x x1 x2 => ?_⟩
      · rcases List.mem_cons.1 hp' with rfl | hp'
        · refine ⟨wid_ok g h2, Nat.le_refl _, by simp only; omega, ?_⟩
          by_cases h0 : 32 - wid next hi = 0
          · exact .inl h0
          · exact .inr (free_par hl g h2 hf h0)
        · obtain ⟨a1, a2, a3, a4⟩ := k.2.1 p hp'
          exact ⟨a1, by omega, a3, a4⟩
      · rcases Nat.lt_or_ge x (next + 2 ^ wid next hi) with g1 | g1
        · exact ⟨_, List.mem_cons_self .., x1, by simp only; omega⟩
        · obtain ⟨p, hp', hx⟩ := k.2.2 x g1 x2
          exact ⟨p, List.mem_cons_of_mem _ hp', hx⟩
theorem asc_len : ∀ {l : List Px} {b c : Nat}, Asc b l → (∀ p ∈ l, p.1 + blk p.2 ≤ c) → l.length ≤ c - b
  | [], _, _, _, _ => Nat.zero_le _
  | p :: r, b, c, ⟨h1, h2⟩, h => by
    have := asc_len h2 fun q hq => h q (List.mem_cons_of_mem _ hq)
    have h3 := h p (List.mem_cons_self ..)
    have := blk_pos p.2
    rw [List.length_cons]; omega

/-! ### The greedy cover of a canonical list -/
def pref : List Iv → List Px
  | [] => []
  | i :: r => grd i.1 i.2 ++ pref r
theorem pref_append : ∀ a b : List Iv, pref (a ++ b) = pref a ++ pref b
  | [], _ => rfl
  | i :: r, b => by rw [List.cons_append, pref, pref, pref_append r b, List.append_assoc]
theorem pref_all : ∀ {s : List Iv} {b : Nat}, Can b s → Bd 4294967296 s → Asc b (pref s) ∧
    (∀ p ∈ pref s, OkP p ∧ ∃ i ∈ s, i.1 ≤ p.1 ∧ p.1 + blk p.2 ≤ i.2 + 1 ∧ (p.2 = 0 ∨ ¬ (i.1 ≤ (par p).1 ∧ (par p).1 + blk (par p).2 ≤ i.2 + 1))) ∧ ∀ x, hasB s x = true → ∃ p ∈ pref s, InP p x
  | [], _, _, _ => ⟨trivial, fun _ h => (by cases h), fun _ h => (by cases h)⟩
  | i :: r, b, ⟨c1, c2, c3⟩, hb => by
    have hb' := bd_cons.1 hb
    have g := grd_all i.2 hb'.1.2 i.1 _ i.1 (Nat.le_refl _) (Nat.le_refl _) (by omega) (free_start _ _)
    have k := pref_all (c3.mono (show i.2 + 1 ≤ i.2 + 2 by omega)) hb'.2
    refine ⟨asc_append (g.1.mono c1) k.1 (by omega) fun p hp => (g.2.1 p hp).2.2.1, fun p hp => ?_, fun x hx => ?_⟩
    · rcases List.mem_append.1 hp with hp | hp
      · obtain ⟨a1, a2, a3, a4⟩ := g.2.1 p hp
        exact ⟨a1, i, List.mem_cons_self .., a2, a3, a4⟩
      · obtain ⟨a1, j, hj, a2⟩ := k.2.1 p hp
        exact ⟨a1, j, List.mem_cons_of_mem _ hj, a2⟩
    · rw [has_cons] at hx
      simp at hx
      rcases hx with hx | hx
      · obtain ⟨p, hp, h⟩ := g.2.2 x hx.1 hx.2
        exact ⟨p, List.mem_append_left _ hp, h⟩
      · obtain ⟨p, hp, h⟩ := k.2.2 x hx
        exact ⟨p, List.mem_append_right _ hp, h⟩
theorem pref_cover {s : List Iv} {b : Nat} (hc : Can b s) (hb : Bd 4294967296 s) : Cover s (pref s) := by
  have h := pref_all hc hb
  refine ⟨h.1.mono (Nat.zero_le _), fun p hp => ?_, h.2.2⟩
  obtain ⟨a1, i, hi, a2, a3, a4⟩ := h.2.1 p hp
  have bp := blk_pos p.2
  refine ⟨a1, fun x hx => has_iff.2 ⟨i, hi, by have := hx.1; omega, by have := hx.2; omega⟩, ?_⟩
  rcases a4 with a4 | a4
  · exact .inl a4
  · by_cases h0 : p.2 = 0
    · exact .inl h0
    · refine .inr fun hw => a4 ?_
      have hpp := par_ok a1 h0
      have hin := hpp.2 p.1 ⟨Nat.le_refl _, by omega⟩
      have bq := blk_pos (par p).2
      have := whole_in (a := (par p).1) (h := (par p).1 + blk (par p).2 - 1) hc hi a2 (by omega) hin.1 (by have := hin.2; omega) fun y y1 y2 => hw y ⟨y1, by omega⟩
      omega
theorem pref_len {s : List Iv} (hc : Can 0 s) (hb : Bd 4294967296 s) : (pref s).length ≤ 4294967296 := by
  have h := pref_all hc hb
  have := asc_len (c := 4294967296) h.1 fun p hp => (h.2.1 p hp).1.2.2
  omega
/-- The list of prefixes of the set that s denotes. -/
def prefs (s : List Iv) : List Px := pref (norm s)
theorem prefs_cover {s : List Iv} (h : Bd 4294967296 s) : Cover s (prefs s) := cover_same (norm_has s) (pref_cover (norm_can s).1 (norm_bd h))
theorem prefs_wth {s : List Iv} (h : Bd 4294967296 s) : wth (norm s) 32 0 = prefs s := cover_uniq (wth_cover (norm_can s).1 (norm_bd h)) (pref_cover (norm_can s).1 (norm_bd h))
theorem prefs_of {s : List Iv} (h : Bd 4294967296 s) {l : List Px} (hl : Cover s l) : l = prefs s := cover_uniq hl (prefs_cover h)
theorem prefs_len {s : List Iv} (h : Bd 4294967296 s) : (prefs s).length ≤ 4294967296 := pref_len (norm_can s).1 (norm_bd h)
theorem prefs_ok {s : List Iv} (h : Bd 4294967296 s) : ∀ p ∈ prefs s, OkP p := fun p hp => ((prefs_cover h).2.1 p hp).1
/-- An address is in one of the prefixes just where it is in the set. -/
theorem prefs_has {s : List Iv} (h : Bd 4294967296 s) (x : Nat) : ((prefs s).any fun p => decide (p.1 ≤ x) && decide (x < p.1 + blk p.2)) = hasB s x := by
  have c := prefs_cover h
  rw [Bool.eq_iff_iff, List.any_eq_true]
  constructor
  · rintro ⟨p, hp, hx⟩
    simp at hx
    exact (c.2.1 p hp).2.1 x hx
  · intro hx
    obtain ⟨p, hp, h1, h2⟩ := c.2.2 x hx
    exact ⟨p, hp, by simp [h1, h2]⟩
/-- The prefixes' intervals. -/
def ivs (l : List Px) : List Iv := l.map fun p => (p.1, p.1 + blk p.2 - 1)
theorem ivs_has (l : List Px) (x : Nat) : hasB (ivs l) x = l.any fun p => decide (p.1 ≤ x) && decide (x < p.1 + blk p.2) := by
  unfold hasB ivs
  rw [List.any_map]
  congr 1
  funext p
  have := blk_pos p.2
  simp only [Function.comp]
  rw [Bool.eq_iff_iff]
  simp only [Bool.and_eq_true, decide_eq_true_eq]
  omega
theorem ivs_norm {s : List Iv} (h : Bd 4294967296 s) : norm (ivs (prefs s)) = norm s := norm_same fun x => by rw [ivs_has, prefs_has h]
theorem ivs_bd {s : List Iv} (h : Bd 4294967296 s) : Bd 4294967296 (ivs (prefs s)) := by
  intro i hi
  obtain ⟨p, hp, rfl⟩ := List.mem_map.1 hi
  have h1 := prefs_ok h p hp
  have := blk_pos p.2
  have := h1.2.2
  simp only; omega
/-- One prefix is found again. -/
theorem prefs_one {p : Px} (h : OkP p) : prefs [(p.1, p.1 + blk p.2 - 1)] = [p] := by
  have bp := blk_pos p.2
  have h3 := h.2.2
  have hb : Bd 4294967296 [(p.1, p.1 + blk p.2 - 1)] := bd_cons.2 ⟨⟨by simp only; omega, by simp only; omega⟩, bd_nil _⟩
  refine (prefs_of hb (l := [p]) ⟨⟨Nat.zero_le _, trivial⟩, fun q hq => ?_, fun x hx => ?_⟩).symm
  · rw [List.mem_singleton.1 hq]
    refine ⟨h, fun x hx => ?_, ?_⟩
    · have := hx.1; have := hx.2
      simp; omega
    · by_cases h0 : p.2 = 0
      · exact .inl h0
      · refine .inr fun hw => ?_
        have hpp := par_ok h h0
        have bs := blk_succ (p.2 - 1) (by have := h.1; omega)
        rw [show p.2 - 1 + 1 = p.2 by omega] at bs
        have e : blk (par p).2 = 2 * blk p.2 := bs
        have h1 := hw (par p).1 ⟨Nat.le_refl _, by omega⟩
        have h2 := hw ((par p).1 + blk (par p).2 - 1) ⟨by omega, by omega⟩
        simp at h1 h2; omega
  · simp at hx
    exact ⟨p, List.mem_singleton.2 rfl, hx.1, by omega⟩
/-- Neighbours in the list: the first ends before the second begins, and they are not the halves of one prefix. -/
theorem asc_next : ∀ {l : List Px} {b : Nat} (k : Nat) (h : k + 1 < l.length), Asc b l → (l[k]'(by omega)).1 + blk (l[k]'(by omega)).2 ≤ (l[k + 1]'h).1
  | p :: q :: r, b, 0, _, ⟨_, h2, _⟩ => h2
  | p :: r, b, k + 1, h, ⟨_, h2⟩ => by
    have := asc_next k (by simpa using h) h2
    simpa using this
theorem not_halves {s : List Iv} {l : List Px} (hc : Cover s l) (k : Nat) (h : k + 1 < l.length) (e : (l[k]'(by omega)).2 = (l[k + 1]'h).2) (h0 : (l[k + 1]'h).2 ≠ 0) :
    par (l[k]'(by omega)) ≠ par (l[k + 1]'h) := by
  intro hp
  have b1 := hc.2.1 _ (List.getElem_mem (show k < l.length by omega))
  have b2 := hc.2.1 _ (List.getElem_mem h)
  have ha := asc_next k h hc.1
  generalize l[k]'(by omega) = p at *
  generalize l[k + 1]'h = q at *
  refine b2.2.2.resolve_left h0 fun x hx => ?_
  have p1 := par_ok b1.1 (by omega)
  have p2 := par_ok b2.1 h0
  have bp := blk_pos p.2
  have bq := blk_pos q.2
  have bs := blk_succ (q.2 - 1) (by have := b2.1.1; omega)
  rw [show q.2 - 1 + 1 = q.2 by omega] at bs
  have e1 : blk (par q).2 = 2 * blk q.2 := bs
  have i1 := p1.2 p.1 ⟨Nat.le_refl _, by omega⟩
  have i2 := p2.2 (q.1 + blk q.2 - 1) ⟨by omega, by omega⟩
  rw [hp] at i1
  obtain ⟨x1, x2⟩ := hx
  obtain ⟨i11, i12⟩ := i1
  obtain ⟨i21, i22⟩ := i2
  rcases Nat.lt_or_ge x q.1 with g | g
  · exact b1.2.1 x ⟨by rw [e] at ha; omega, by rw [e] at ha ⊢; omega⟩
  · exact b2.2.1 x ⟨g, by rw [e] at ha; omega⟩
end Go.Proofs.YtmcoccfbbhnmfaaDoor.Ip
