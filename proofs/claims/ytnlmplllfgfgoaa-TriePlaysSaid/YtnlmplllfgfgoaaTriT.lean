/-
  PLAIN FACTS ON TREES OF NODES: the bits of an address are the way to a node; the entries of a tree in their order; what a way passes. No program is named here.
-/
import Derived.Test.YtnlmplllfgfgoaaTriP
namespace Go.Proofs.Ytnlmplllfgfgoaa.Tp
set_option linter.unusedSimpArgs false
set_option linter.unusedVariables false
open Am

/-- The bit of a behind its first d bits. -/
def bitN (a d : Nat) : Nat := a / blk (d + 1) % 2
theorem bitN_lt (a d : Nat) : bitN a d < 2 := Nat.mod_lt _ (by decide)
theorem bitN_or (a d : Nat) : bitN a d = 0 ∨ bitN a d = 1 := by have := bitN_lt a d; omega
/-- The first d + 1 bits. -/
theorem top_succ (a d : Nat) (hd : d < 32) : a / blk (d + 1) = 2 * (a / blk d) + bitN a d := by
  have h := blk_succ d hd
  have e : a / blk d = a / blk (d + 1) / 2 := by rw [h, Nat.mul_comm, Nat.div_div_eq_div_mul]
  unfold bitN
  omega
theorem top_iff (a x d : Nat) (hd : d < 32) : x / blk (d + 1) = a / blk (d + 1) ↔ x / blk d = a / blk d ∧ bitN x d = bitN a d := by
  rw [top_succ a d hd, top_succ x d hd]
  have := bitN_lt a d; have := bitN_lt x d
  omega
theorem top_eq {x a n : Nat} (hx : x % blk n = 0) (ha : a % blk n = 0) (h : x / blk n = a / blk n) : x = a := by
  have h1 := Nat.div_add_mod x (blk n)
  have h2 := Nat.div_add_mod a (blk n)
  rw [hx] at h1; rw [ha] at h2; rw [h] at h1
  omega

inductive Tr where
  | nil : Tr
  | node (b : Nat) (e : Option Int) (l r : Tr) : Tr
namespace Tr
def blocks : Tr → List Nat
  | nil => []
  | node b _ l r => b :: (l.blocks ++ r.blocks)
def deep : Nat → Tr → Prop
  | _, nil => True
  | 0, node _ _ _ _ => False
  | n + 1, node _ _ l r => deep n l ∧ deep n r
def kid (i : Nat) (l r : Tr) : Tr := if i = 0 then l else r
def sub : Tr → Nat → Nat → Nat → Tr
  | T, _, _, 0 => T
  | nil, _, _, _ + 1 => nil
  | node _ _ l r, a, d, n + 1 => sub (if bitN a d = 0 then l else r) a (d + 1) n
def val : Tr → Option Int
  | nil => none
  | node _ e _ _ => e
def get (T : Tr) (a d n : Nat) : Option Int := (T.sub a d n).val
def own (e : Option Int) (a k : Nat) : List En := match e with | some v => [((a, k), v)] | none => []
def ents : Tr → Nat → Nat → List En
  | nil, _, _ => []
  | node _ e l r, a, k => own e a k ++ (l.ents a (k + 1) ++ r.ents (a + blk (k + 1)) (k + 1))
end Tr
open Tr
theorem sub_zero (T : Tr) (a d : Nat) : T.sub a d 0 = T := by cases T <;> rfl
theorem sub_nil (a d n : Nat) : Tr.nil.sub a d n = .nil := by cases n <;> rfl
theorem get_nil (a d n : Nat) : Tr.nil.get a d n = none := by unfold Tr.get; rw [sub_nil]; rfl
theorem get_zero (b : Nat) (e : Option Int) (l r : Tr) (a d : Nat) : (Tr.node b e l r).get a d 0 = e := rfl
theorem get_succ (b : Nat) (e : Option Int) (l r : Tr) (a d n : Nat) : (Tr.node b e l r).get a d (n + 1) = (if bitN a d = 0 then l else r).get a (d + 1) n := rfl
theorem mem_own {e : Option Int} {a k : Nat} {x : En} : x ∈ own e a k ↔ x.1 = (a, k) ∧ e = some x.2 := by
  unfold own
  cases e with
  | none => simp
  | some v =>
    rcases x with ⟨q, u⟩
    simp
    exact fun _ => eq_comm

/-- What lies in a half. -/
theorem half_bit {a x k : Nat} (hk : k < 32) (ha : a % blk k = 0) (h1 : a ≤ x) (h2 : x < a + blk k) : (bitN x k = 0 ↔ x < a + blk (k + 1)) := by
  have hb := blk_succ k hk
  have hp := blk_pos (k + 1)
  obtain ⟨q, hq⟩ := Nat.dvd_of_mod_eq_zero ha
  have e : a = blk (k + 1) * (2 * q) := by rw [hq, hb, Nat.mul_comm 2, Nat.mul_assoc]
  have hs : x / blk (k + 1) = 2 * q + (x - a) / blk (k + 1) := by
    have : x = blk (k + 1) * (2 * q) + (x - a) := by omega
    rw [this, Nat.mul_add_div hp]
    congr 1
    rw [← this]
  unfold bitN
  rw [hs]
  by_cases h : x < a + blk (k + 1)
  · have : (x - a) / blk (k + 1) = 0 := Nat.div_eq_of_lt (by omega)
    rw [this]; simp [h]
  · have : (x - a) / blk (k + 1) = 1 := by
      have l1 : 1 ≤ (x - a) / blk (k + 1) := (Nat.le_div_iff_mul_le hp).2 (by omega)
      have l2 : (x - a) / blk (k + 1) < 2 := (Nat.div_lt_iff_lt_mul hp).2 (by omega)
      omega
    rw [this]; simp [h]
theorem mod_half {a k : Nat} (hk : k < 32) (ha : a % blk k = 0) : a % blk (k + 1) = 0 ∧ (a + blk (k + 1)) % blk (k + 1) = 0 := by
  have hb := blk_succ k hk
  have h1 : a % blk (k + 1) = 0 := Nat.mod_eq_zero_of_dvd (Nat.dvd_trans ⟨2, by omega⟩ (Nat.dvd_of_mod_eq_zero ha))
  exact ⟨h1, by rw [Nat.add_mod_right]; exact h1⟩

theorem ents_mem : ∀ (T : Tr) (a k : Nat), T.deep (33 - k) → k ≤ 32 → a % blk k = 0 → ∀ (x m : Nat) (v : Int),
    ((x, m), v) ∈ T.ents a k ↔ k ≤ m ∧ m ≤ 32 ∧ x % blk m = 0 ∧ a ≤ x ∧ x < a + blk k ∧ T.get x k (m - k) = some v
  | .nil, a, k, _, _, _, x, m, v => by
    rw [get_nil]; unfold Tr.ents; simp
  | .node b e l r, a, k, hd, hk, ha, x, m, v => by
    have hp := blk_pos k
    unfold Tr.ents
    rw [List.mem_append, List.mem_append, mem_own]
    by_cases hk32 : k = 32
    · subst hk32
      have hl : l = .nil ∧ r = .nil := by
        have hd' : l.deep 0 ∧ r.deep 0 := hd
        constructor
        · cases l with
          | nil => rfl
          | node _ _ _ _ => exact hd'.1.elim
        · cases r with
          | nil => rfl
          | node _ _ _ _ => exact hd'.2.elim
      obtain ⟨rfl, rfl⟩ := hl
      have h1 : blk 32 = 1 := blk_32
      simp only [Tr.ents, List.not_mem_nil, or_false, Prod.mk.injEq]
      rw [h1] at *
      constructor
      · rintro ⟨⟨rfl, rfl⟩, he⟩
        exact ⟨Nat.le_refl _, Nat.le_refl _, ha, Nat.le_refl _, by omega, by rw [Nat.sub_self]; exact he⟩
      · rintro ⟨g1, g2, g3, g4, g5, g6⟩
        have e1 : m = 32 := by omega
        have e2 : x = a := by omega
        subst e1 e2
        rw [Nat.sub_self] at g6
        exact ⟨⟨rfl, rfl⟩, g6⟩
    · have hlt : k < 32 := by omega
      have hb := blk_succ k hlt
      have hp1 := blk_pos (k + 1)
      obtain ⟨ha1, ha2⟩ := mod_half hlt ha
      have hd' : l.deep (33 - (k + 1)) ∧ r.deep (33 - (k + 1)) := by
        have : 33 - k = (33 - (k + 1)) + 1 := by omega
        rw [this] at hd; exact hd
      rw [ents_mem l a (k + 1) hd'.1 (by omega) ha1 x m v, ents_mem r (a + blk (k + 1)) (k + 1) hd'.2 (by omega) ha2 x m v]
      simp only [Prod.mk.injEq]
      constructor
      · rintro (⟨⟨rfl, rfl⟩, he⟩ | ⟨g1, g2, g3, g4, g5, g6⟩ | ⟨g1, g2, g3, g4, g5, g6⟩)
        · exact ⟨Nat.le_refl _, hk, ha, Nat.le_refl _, by omega, by rw [Nat.sub_self]; exact he⟩
        · refine ⟨by omega, g2, g3, g4, by omega, ?_⟩
          have hbit := (half_bit hlt ha g4 (by omega)).2 g5
          have : m - k = (m - (k + 1)) + 1 := by omega
          rw [this, get_succ, if_pos hbit]; exact g6
        · refine ⟨by omega, g2, g3, by omega, by omega, ?_⟩
          have hbit : ¬ bitN x k = 0 := fun h => by
            have := (half_bit hlt ha (by omega) (by omega)).1 h
            omega
          have : m - k = (m - (k + 1)) + 1 := by omega
          rw [this, get_succ, if_neg hbit]; exact g6
      · rintro ⟨g1, g2, g3, g4, g5, g6⟩
        by_cases hm : m = k
        · subst hm
          left
          rw [Nat.sub_self] at g6
          refine ⟨⟨?_, rfl⟩, g6⟩
          have h1 := Nat.div_add_mod x (blk m)
          have h2 := Nat.div_add_mod a (blk m)
          obtain ⟨q, hq⟩ := Nat.dvd_of_mod_eq_zero ha
          obtain ⟨t, ht⟩ := Nat.dvd_of_mod_eq_zero g3
          have : t = q := by
            have l1 : q ≤ t := by
              rcases Nat.lt_or_ge t q with h | h
              · have := Nat.mul_le_mul_left (blk m) (Nat.succ_le_of_lt h)
                rw [Nat.mul_succ] at this; omega
              · exact h
            have l2 : t ≤ q := by
              rcases Nat.lt_or_ge q t with h | h
              · have := Nat.mul_le_mul_left (blk m) (Nat.succ_le_of_lt h)
                rw [Nat.mul_succ] at this; omega
              · exact h
            omega
          rw [ht, hq, this]
        · right
          have : m - k = (m - (k + 1)) + 1 := by omega
          rw [this, get_succ] at g6
          by_cases hbit : bitN x k = 0
          · rw [if_pos hbit] at g6
            exact .inl ⟨by omega, g2, g3, g4, (half_bit hlt ha g4 g5).1 hbit, g6⟩
          · rw [if_neg hbit] at g6
            have : ¬ x < a + blk (k + 1) := fun h => hbit ((half_bit hlt ha g4 g5).2 h)
            exact .inr ⟨by omega, g2, g3, by omega, by omega, g6⟩

theorem ents_srt : ∀ (T : Tr) (a k : Nat), T.deep (33 - k) → k ≤ 32 → a % blk k = 0 → Srt (T.ents a k)
  | .nil, _, _, _, _, _ => List.Pairwise.nil
  | .node b e l r, a, k, hd, hk, ha => by
    unfold Tr.ents
    by_cases hk32 : k = 32
    · subst hk32
      have hl : l = .nil ∧ r = .nil := by
        have hd' : l.deep 0 ∧ r.deep 0 := hd
        constructor
        · cases l with
          | nil => rfl
          | node _ _ _ _ => exact hd'.1.elim
        · cases r with
          | nil => rfl
          | node _ _ _ _ => exact hd'.2.elim
      obtain ⟨rfl, rfl⟩ := hl
      simp only [Tr.ents, List.append_nil]
      unfold own Srt
      cases e <;> simp
    · have hlt : k < 32 := by omega
      have hb := blk_succ k hlt
      have hp1 := blk_pos (k + 1)
      obtain ⟨ha1, ha2⟩ := mod_half hlt ha
      have hd' : l.deep (33 - (k + 1)) ∧ r.deep (33 - (k + 1)) := by
        have : 33 - k = (33 - (k + 1)) + 1 := by omega
        rw [this] at hd; exact hd
      have il := ents_srt l a (k + 1) hd'.1 (by omega) ha1
      have ir := ents_srt r (a + blk (k + 1)) (k + 1) hd'.2 (by omega) ha2
      have ml := ents_mem l a (k + 1) hd'.1 (by omega) ha1
      have mr := ents_mem r (a + blk (k + 1)) (k + 1) hd'.2 (by omega) ha2
      unfold Srt at *
      rw [List.pairwise_append, List.pairwise_append]
      refine ⟨by unfold own; cases e <;> simp, ⟨il, ir, ?_⟩, ?_⟩
      · rintro ⟨⟨x, m⟩, u⟩ hx ⟨⟨y, n⟩, v⟩ hy
        have hx := (ml x m u).1 hx
        have hy := (mr y n v).1 hy
        left; simp only; omega
      · rintro ⟨⟨x, m⟩, u⟩ hx ⟨⟨y, n⟩, v⟩ hy
        have hx := (mem_own.1 hx).1
        simp only [Prod.mk.injEq] at hx
        obtain ⟨rfl, rfl⟩ := hx
        rcases List.mem_append.1 hy with hy | hy
        · have hy := (ml y n v).1 hy
          unfold lt; simp only; omega
        · have hy := (mr y n v).1 hy
          left; simp only; omega
/-- At the root. -/
theorem root_mem {T : Tr} (h : T.deep 33) (x m : Nat) (v : Int) : ((x, m), v) ∈ T.ents 0 0 ↔ OkP (x, m) ∧ T.get x 0 m = some v := by
  rw [ents_mem T 0 0 h (by omega) (by rw [Nat.zero_mod]) x m v]
  have h0 : blk 0 = 4294967296 := by decide
  rw [h0]
  unfold OkP
  simp only [Nat.sub_zero, Nat.zero_add]
  constructor
  · rintro ⟨_, g2, g3, _, g5, g6⟩; exact ⟨⟨g2, g3, g5⟩, g6⟩
  · rintro ⟨⟨g2, g3, g5⟩, g6⟩; exact ⟨by omega, g2, g3, by omega, g5, g6⟩
theorem root_srt {T : Tr} (h : T.deep 33) : Srt (T.ents 0 0) := ents_srt T 0 0 h (by omega) (by rw [Nat.zero_mod])
theorem root_oks {T : Tr} (h : T.deep 33) : Oks (T.ents 0 0) := fun ⟨⟨x, m⟩, v⟩ hx => ((root_mem h x m v).1 hx).1
theorem root_get {T : Tr} (h : T.deep 33) {a n : Nat} (hp : OkP (a, n)) : getL (T.ents 0 0) (a, n) = T.get a 0 n := by
  cases hg : T.get a 0 n with
  | some v => rw [getL_some (root_srt h), root_mem h]; exact ⟨hp, hg⟩
  | none =>
    rw [getL_none]
    rintro ⟨⟨x, m⟩, v⟩ hx e
    simp only [Prod.mk.injEq] at e
    obtain ⟨rfl, rfl⟩ := e
    have := ((root_mem h x m v).1 hx).2
    rw [hg] at this; cases this

/-! ### A node turned -/
namespace Tr
def put : Tr → Nat → Nat → Nat → (Tr → Tr) → Tr
  | T, _, _, 0, f => f T
  | nil, _, _, _ + 1, _ => nil
  | node b e l r, a, d, n + 1, f => if bitN a d = 0 then node b e (l.put a (d + 1) n f) r else node b e l (r.put a (d + 1) n f)
end Tr
theorem put_zero (T : Tr) (a d : Nat) (f : Tr → Tr) : T.put a d 0 f = f T := by cases T <;> rfl
/-- What is found behind the turn. -/
theorem get_put : ∀ (k : Nat) (T : Tr) (a d : Nat) (f : Tr → Tr) (x m : Nat), d + k ≤ 32 → T.sub a d k ≠ .nil → x / blk d = a / blk d →
    (T.put a d k f).get x d m = if k ≤ m ∧ x / blk (d + k) = a / blk (d + k) then (f (T.sub a d k)).get x (d + k) (m - k) else T.get x d m
  | 0, T, a, d, f, x, m, _, _, hx => by
    rw [put_zero, sub_zero, if_pos ⟨Nat.zero_le _, hx⟩]; rfl
  | k + 1, .nil, a, d, f, x, m, _, hs, hx => absurd (sub_nil a d (k + 1)) hs
  | k + 1, .node b e l r, a, d, f, x, 0, _, _, _ => by
    rw [if_neg (by omega)]
    unfold Tr.put
    split <;> rfl
  | k + 1, .node b e l r, a, d, f, x, m + 1, hd, hs, hx => by
    have hs' : (if bitN a d = 0 then l else r).sub a (d + 1) k ≠ .nil := hs
    have hiff := top_iff a x d (by omega)
    have e1 : d + (k + 1) = d + 1 + k := by omega
    have e2 : m + 1 - (k + 1) = m - k := by omega
    have e3 : (Tr.node b e l r).sub a d (k + 1) = (if bitN a d = 0 then l else r).sub a (d + 1) k := rfl
    rw [e1, e2, e3]
    by_cases hb : bitN x d = bitN a d
    · have hx' : x / blk (d + 1) = a / blk (d + 1) := hiff.2 ⟨hx, hb⟩
      by_cases h0 : bitN a d = 0
      · rw [if_pos h0] at hs' ⊢
        unfold Tr.put
        rw [if_pos h0, get_succ, hb, if_pos h0, get_put k l a (d + 1) f x m (by omega) hs' hx', get_succ, hb, if_pos h0]
        simp only [Nat.add_le_add_iff_right]
      · rw [if_neg h0] at hs' ⊢
        unfold Tr.put
        rw [if_neg h0, get_succ, hb, if_neg h0, get_put k r a (d + 1) f x m (by omega) hs' hx', get_succ, hb, if_neg h0]
        simp only [Nat.add_le_add_iff_right]
    · have hno : ¬ (x / blk (d + 1 + k) = a / blk (d + 1 + k)) := fun h => by
        have hle : d + 1 ≤ d + 1 + k := by omega
        obtain ⟨q, hq⟩ := blk_dvd (d + 1) (d + 1 + k) hle (by omega)
        have : x / blk (d + 1) = a / blk (d + 1) := by
          rw [hq, ← Nat.div_div_eq_div_mul, ← Nat.div_div_eq_div_mul, h]
        exact hb (hiff.1 this).2
      rw [if_neg (fun h => hno h.2)]
      unfold Tr.put
      by_cases h0 : bitN a d = 0
      · rw [if_pos h0, get_succ, get_succ, if_neg (fun h => hb (h.trans h0.symm)), if_neg (fun h => hb (h.trans h0.symm))]
      · have hx1 : bitN x d = 0 := by have := bitN_lt x d; have := bitN_lt a d; omega
        rw [if_neg h0, get_succ, get_succ, if_pos hx1, if_pos hx1]
theorem ents_put : ∀ (k : Nat) (T : Tr) (a d : Nat) (f : Tr → Tr) (A K : Nat), (∀ A K, (f (T.sub a d k)).ents A K = (T.sub a d k).ents A K) → (T.put a d k f).ents A K = T.ents A K
  | 0, T, a, d, f, A, K, h => by rw [put_zero]; rw [sub_zero] at h; exact h A K
  | k + 1, .nil, a, d, f, A, K, h => rfl
  | k + 1, .node b e l r, a, d, f, A, K, h => by
    have h' : ∀ A K, (f ((if bitN a d = 0 then l else r).sub a (d + 1) k)).ents A K = ((if bitN a d = 0 then l else r).sub a (d + 1) k).ents A K := h
    unfold Tr.put
    by_cases h0 : bitN a d = 0
    · rw [if_pos h0] at h' ⊢
      unfold Tr.ents
      rw [ents_put k l a (d + 1) f A (K + 1) h']
    · rw [if_neg h0] at h' ⊢
      unfold Tr.ents
      rw [ents_put k r a (d + 1) f _ (K + 1) h']
theorem deep_mono : ∀ (T : Tr) (n m : Nat), n ≤ m → T.deep n → T.deep m
  | .nil, _, m, _, _ => by cases m <;> trivial
  | .node b e l r, 0, _, _, h => h.elim
  | .node b e l r, n + 1, 0, hl, _ => by omega
  | .node b e l r, n + 1, m + 1, hl, h => ⟨deep_mono l n m (by omega) h.1, deep_mono r n m (by omega) h.2⟩
theorem deep_sub : ∀ (k : Nat) (T : Tr) (a d n : Nat), k ≤ n → T.deep n → (T.sub a d k).deep (n - k)
  | 0, T, a, d, n, _, h => by rw [sub_zero]; exact h
  | k + 1, .nil, a, d, n, _, h => by rw [sub_nil]; cases (n - (k + 1)) <;> trivial
  | k + 1, .node b e l r, a, d, 0, hk, h => by omega
  | k + 1, .node b e l r, a, d, n + 1, hk, h => by
    have e3 : (Tr.node b e l r).sub a d (k + 1) = (if bitN a d = 0 then l else r).sub a (d + 1) k := rfl
    rw [e3, Nat.add_sub_add_right]
    refine deep_sub k _ a (d + 1) n (by omega) ?_
    split
    · exact h.1
    · exact h.2
theorem deep_put : ∀ (k : Nat) (T : Tr) (a d n : Nat) (f : Tr → Tr), k ≤ n → T.deep n → (f (T.sub a d k)).deep (n - k) → (T.put a d k f).deep n
  | 0, T, a, d, n, f, _, h, hf => by rw [put_zero]; rw [sub_zero] at hf; exact hf
  | k + 1, .nil, a, d, n, f, _, h, hf => h
  | k + 1, .node b e l r, a, d, 0, f, hk, h, hf => by omega
  | k + 1, .node b e l r, a, d, n + 1, f, hk, h, hf => by
    rw [Nat.add_sub_add_right] at hf
    have hf' : (f ((if bitN a d = 0 then l else r).sub a (d + 1) k)).deep (n - k) := hf
    unfold Tr.put
    by_cases h0 : bitN a d = 0
    · rw [if_pos h0] at hf' ⊢
      exact ⟨deep_put k l a (d + 1) n f (by omega) h.1 hf', h.2⟩
    · rw [if_neg h0] at hf' ⊢
      exact ⟨h.1, deep_put k r a (d + 1) n f (by omega) h.2 hf'⟩
theorem blocks_sub : ∀ (k : Nat) (T : Tr) (a d : Nat) (c : Nat), c ∈ (T.sub a d k).blocks → c ∈ T.blocks
  | 0, T, a, d, c, h => by rw [sub_zero] at h; exact h
  | k + 1, .nil, a, d, c, h => by rw [sub_nil] at h; exact h
  | k + 1, .node b e l r, a, d, c, h => by
    have e3 : (Tr.node b e l r).sub a d (k + 1) = (if bitN a d = 0 then l else r).sub a (d + 1) k := rfl
    rw [e3] at h
    have := blocks_sub k _ a (d + 1) c h
    unfold Tr.blocks
    rw [List.mem_cons, List.mem_append]
    split at this
    · exact .inr (.inl this)
    · exact .inr (.inr this)
theorem blocks_put : ∀ (k : Nat) (T : Tr) (a d : Nat) (f : Tr → Tr) (N : List Nat), T.sub a d k ≠ .nil → (f (T.sub a d k)).blocks.Perm (N ++ (T.sub a d k).blocks) → (T.put a d k f).blocks.Perm (N ++ T.blocks)
  | 0, T, a, d, f, N, _, h => by rw [put_zero]; rw [sub_zero] at h; exact h
  | k + 1, .nil, a, d, f, N, hs, h => absurd (sub_nil a d (k + 1)) hs
  | k + 1, .node b e l r, a, d, f, N, hs, h => by
    have hs' : (if bitN a d = 0 then l else r).sub a (d + 1) k ≠ .nil := hs
    have h' : (f ((if bitN a d = 0 then l else r).sub a (d + 1) k)).blocks.Perm (N ++ ((if bitN a d = 0 then l else r).sub a (d + 1) k).blocks) := h
    unfold Tr.put
    by_cases h0 : bitN a d = 0
    · rw [if_pos h0] at hs' h' ⊢
      have ih := blocks_put k l a (d + 1) f N hs' h'
      unfold Tr.blocks
      refine List.Perm.trans (List.Perm.cons _ (ih.append_right _)) ?_
      rw [List.append_assoc]
      exact List.perm_middle.symm
    · rw [if_neg h0] at hs' h' ⊢
      have ih := blocks_put k r a (d + 1) f N hs' h'
      unfold Tr.blocks
      refine List.Perm.trans (List.Perm.cons _ (ih.append_left _)) ?_
      refine List.Perm.trans (List.Perm.cons _ ?_) List.perm_middle.symm
      rw [← List.append_assoc, ← List.append_assoc]
      exact (List.perm_append_comm).append_right _
/-- One step further on a way. -/
theorem sub_step : ∀ (k : Nat) (T : Tr) (a d : Nat), T.sub a d (k + 1) = (match T.sub a d k with | .nil => .nil | .node _ _ l r => if bitN a (d + k) = 0 then l else r)
  | 0, .nil, a, d => rfl
  | 0, .node b e l r, a, d => by
    show (if bitN a d = 0 then l else r).sub a (d + 1) 0 = _
    rw [sub_zero]; rfl
  | k + 1, .nil, a, d => rfl
  | k + 1, .node b e l r, a, d => by
    have e1 : (Tr.node b e l r).sub a d (k + 1 + 1) = (if bitN a d = 0 then l else r).sub a (d + 1) (k + 1) := rfl
    have e2 : (Tr.node b e l r).sub a d (k + 1) = (if bitN a d = 0 then l else r).sub a (d + 1) k := rfl
    rw [e1, e2, sub_step k _ a (d + 1), show d + 1 + k = d + (k + 1) by omega]
/-- The turned node is the way's end. -/
theorem sub_put : ∀ (k : Nat) (T : Tr) (a d : Nat) (f : Tr → Tr), T.sub a d k ≠ .nil → (T.put a d k f).sub a d k = f (T.sub a d k)
  | 0, T, a, d, f, _ => by rw [put_zero, sub_zero, sub_zero]
  | k + 1, .nil, a, d, f, hs => absurd (sub_nil a d (k + 1)) hs
  | k + 1, .node b e l r, a, d, f, hs => by
    have hs' : (if bitN a d = 0 then l else r).sub a (d + 1) k ≠ .nil := hs
    have e2 : (Tr.node b e l r).sub a d (k + 1) = (if bitN a d = 0 then l else r).sub a (d + 1) k := rfl
    rw [e2]
    unfold Tr.put
    by_cases h0 : bitN a d = 0
    · rw [if_pos h0] at hs' ⊢
      rw [if_pos h0]
      show (if bitN a d = 0 then (l.put a (d + 1) k f) else r).sub a (d + 1) k = _
      rw [if_pos h0]
      exact sub_put k l a (d + 1) f hs'
    · rw [if_neg h0] at hs' ⊢
      rw [if_neg h0]
      show (if bitN a d = 0 then l else (r.put a (d + 1) k f)).sub a (d + 1) k = _
      rw [if_neg h0]
      exact sub_put k r a (d + 1) f hs'
end Go.Proofs.Ytnlmplllfgfgoaa.Tp
