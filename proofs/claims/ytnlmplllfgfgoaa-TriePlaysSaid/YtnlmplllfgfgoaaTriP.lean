/-
  PLAIN FACTS ON TABLES OF PREFIXES: sorted lists of entries, and what is inserted into, deleted from and found in them. No program is named here.
-/
import Derived.Test.YtnlmplllfgfgoaaPfxP
namespace Go.Proofs.Ytnlmplllfgfgoaa.Tp
set_option linter.unusedSimpArgs false
set_option linter.unusedVariables false
open Am

abbrev Px := Nat × Nat
abbrev En := Px × Int
/-- A valid prefix. -/
def OkP (p : Px) : Prop := p.2 ≤ 32 ∧ p.1 % blk p.2 = 0 ∧ p.1 < 4294967296
def lt (p q : Px) : Prop := p.1 < q.1 ∨ p.1 = q.1 ∧ p.2 < q.2
instance (p q : Px) : Decidable (lt p q) := inferInstanceAs (Decidable (_ ∨ _))
def Srt (L : List En) : Prop := L.Pairwise fun x y => lt x.1 y.1
def Oks (L : List En) : Prop := ∀ x ∈ L, OkP x.1

theorem lt_irrefl (p : Px) : ¬ lt p p := by unfold lt; omega
theorem lt_asymm {p q : Px} (h : lt p q) (k : lt q p) : False := by unfold lt at *; omega
theorem lt_trans {p q r : Px} (h : lt p q) (k : lt q r) : lt p r := by unfold lt at *; omega
theorem lt_or {p q : Px} (h : p ≠ q) : lt p q ∨ lt q p := by
  unfold lt
  rcases p with ⟨a, n⟩; rcases q with ⟨b, m⟩
  have : ¬ (a = b ∧ n = m) := fun ⟨e, f⟩ => h (by rw [e, f])
  simp only
  omega
theorem ext_of {α : Type} {R : α → α → Prop} (ha : ∀ x y, R x y → R y x → False) : ∀ {L M : List α}, L.Pairwise R → M.Pairwise R → (∀ x, x ∈ L ↔ x ∈ M) → L = M
  | [], [], _, _, _ => rfl
  | [], y :: M, _, _, h => absurd ((h y).2 (by simp)) (by simp)
  | x :: L, [], _, _, h => absurd ((h x).1 (by simp)) (by simp)
  | x :: L, y :: M, hL, hM, h => by
    rw [List.pairwise_cons] at hL hM
    have hxy : x = y := by
      rcases List.mem_cons.1 ((h x).1 (by simp)) with e | e
      · exact e
      · rcases List.mem_cons.1 ((h y).2 (by simp)) with f | f
        · exact f.symm
        · exact (ha _ _ (hM.1 x e) (hL.1 y f)).elim
    subst hxy
    congr 1
    refine ext_of ha hL.2 hM.2 fun z => ?_
    constructor
    · intro hz
      rcases List.mem_cons.1 ((h z).1 (List.mem_cons_of_mem _ hz)) with e | e
      · subst e; exact (ha _ _ (hL.1 z hz) (hL.1 z hz)).elim
      · exact e
    · intro hz
      rcases List.mem_cons.1 ((h z).2 (List.mem_cons_of_mem _ hz)) with e | e
      · subst e; exact (ha _ _ (hM.1 z hz) (hM.1 z hz)).elim
      · exact e
theorem srt_ext {L M : List En} (hL : Srt L) (hM : Srt M) (h : ∀ x, x ∈ L ↔ x ∈ M) : L = M :=
  ext_of (fun _ _ h k => lt_asymm h k) hL hM h
theorem srt_one {L : List En} (h : Srt L) {p : Px} {u v : Int} (hu : (p, u) ∈ L) (hv : (p, v) ∈ L) : u = v := by
  induction L with
  | nil => cases hu
  | cons x L ih =>
    unfold Srt at h
    rw [List.pairwise_cons] at h
    rcases List.mem_cons.1 hu with e | e <;> rcases List.mem_cons.1 hv with f | f
    · rw [← e] at f; exact (Prod.mk.inj f).2.symm
    · subst e; exact absurd (h.1 _ f) (lt_irrefl _)
    · subst f; exact absurd (h.1 _ e) (lt_irrefl _)
    · exact ih h.2 e f

/-! ### What is found -/
def getL (L : List En) (p : Px) : Option Int := (L.find? fun x => decide (x.1 = p)).map (·.2)
theorem getL_some {L : List En} (h : Srt L) {p : Px} {v : Int} : getL L p = some v ↔ (p, v) ∈ L := by
  unfold getL
  constructor
  · intro e
    cases hf : L.find? (fun x => decide (x.1 = p)) with
    | none => rw [hf] at e; cases e
    | some x =>
      rw [hf] at e
      have h1 := List.mem_of_find?_eq_some hf
      have h2 := List.find?_some hf
      simp at h2 e
      rcases x with ⟨q, u⟩
      simp at h2 e
      rw [← h2, ← e]; exact h1
  · intro hm
    cases hf : L.find? (fun x => decide (x.1 = p)) with
    | none =>
      have := List.find?_eq_none.1 hf _ hm
      simp at this
    | some x =>
      have h1 := List.mem_of_find?_eq_some hf
      have h2 := List.find?_some hf
      simp at h2
      rcases x with ⟨q, u⟩
      simp at h2
      subst h2
      simp [srt_one h h1 hm]
theorem getL_none {L : List En} {p : Px} : getL L p = none ↔ ∀ x ∈ L, x.1 ≠ p := by
  unfold getL
  simp

/-! ### What is inserted -/
def ins (L : List En) (p : Px) (v : Int) : List En := L.filter (fun x => decide (lt x.1 p)) ++ (p, v) :: L.filter (fun x => decide (lt p x.1))
theorem mem_ins {L : List En} {p : Px} {v : Int} {x : En} : x ∈ ins L p v ↔ x = (p, v) ∨ x ∈ L ∧ x.1 ≠ p := by
  unfold ins
  simp only [List.mem_append, List.mem_cons, List.mem_filter, decide_eq_true_eq]
  constructor
  · rintro (⟨h, k⟩ | h | ⟨h, k⟩)
    · exact .inr ⟨h, fun e => lt_irrefl p (e ▸ k)⟩
    · exact .inl h
    · exact .inr ⟨h, fun e => lt_irrefl p (e ▸ k)⟩
  · rintro (h | ⟨h, k⟩)
    · exact .inr (.inl h)
    · rcases lt_or k with q | q
      · exact .inl ⟨h, q⟩
      · exact .inr (.inr ⟨h, q⟩)
theorem srt_ins {L : List En} (h : Srt L) (p : Px) (v : Int) : Srt (ins L p v) := by
  unfold Srt ins at *
  rw [List.pairwise_append, List.pairwise_cons]
  refine ⟨h.filter _, ⟨fun x hx => ?_, h.filter _⟩, fun x hx y hy => ?_⟩
  · rw [List.mem_filter] at hx; simpa using hx.2
  · rw [List.mem_filter] at hx
    have hx := hx.2
    simp at hx
    rcases List.mem_cons.1 hy with rfl | hy
    · exact hx
    · rw [List.mem_filter] at hy
      have hy := hy.2
      simp at hy
      exact lt_trans hx hy
theorem oks_ins {L : List En} (h : Oks L) {p : Px} (hp : OkP p) (v : Int) : Oks (ins L p v) := fun x hx => by
  rcases mem_ins.1 hx with rfl | ⟨h1, _⟩
  · exact hp
  · exact h x h1
theorem getL_ins {L : List En} (h : Srt L) (p q : Px) (v : Int) : getL (ins L p v) q = if q = p then some v else getL L q := by
  by_cases e : q = p
  · rw [if_pos e, e, getL_some (srt_ins h p v), mem_ins]; exact .inl rfl
  · rw [if_neg e]
    cases hg : getL L q with
    | none =>
      rw [getL_none] at hg ⊢
      intro x hx
      rcases mem_ins.1 hx with rfl | ⟨h1, _⟩
      · exact fun k => e k.symm
      · exact hg x h1
    | some u =>
      rw [getL_some (srt_ins h p v), mem_ins]
      rw [getL_some h] at hg
      exact .inr ⟨hg, e⟩
theorem ins_split {A B : List En} {p : Px} {v : Int} (hA : ∀ x ∈ A, lt x.1 p) (hB : ∀ x ∈ B, lt p x.1) : ins (A ++ B) p v = A ++ (p, v) :: B := by
  unfold ins
  rw [List.filter_append, List.filter_append]
  have a1 : A.filter (fun x => decide (lt x.1 p)) = A := List.filter_eq_self.2 fun x hx => by simpa using hA x hx
  have a2 : B.filter (fun x => decide (lt x.1 p)) = [] := List.filter_eq_nil_iff.2 fun x hx k => lt_asymm (hB x hx) (by simpa using k)
  have b1 : A.filter (fun x => decide (lt p x.1)) = [] := List.filter_eq_nil_iff.2 fun x hx k => lt_asymm (hA x hx) (by simpa using k)
  have b2 : B.filter (fun x => decide (lt p x.1)) = B := List.filter_eq_self.2 fun x hx => by simpa using hB x hx
  rw [a1, a2, b1, b2]; simp
theorem srt_mid {A B : List En} {x : En} (h : Srt (A ++ x :: B)) : (∀ y ∈ A, lt y.1 x.1) ∧ (∀ y ∈ B, lt x.1 y.1) := by
  unfold Srt at h
  rw [List.pairwise_append, List.pairwise_cons] at h
  exact ⟨fun y hy => h.2.2 y hy x (by simp), h.2.1.1⟩
theorem ins_mid {A B : List En} {x : En} {v : Int} (h : Srt (A ++ x :: B)) : ins (A ++ x :: B) x.1 v = A ++ (x.1, v) :: B := by
  obtain ⟨hA, hB⟩ := srt_mid h
  have e : ins (A ++ x :: B) x.1 v = ins (A ++ B) x.1 v := by
    unfold ins
    have k : ¬ lt x.1 x.1 := lt_irrefl _
    simp [List.filter_append, List.filter_cons, k]
  rw [e, ins_split hA hB]

/-! ### What is deleted -/
def del (L : List En) (p : Px) : List En := L.filter fun x => decide (x.1 ≠ p)
theorem mem_del {L : List En} {p : Px} {x : En} : x ∈ del L p ↔ x ∈ L ∧ x.1 ≠ p := by unfold del; simp
theorem srt_del {L : List En} (h : Srt L) (p : Px) : Srt (del L p) := h.filter _
theorem oks_del {L : List En} (h : Oks L) (p : Px) : Oks (del L p) := fun x hx => h x (mem_del.1 hx).1
theorem del_mid {A B : List En} {x : En} (h : Srt (A ++ x :: B)) : del (A ++ x :: B) x.1 = A ++ B := by
  obtain ⟨hA, hB⟩ := srt_mid h
  unfold del
  rw [List.filter_append, List.filter_cons]
  have a1 : A.filter (fun y => decide (y.1 ≠ x.1)) = A := List.filter_eq_self.2 fun y hy => by simp; intro e; exact lt_irrefl x.1 (e ▸ hA y hy)
  have b1 : B.filter (fun y => decide (y.1 ≠ x.1)) = B := List.filter_eq_self.2 fun y hy => by simp; intro e; exact lt_irrefl x.1 (e ▸ hB y hy)
  rw [a1, b1]; simp
theorem del_no {L : List En} {p : Px} (h : getL L p = none) : del L p = L := by
  unfold del
  exact List.filter_eq_self.2 fun x hx => by simpa using getL_none.1 h x hx
theorem del_len {L : List En} (h : Srt L) {p : Px} {v : Int} (hm : (p, v) ∈ L) : (del L p).length + 1 = L.length := by
  obtain ⟨A, B, rfl⟩ := List.append_of_mem hm
  have := del_mid (x := (p, v)) h
  simp only at this
  rw [this]; simp; omega
theorem ins_del {L : List En} (h : Srt L) {p : Px} {v : Int} (hm : (p, v) ∈ L) : ins (del L p) p v = L := by
  refine srt_ext (srt_ins (srt_del h p) p v) h fun x => ?_
  rw [mem_ins, mem_del]
  constructor
  · rintro (rfl | ⟨⟨h1, _⟩, _⟩)
    · exact hm
    · exact h1
  · intro hx
    by_cases e : x.1 = p
    · left
      rcases x with ⟨q, u⟩
      simp at e; subst e
      rw [srt_one h hx hm]
    · exact .inr ⟨⟨hx, e⟩, e⟩
theorem del_ins {L : List En} (h : Srt L) {p : Px} {v : Int} (hn : getL L p = none) : del (ins L p v) p = L := by
  refine srt_ext (srt_del (srt_ins h p v) p) h fun x => ?_
  rw [mem_del, mem_ins]
  constructor
  · rintro ⟨rfl | ⟨h1, _⟩, h2⟩
    · exact absurd rfl h2
    · exact h1
  · intro hx
    exact ⟨.inr ⟨hx, getL_none.1 hn x hx⟩, getL_none.1 hn x hx⟩
theorem getL_del {L : List En} (h : Srt L) (p q : Px) : getL (del L p) q = if q = p then none else getL L q := by
  by_cases e : q = p
  · rw [if_pos e, getL_none]; intro x hx; rw [e]; exact (mem_del.1 hx).2
  · rw [if_neg e]
    cases hg : getL L q with
    | none =>
      rw [getL_none] at hg ⊢
      exact fun x hx => hg x (mem_del.1 hx).1
    | some u =>
      rw [getL_some (srt_del h p), mem_del]
      rw [getL_some h] at hg
      exact ⟨hg, e⟩
theorem ins_len_old {L : List En} (h : Srt L) {p : Px} {u : Int} (v : Int) (hm : (p, u) ∈ L) : (ins L p v).length = L.length := by
  obtain ⟨A, B, rfl⟩ := List.append_of_mem hm
  have := ins_mid (x := (p, u)) (v := v) h
  simp only at this
  rw [this]; simp
theorem ins_len_new {L : List En} (h : Srt L) {p : Px} (v : Int) (hn : getL L p = none) : (ins L p v).length = L.length + 1 := by
  have h1 := del_len (srt_ins h p v) (p := p) (v := v) (mem_ins.2 (.inl rfl))
  rw [del_ins h hn] at h1
  omega

/-! ### What covers a prefix, what contains an address -/
def covF (L : List En) (p : Px) : List En := L.filter fun x => covB x.1.1 x.1.2 p.1 p.2
def conF (L : List En) (a : Nat) : List En := L.filter fun x => contB x.1.1 x.1.2 a
theorem cov_lt {p q : Px} {a : Nat} (hp : OkP p) (hq : OkP q) (h1 : contB p.1 p.2 a = true) (h2 : contB q.1 q.2 a = true) : lt p q ↔ p.2 < q.2 := by
  rw [cont_iff] at h1 h2
  rcases p with ⟨x, n⟩; rcases q with ⟨y, m⟩
  unfold lt
  simp only at *
  constructor
  · intro h
    rcases Nat.lt_or_ge n m with k | k
    · exact k
    · exfalso
      have e : net x m = y := by rw [← h1, net_net a m n (by omega), h2]
      have := net_le x m
      rcases Nat.lt_or_ge m n with k' | k'
      · omega
      · have e' : n = m := by omega
        subst e'
        omega
  · intro h
    have e : net y n = x := by rw [← h2, net_net a n m (by omega), h1]
    have := net_le y n
    omega
end Go.Proofs.Ytnlmplllfgfgoaa.Tp
