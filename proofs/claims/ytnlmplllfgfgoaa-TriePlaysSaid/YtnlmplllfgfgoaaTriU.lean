/-
  PLAIN FACTS ON WAYS IN TREES OF NODES: what lies on the way to a prefix; a value set at a node; one node more. No program is named here.
-/
import Derived.Test.YtnlmplllfgfgoaaTriT
namespace Go.Proofs.Ytnlmplllfgfgoaa.Tp
set_option linter.unusedSimpArgs false
set_option linter.unusedVariables false
open Am Tr

theorem net_top (a d m : Nat) (h : d ≤ m) (hm : m ≤ 32) : net a (m : Int) / blk d = a / blk d := by
  obtain ⟨q, hq⟩ := blk_dvd d m h hm
  have hp := blk_pos m
  unfold net
  rw [cl_nat m hm, hq, ← Nat.div_div_eq_div_mul, Nat.mul_div_cancel _ hp, Nat.div_div_eq_div_mul]
theorem net_bit (a d m : Nat) (h : d < m) (hm : m ≤ 32) : bitN (net a (m : Int)) d = bitN a d := by
  unfold bitN
  rw [net_top a (d + 1) m h hm]
theorem sub_net : ∀ (k : Nat) (T : Tr) (a d m : Nat), d + k ≤ m → m ≤ 32 → T.sub (net a (m : Int)) d k = T.sub a d k
  | 0, T, a, d, m, _, _ => by rw [sub_zero, sub_zero]
  | k + 1, .nil, a, d, m, _, _ => by rw [sub_nil, sub_nil]
  | k + 1, .node b e l r, a, d, m, h, hm => by
    have e1 : ∀ y, (Tr.node b e l r).sub y d (k + 1) = (if bitN y d = 0 then l else r).sub y (d + 1) k := fun _ => rfl
    rw [e1, e1, net_bit a d m (by omega) hm, sub_net k _ a (d + 1) m (by omega) hm]
theorem okp_net {a : Nat} (ha : a < 4294967296) {m : Nat} (hm : m ≤ 32) : OkP (net a (m : Int), m) := by
  refine ⟨hm, ?_, net_lt _ ha⟩
  show net a (m : Int) % blk m = 0
  unfold net
  rw [cl_nat m hm]
  exact Nat.mul_mod_left _ _
theorem net_lt_net {a m k : Nat} (h : m < k) (hk : k ≤ 32) : lt (net a (m : Int), m) (net a (k : Int), k) := by
  have e := net_net a (m : Int) (k : Int) (by omega)
  have := net_le (net a (k : Int)) (m : Int)
  unfold lt
  simp only
  omega
theorem okp_net_self {p : Px} (h : OkP p) : net p.1 (p.2 : Int) = p.1 := by
  unfold net
  rw [cl_nat _ h.1]
  exact Nat.div_mul_cancel (Nat.dvd_of_mod_eq_zero h.2.1)

/-! ### What lies on a way -/
abbrev Step := Px × Nat × Int
def ownS (b : Nat) (e : Option Int) (a d : Nat) : List Step := match e with | some v => [((net a (d : Int), d), b, v)] | none => []
namespace Tr
def path : Tr → Nat → Nat → Nat → List Step
  | nil, _, _, _ => []
  | node b e _ _, a, d, 0 => ownS b e a d
  | node b e l r, a, d, n + 1 => ownS b e a d ++ (if bitN a d = 0 then l else r).path a (d + 1) n
end Tr
theorem path_nil (a d n : Nat) : Tr.nil.path a d n = [] := by cases n <;> rfl
theorem mem_ownS {b : Nat} {e : Option Int} {a d : Nat} {x : Step} : x ∈ ownS b e a d ↔ x.1 = (net a (d : Int), d) ∧ x.2.1 = b ∧ e = some x.2.2 := by
  unfold ownS
  cases e with
  | none => simp
  | some v =>
    rcases x with ⟨q, c, u⟩
    simp
    exact fun _ _ => eq_comm
theorem path_mem : ∀ (n : Nat) (T : Tr) (a d : Nat) (x : Step), x ∈ T.path a d n ↔ ∃ m, m ≤ n ∧ x.1 = (net a ((d + m : Nat) : Int), d + m) ∧ ∃ l r, T.sub a d m = .node x.2.1 (some x.2.2) l r
  | n, .nil, a, d, x => by
    rw [path_nil]
    constructor
    · intro h; cases h
    · rintro ⟨m, _, _, l, r, h⟩; rw [sub_nil] at h; cases h
  | 0, .node b e l r, a, d, x => by
    show x ∈ ownS b e a d ↔ _
    rw [mem_ownS]
    constructor
    · rintro ⟨h1, h2, h3⟩
      exact ⟨0, Nat.le_refl _, h1, l, r, by rw [sub_zero, h2, h3]⟩
    · rintro ⟨m, hm, h1, l', r', h2⟩
      obtain rfl : m = 0 := by omega
      rw [sub_zero] at h2
      injection h2 with e1 e2 e3 e4
      exact ⟨h1, e1.symm, e2⟩
  | n + 1, .node b e l r, a, d, x => by
    show x ∈ ownS b e a d ++ (if bitN a d = 0 then l else r).path a (d + 1) n ↔ _
    rw [List.mem_append, mem_ownS, path_mem n _ a (d + 1) x]
    constructor
    · rintro (⟨h1, h2, h3⟩ | ⟨m, hm, h1, h2⟩)
      · exact ⟨0, Nat.zero_le _, h1, l, r, by rw [sub_zero, h2, h3]⟩
      · refine ⟨m + 1, by omega, ?_, h2⟩
        rw [h1, show d + 1 + m = d + (m + 1) by omega]
    · rintro ⟨m, hm, h1, l', r', h2⟩
      cases m with
      | zero =>
        left
        rw [sub_zero] at h2
        injection h2 with e1 e2 e3 e4
        exact ⟨h1, e1.symm, e2⟩
      | succ m =>
        right
        refine ⟨m, by omega, ?_, l', r', h2⟩
        rw [h1, show d + 1 + m = d + (m + 1) by omega]
theorem path_srt : ∀ (n : Nat) (T : Tr) (a d : Nat), (T.path a d n).Pairwise fun x y => x.1.2 < y.1.2
  | n, .nil, a, d => by rw [path_nil]; exact List.Pairwise.nil
  | 0, .node b e l r, a, d => by show (ownS b e a d).Pairwise _; unfold ownS; cases e <;> simp
  | n + 1, .node b e l r, a, d => by
    show (ownS b e a d ++ (if bitN a d = 0 then l else r).path a (d + 1) n).Pairwise _
    rw [List.pairwise_append]
    refine ⟨by unfold ownS; cases e <;> simp, path_srt n _ a (d + 1), fun x hx y hy => ?_⟩
    have h1 := (mem_ownS.1 hx).1
    obtain ⟨m, _, h2, _⟩ := (path_mem n _ a (d + 1) y).1 hy
    rw [h1, h2]
    simp only
    omega
/-- A step as an entry. -/
def asEn (x : Step) : En := (x.1, x.2.2)
theorem path_cov {T : Tr} (h : T.deep 33) {a n : Nat} (ha : a < 4294967296) (hn : n ≤ 32) : (T.path a 0 n).map asEn = covF (T.ents 0 0) (a, n) := by
  have hsrt : Srt ((T.path a 0 n).map asEn) := by
    unfold Srt
    rw [List.pairwise_map]
    refine (path_srt n T a 0).imp_of_mem ?_
    intro x y hx hy hxy
    obtain ⟨m, hm, h1, _⟩ := (path_mem n T a 0 x).1 hx
    obtain ⟨k, hk, h2, _⟩ := (path_mem n T a 0 y).1 hy
    rw [h1, h2] at hxy
    unfold asEn
    rw [h1, h2]
    simp only [Nat.zero_add] at *
    exact net_lt_net hxy (by omega)
  refine srt_ext hsrt ((root_srt h).filter _) ?_
  rintro ⟨⟨x, m⟩, v⟩
  unfold covF
  rw [List.mem_filter, root_mem h x m v, cov_iff, List.mem_map]
  constructor
  · rintro ⟨⟨q, b, u⟩, hq, he⟩
    obtain ⟨k, hk, h1, l, r, h2⟩ := (path_mem n T a 0 _).1 hq
    unfold asEn at he
    simp only [Nat.zero_add] at h1 h2
    rw [h1] at he
    simp only [Prod.mk.injEq] at he
    obtain ⟨⟨rfl, rfl⟩, rfl⟩ := he
    refine ⟨⟨okp_net ha (by omega), ?_⟩, by simp only; omega, rfl⟩
    unfold Tr.get
    rw [sub_net k T a 0 k (by omega) (by omega), h2]
    rfl
  · rintro ⟨⟨hok, hg⟩, hmn, hnet⟩
    have hm : m ≤ n := by simpa using hmn
    simp only at hnet
    subst hnet
    unfold Tr.get at hg
    rw [sub_net m T a 0 m (by omega) (by omega)] at hg
    cases hs : T.sub a 0 m with
    | nil => rw [hs] at hg; cases hg
    | node b e l r =>
      rw [hs] at hg
      obtain rfl : e = some v := hg
      exact ⟨((net a (m : Int), m), b, v), (path_mem n T a 0 _).2 ⟨m, hm, by simp, l, r, hs⟩, rfl⟩
/-- An address is a prefix of length 32. -/
theorem con_cov {L : List En} (h : Oks L) (a : Nat) : conF L a = covF L (a, 32) := by
  unfold conF covF
  refine List.filter_congr fun x hx => ?_
  unfold covB
  have := (h x hx).1
  rw [decide_eq_true (by simp only; omega), Bool.true_and]
/-- The prefix itself on its way. -/
theorem path_self {T : Tr} {a n : Nat} (hp : OkP (a, n)) {x : Step} : x ∈ T.path a 0 n ∧ x.1 = (a, n) ↔ x.1 = (a, n) ∧ ∃ l r, T.sub a 0 n = .node x.2.1 (some x.2.2) l r := by
  rw [path_mem]
  constructor
  · rintro ⟨⟨m, hm, h1, h2⟩, h3⟩
    rw [h3] at h1
    simp only [Nat.zero_add, Prod.mk.injEq] at h1
    obtain ⟨_, rfl⟩ := h1
    exact ⟨h3, h2⟩
  · rintro ⟨h3, h2⟩
    refine ⟨⟨n, Nat.le_refl _, ?_, h2⟩, h3⟩
    rw [h3, Nat.zero_add]
    simp only [Prod.mk.injEq, and_true]
    exact (okp_net_self hp).symm

/-! ### A value set -/
theorem put_same : ∀ (k : Nat) (T : Tr) (a d : Nat), T.put a d k (fun X => X) = T
  | 0, T, a, d => by rw [put_zero]
  | k + 1, .nil, a, d => rfl
  | k + 1, .node b e l r, a, d => by
    unfold Tr.put
    rw [put_same k l, put_same k r]
    split <;> rfl
theorem get_set {T : Tr} {a n : Nat} {b : Nat} {e : Option Int} {l r : Tr} (u : Option Int) (hn : n ≤ 32) (hs : T.sub a 0 n = .node b e l r) (x m : Nat) (hx : x < 4294967296) (ha : a < 4294967296) :
    (T.put a 0 n (fun _ => .node b u l r)).get x 0 m = if m = n ∧ x / blk n = a / blk n then u else T.get x 0 m := by
  have hne : T.sub a 0 n ≠ .nil := by rw [hs]; exact fun h => by cases h
  have h0 : x / blk 0 = a / blk 0 := by
    have : blk 0 = 4294967296 := by decide
    rw [this, Nat.div_eq_of_lt hx, Nat.div_eq_of_lt ha]
  have g1 := get_put n T a 0 (fun _ => .node b u l r) x m (by omega) hne h0
  have g2 := get_put n T a 0 (fun X => X) x m (by omega) hne h0
  rw [put_same, hs] at g2
  rw [g1, g2]
  simp only [Nat.zero_add]
  by_cases hag : x / blk n = a / blk n
  · by_cases hm : m = n
    · subst hm
      rw [if_pos ⟨Nat.le_refl _, hag⟩, if_pos ⟨rfl, hag⟩, Nat.sub_self]; rfl
    · rw [if_neg (c := m = n ∧ _) (fun h => hm h.1)]
      by_cases hle : n ≤ m
      · rw [if_pos ⟨hle, hag⟩, if_pos ⟨hle, hag⟩]
        have : m - n = (m - n - 1) + 1 := by omega
        rw [this, get_succ, get_succ]
      · rw [if_neg (fun h => hle h.1), if_neg (fun h => hle h.1)]
  · rw [if_neg (fun h => hag h.2), if_neg (fun h => hag h.2), if_neg (fun h => hag h.2)]
theorem set_deep {T : Tr} {a n : Nat} {b : Nat} {e : Option Int} {l r : Tr} (u : Option Int) (hn : n ≤ 32) (hs : T.sub a 0 n = .node b e l r) (h : T.deep 33) : (T.put a 0 n (fun _ => .node b u l r)).deep 33 := by
  refine deep_put n T a 0 33 _ (by omega) h ?_
  have := deep_sub n T a 0 33 (by omega) h
  rw [hs] at this
  have e1 : 33 - n = (32 - n) + 1 := by omega
  rw [e1] at this ⊢
  exact this
theorem set_some {T : Tr} {a n : Nat} {b : Nat} {e : Option Int} {l r : Tr} (v : Int) (hp : OkP (a, n)) (hs : T.sub a 0 n = .node b e l r) (h : T.deep 33) :
    (T.put a 0 n (fun _ => .node b (some v) l r)).ents 0 0 = ins (T.ents 0 0) (a, n) v := by
  have hd := set_deep (some v) hp.1 hs h
  refine srt_ext (root_srt hd) (srt_ins (root_srt h) _ _) ?_
  rintro ⟨⟨x, m⟩, u⟩
  rw [root_mem hd, mem_ins, root_mem h]
  constructor
  · rintro ⟨hok, hg⟩
    rw [get_set (some v) hp.1 hs x m hok.2.2 hp.2.2] at hg
    by_cases hc : m = n ∧ x / blk n = a / blk n
    · rw [if_pos hc] at hg
      obtain ⟨rfl, h2⟩ := hc
      left
      have hxa : x = a := top_eq hok.2.1 hp.2.1 h2
      injection hg with hg
      rw [hxa, hg]
    · rw [if_neg hc] at hg
      refine .inr ⟨⟨hok, hg⟩, fun e => hc ?_⟩
      simp only [Prod.mk.injEq] at e
      obtain ⟨rfl, rfl⟩ := e
      exact ⟨rfl, rfl⟩
  · rintro (e | ⟨⟨hok, hg⟩, hne⟩)
    · simp only [Prod.mk.injEq] at e
      obtain ⟨⟨rfl, rfl⟩, rfl⟩ := e
      exact ⟨hp, by rw [get_set (some u) hp.1 hs x m hp.2.2 hp.2.2, if_pos ⟨rfl, rfl⟩]⟩
    · refine ⟨hok, ?_⟩
      rw [get_set (some v) hp.1 hs x m hok.2.2 hp.2.2, if_neg]
      · exact hg
      · rintro ⟨rfl, h2⟩
        have hxa : x = a := top_eq hok.2.1 hp.2.1 h2
        exact hne (by rw [hxa])
theorem set_none {T : Tr} {a n : Nat} {b : Nat} {e : Option Int} {l r : Tr} (hp : OkP (a, n)) (hs : T.sub a 0 n = .node b e l r) (h : T.deep 33) :
    (T.put a 0 n (fun _ => .node b none l r)).ents 0 0 = del (T.ents 0 0) (a, n) := by
  have hd := set_deep none hp.1 hs h
  refine srt_ext (root_srt hd) (srt_del (root_srt h) _) ?_
  rintro ⟨⟨x, m⟩, u⟩
  rw [root_mem hd, mem_del, root_mem h]
  constructor
  · rintro ⟨hok, hg⟩
    rw [get_set none hp.1 hs x m hok.2.2 hp.2.2] at hg
    by_cases hc : m = n ∧ x / blk n = a / blk n
    · rw [if_pos hc] at hg; cases hg
    · rw [if_neg hc] at hg
      refine ⟨⟨hok, hg⟩, fun e => hc ?_⟩
      simp only [Prod.mk.injEq] at e
      obtain ⟨rfl, rfl⟩ := e
      exact ⟨rfl, rfl⟩
  · rintro ⟨⟨hok, hg⟩, hne⟩
    refine ⟨hok, ?_⟩
    rw [get_set none hp.1 hs x m hok.2.2 hp.2.2, if_neg]
    · exact hg
    · rintro ⟨rfl, h2⟩
      have hxa : x = a := top_eq hok.2.1 hp.2.1 h2
      exact hne (by rw [hxa])

/-! ### What a reference gathers by lengths -/
theorem cov_next (L : List En) (h : Srt L) (hok : Oks L) (p : Px) (n : Nat) :
    (covF L p).filter (fun x => decide (x.1.2 < n + 1)) = (covF L p).filter (fun x => decide (x.1.2 < n)) ++ L.filter (fun x => decide (x.1.2 = n) && covB x.1.1 x.1.2 p.1 p.2) := by
  have hs : Srt (covF L p) := h.filter _
  refine srt_ext (hs.filter _) ?_ ?_
  · unfold Srt
    rw [List.pairwise_append]
    refine ⟨hs.filter _, h.filter _, fun x hx y hy => ?_⟩
    rw [List.mem_filter] at hx hy
    obtain ⟨hx1, hx2⟩ := hx
    obtain ⟨hy1, hy2⟩ := hy
    unfold covF at hx1
    rw [List.mem_filter] at hx1
    simp only [Bool.and_eq_true, decide_eq_true_eq] at hx2 hy2
    have c1 : contB x.1.1 x.1.2 p.1 = true := cont_iff.2 (cov_iff.1 hx1.2).2
    have c2 : contB y.1.1 y.1.2 p.1 = true := cont_iff.2 (cov_iff.1 hy2.2).2
    exact (cov_lt (hok x hx1.1) (hok y hy1) c1 c2).2 (by omega)
  · intro x
    unfold covF
    simp only [List.mem_filter, List.mem_append, Bool.and_eq_true, decide_eq_true_eq]
    constructor
    · rintro ⟨⟨h1, h2⟩, h3⟩
      rcases Nat.lt_or_ge x.1.2 n with h4 | h4
      · exact .inl ⟨⟨h1, h2⟩, h4⟩
      · exact .inr ⟨h1, by omega, h2⟩
    · rintro (⟨⟨h1, h2⟩, h3⟩ | ⟨h1, h2, h3⟩)
      · exact ⟨⟨h1, h2⟩, by omega⟩
      · exact ⟨⟨h1, h3⟩, by omega⟩
theorem cov_none (L : List En) (p : Px) : (covF L p).filter (fun x => decide (x.1.2 < 0)) = [] := List.filter_eq_nil_iff.2 fun x _ h => by simp at h
theorem cov_all {L : List En} (hok : Oks L) (p : Px) : (covF L p).filter (fun x => decide (x.1.2 < 33)) = covF L p :=
  List.filter_eq_self.2 fun x hx => by
    unfold covF at hx
    rw [List.mem_filter] at hx
    have := (hok x hx.1).1
    simp; omega
end Go.Proofs.Ytnlmplllfgfgoaa.Tp
