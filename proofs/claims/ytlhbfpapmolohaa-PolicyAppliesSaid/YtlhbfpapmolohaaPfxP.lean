/-
  PLAIN FACTS ON PREFIXES: network, last, valid, contains; covers and overlaps; halves. No program is named here. (The plain parts of AddrB and AddrQ, in one text: never beside those two.)
-/
import Derived.Test.YtlhbfpapmolohaaAddrP
import Derived.Lib.Strings
namespace Go.Proofs.Ytlhbfpapmolohaa.Am
set_option linter.unusedSimpArgs false
set_option linter.unusedVariables false

def net (a : Nat) (n : Int) : Nat := a / blk (cl n) * blk (cl n)
def validB (a : Nat) (n : Int) : Bool := decide (0 ≤ n ∧ n ≤ 32) && decide (a % blk (cl n) = 0)
def contB (a : Nat) (n : Int) (x : Nat) : Bool := decide (net x n = a)
def covB (a : Nat) (n : Int) (b : Nat) (m : Int) : Bool := decide (n ≤ m) && contB a n b
def ovlB (a : Nat) (n : Int) (b : Nat) (m : Int) : Bool := covB a n b m || covB b m a n
def lastV (a : Nat) (n : Int) : Nat := a / blk (cl n) * blk (cl n) + (blk (cl n) - 1)
theorem net_le (a : Nat) (n : Int) : net a n ≤ a := Nat.div_mul_le_self _ _
theorem net_lt {a : Nat} (n : Int) (h : a < 4294967296) : net a n < 4294967296 := Nat.lt_of_le_of_lt (net_le a n) h
theorem lastV_lt {a : Nat} (n : Int) (h : a < 4294967296) : lastV a n < 4294967296 := by
  have h1 := blk_dvd_all (cl n)
  obtain ⟨q, hq⟩ := h1
  have hp := blk_pos (cl n)
  unfold lastV
  have hd : a / blk (cl n) < q := Nat.div_lt_of_lt_mul (by rw [← hq]; exact h)
  have : (a / blk (cl n) + 1) * blk (cl n) ≤ q * blk (cl n) := Nat.mul_le_mul_right _ hd
  rw [Nat.add_mul, Nat.one_mul, Nat.mul_comm q, ← hq] at this
  omega
theorem and_int (x : Nat) (n : Int) (h : x < 4294967296) : bits .and .u32 (x : Int) (mk (cl n) : Nat) = (net x n : Nat) := by
  rw [u32_and_nat x _ h (mk_lt _), and_mk x _ h (cl_le n)]; rfl
theorem andNot_int (x : Nat) (n : Int) (h : x < 4294967296) : bits .andNot .u32 (x : Int) (mk (cl n) : Nat) = (x % blk (cl n) : Nat) := by
  rw [u32_andNot_nat x _ h (mk_lt _), andNot_mk x _ h (cl_le n)]
theorem or_int (x : Nat) (n : Int) (h : x < 4294967296) : bits .or .u32 (x : Int) (bits .xor .u32 IntKind.u32.max (mk (cl n) : Nat)) = (lastV x n : Nat) := by
  have h1 := blk_pos (cl n)
  have h2 := blk_le (cl n)
  rw [not_u32 _ (mk_lt _), u32_or_nat x _ h (by omega)]
  have e : 4294967295 - mk (cl n) = blk (cl n) - 1 := by unfold mk; omega
  rw [e, or_low]; rfl
theorem net_net (x : Nat) (n m : Int) (h : n ≤ m) : net (net x m) n = net x n := by
  have hk : cl n ≤ cl m := by unfold cl; omega
  obtain ⟨d, hd⟩ := blk_dvd (cl n) (cl m) hk (cl_le m)
  have hp := blk_pos (cl m)
  unfold net
  rw [hd]
  congr 1
  rw [← Nat.div_div_eq_div_mul, Nat.mul_div_cancel _ hp, Nat.div_div_eq_div_mul]
theorem cont_iff {a : Nat} {n : Int} {x : Nat} : contB a n x = true ↔ net x n = a := by unfold contB; simp
theorem cov_iff {a b : Nat} {n m : Int} : covB a n b m = true ↔ n ≤ m ∧ net b n = a := by unfold covB; rw [Bool.and_eq_true, cont_iff]; simp
theorem valid_iff {a : Nat} {n : Int} : validB a n = true ↔ (0 ≤ n ∧ n ≤ 32) ∧ a % blk (cl n) = 0 := by unfold validB; simp
theorem valid_net {a : Nat} {n : Int} (h : validB a n = true) : net a n = a := by
  have := (valid_iff.1 h).2
  unfold net
  exact Nat.div_mul_cancel (Nat.dvd_of_mod_eq_zero this)
/-- What lies in the covered prefix lies in the covering one. -/
theorem cov_cont {a b x : Nat} {n m : Int} (h : covB a n b m = true) (hx : contB b m x = true) : contB a n x = true := by
  rw [cov_iff] at h
  rw [cont_iff] at hx ⊢
  rw [← h.2, ← hx, net_net x n m h.1]
/-- An address in both: they overlap. -/
theorem both_ovl {a b x : Nat} {n m : Int} (h : contB a n x = true) (hx : contB b m x = true) : ovlB a n b m = true := by
  rw [cont_iff] at h hx
  unfold ovlB
  rw [Bool.or_eq_true, cov_iff, cov_iff]
  by_cases hnm : n ≤ m
  · exact .inl ⟨hnm, by rw [← hx, net_net x n m hnm, h]⟩
  · exact .inr ⟨by omega, by rw [← h, net_net x m n (by omega), hx]⟩
theorem cov_trans {a b c : Nat} {n m l : Int} (h : covB a n b m = true) (k : covB b m c l = true) : covB a n c l = true := by
  rw [cov_iff] at *
  exact ⟨by omega, by rw [← h.2, ← k.2, net_net c n m h.1]⟩
theorem cov_self {a : Nat} {n : Int} (h : validB a n = true) : covB a n a n = true := by
  rw [cov_iff]; exact ⟨Int.le_refl _, valid_net h⟩
theorem cov_anti {a b : Nat} {n m : Int} (hb : validB b m = true) (h : covB a n b m = true) (k : covB b m a n = true) : a = b ∧ n = m := by
  rw [cov_iff] at h k
  have e : n = m := by omega
  subst e
  exact ⟨by rw [← h.2, valid_net hb], rfl⟩

/-! ### Halves -/
theorem low_half {a : Nat} {n : Int} (h : validB a n = true) (hn : n < 32) : net a (n + 1) = a := by
  have hv := valid_iff.1 h
  have hc : cl (n + 1) = cl n + 1 := by unfold cl; omega
  have hs := blk_succ (cl n) (by unfold cl; omega)
  unfold net
  rw [hc]
  have hd : blk (cl n + 1) ∣ a := Nat.dvd_trans ⟨2, by omega⟩ (Nat.dvd_of_mod_eq_zero hv.2)
  exact Nat.div_mul_cancel hd
theorem last_valid {a : Nat} {n : Int} (h : validB a n = true) : lastV a n = a + (blk (cl n) - 1) := by
  have := valid_net h
  unfold net at this
  unfold lastV; rw [this]
theorem high_half {a : Nat} {n : Int} (h : validB a n = true) (hn : n < 32) : net (lastV a n) (n + 1) = a + blk (cl n + 1) := by
  have hv := valid_iff.1 h
  have hc : cl (n + 1) = cl n + 1 := by unfold cl; omega
  have hs := blk_succ (cl n) (by unfold cl; omega)
  have hp := blk_pos (cl n + 1)
  obtain ⟨q, hq⟩ := Nat.dvd_of_mod_eq_zero hv.2
  rw [last_valid h]
  unfold net
  rw [hc]
  have ht : a = 2 * (blk (cl n + 1) * q) := by rw [hq, hs, Nat.mul_assoc]
  have hu : (2 * q + 1) * blk (cl n + 1) = 2 * (blk (cl n + 1) * q) + blk (cl n + 1) := by
    rw [Nat.add_mul, Nat.one_mul, Nat.mul_assoc, Nat.mul_comm q]
  have e : a + (blk (cl n) - 1) = (2 * q + 1) * blk (cl n + 1) + (blk (cl n + 1) - 1) := by rw [hu, ← ht]; omega
  have e2 : ((2 * q + 1) * blk (cl n + 1) + (blk (cl n + 1) - 1)) / blk (cl n + 1) = 2 * q + 1 := by
    rw [Nat.mul_comm, Nat.mul_add_div hp, Nat.div_eq_of_lt (by omega), Nat.add_zero]
  rw [e, e2, hu, ← ht]
theorem valid_low {a : Nat} {n : Int} (h : validB a n = true) (hn : n < 32) : validB a ((cl n + 1 : Nat) : Int) = true := by
  have hv := valid_iff.1 h
  have hs := blk_succ (cl n) (by unfold cl; omega)
  have hc : cl n + 1 ≤ 32 := by unfold cl; omega
  rw [valid_iff, cl_nat _ hc]
  refine ⟨by omega, ?_⟩
  have hd : blk (cl n + 1) ∣ a := Nat.dvd_trans ⟨2, by omega⟩ (Nat.dvd_of_mod_eq_zero hv.2)
  exact Nat.mod_eq_zero_of_dvd hd
theorem valid_high {a : Nat} {n : Int} (h : validB a n = true) (hn : n < 32) : validB (a + blk (cl n + 1)) ((cl n + 1 : Nat) : Int) = true := by
  have hl := valid_iff.1 (valid_low h hn)
  have hc : cl n + 1 ≤ 32 := by unfold cl; omega
  rw [cl_nat _ hc] at hl
  rw [valid_iff, cl_nat _ hc]
  exact ⟨by omega, by rw [Nat.add_mod_right]; exact hl.2⟩
theorem half_le {a : Nat} {n : Int} (h : validB a n = true) (hn : n < 32) (ha : a < 4294967296) : a + blk (cl n) ≤ 4294967296 := by
  have hv := valid_iff.1 h
  obtain ⟨q, hq⟩ := Nat.dvd_of_mod_eq_zero hv.2
  obtain ⟨d, hd⟩ := blk_dvd_all (cl n)
  have : q < d := Nat.lt_of_mul_lt_mul_left (a := blk (cl n)) (by rw [← hq, ← hd]; exact ha)
  have h2 : blk (cl n) * (q + 1) ≤ blk (cl n) * d := Nat.mul_le_mul_left _ this
  rw [Nat.mul_add, Nat.mul_one, ← hq, ← hd] at h2
  exact h2
theorem cont_range {a x : Nat} {k : Nat} (hk : k ≤ 32) (h : a % blk k = 0) : contB a (k : Int) x = decide (a ≤ x ∧ x < a + blk k) := by
  have hp := blk_pos k
  rw [Bool.eq_iff_iff, cont_iff, decide_eq_true_eq]
  unfold net
  rw [cl_nat k hk]
  obtain ⟨q, hq⟩ := Nat.dvd_of_mod_eq_zero h
  have hx := Nat.div_add_mod x (blk k)
  have hm := Nat.mod_lt x hp
  constructor
  · intro e
    rw [Nat.mul_comm] at e
    omega
  · rintro ⟨h1, h2⟩
    have e : x / blk k = q := by
      have l1 : q ≤ x / blk k := (Nat.le_div_iff_mul_le hp).2 (by rw [Nat.mul_comm, ← hq]; exact h1)
      have l2 : x / blk k < q + 1 := (Nat.div_lt_iff_lt_mul hp).2 (by rw [Nat.mul_comm, Nat.mul_add, ← hq]; omega)
      omega
    rw [e, hq, Nat.mul_comm]
/-- The two halves are what there is, and have nothing in common. -/
theorem halves_cont {a x : Nat} {n : Int} (h : validB a n = true) (hn : n < 32) :
    contB a n x = (contB a ((cl n + 1 : Nat) : Int) x || contB (a + blk (cl n + 1)) ((cl n + 1 : Nat) : Int) x) := by
  have hv := valid_iff.1 h
  have hn' : n = ((cl n : Nat) : Int) := (cl_of n hv.1.1 hv.1.2).symm
  have hs := blk_succ (cl n) (by unfold cl; omega)
  have hc : cl n + 1 ≤ 32 := by unfold cl; omega
  have h1 := (valid_iff.1 (valid_low h hn)).2
  have h2 := (valid_iff.1 (valid_high h hn)).2
  rw [cl_nat _ hc] at h1 h2
  have e : contB a n x = decide (a ≤ x ∧ x < a + blk (cl n)) := by
    have := cont_range (x := x) (cl_le n) hv.2
    rwa [← hn'] at this
  rw [e, cont_range hc h1, cont_range hc h2, Bool.eq_iff_iff]
  simp only [decide_eq_true_eq, Bool.or_eq_true]
  omega
theorem halves_apart {a : Nat} {n : Int} (h : validB a n = true) (hn : n < 32) :
    ovlB a ((cl n + 1 : Nat) : Int) (a + blk (cl n + 1)) ((cl n + 1 : Nat) : Int) = false := by
  have hp := blk_pos (cl n + 1)
  have hv1 := valid_net (valid_low h hn)
  have hv2 := valid_net (valid_high h hn)
  cases e : ovlB a ((cl n + 1 : Nat) : Int) (a + blk (cl n + 1)) ((cl n + 1 : Nat) : Int) with
  | false => rfl
  | true =>
    unfold ovlB at e
    rw [Bool.or_eq_true, cov_iff, cov_iff, hv1, hv2] at e
    omega
theorem last_high {a : Nat} {n : Int} (h : validB a n = true) (hn : n < 32) : lastV (a + blk (cl n + 1)) ((cl n + 1 : Nat) : Int) = lastV a n := by
  have hs := blk_succ (cl n) (by unfold cl; omega)
  have hc : cl n + 1 ≤ 32 := by unfold cl; omega
  have hp := blk_pos (cl n + 1)
  rw [last_valid h, last_valid (valid_high h hn), cl_nat _ hc]
  omega
theorem last_low {a : Nat} {n : Int} (h : validB a n = true) (hn : n < 32) : lastV a ((cl n + 1 : Nat) : Int) + 1 = a + blk (cl n + 1) := by
  have hc : cl n + 1 ≤ 32 := by unfold cl; omega
  have hp := blk_pos (cl n + 1)
  rw [last_valid (valid_low h hn), cl_nat _ hc]
  omega
theorem last_32 {a : Nat} (h : validB a 32 = true) : lastV a 32 = a := by
  rw [last_valid h]
  have : blk (cl 32) = 1 := by decide
  omega
end Go.Proofs.Ytlhbfpapmolohaa.Am
