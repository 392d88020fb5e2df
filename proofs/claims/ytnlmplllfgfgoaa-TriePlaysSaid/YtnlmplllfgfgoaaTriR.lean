/-
  THE CONTRACTS OF THE REFERENCE's FUNCTIONS ON PREFIXES THAT A TABLE CALLS: Mask, Contains, Valid, Covers, Compare.
-/
import Derived.Test.YtnlmplllfgfgoaaRows
import Derived.Test.YtnlmplllfgfgoaaPfxK
import Derived.WalkSpells
import Derived.IntWalk
import Derived.Deep.RegionHeld3
namespace Go.Proofs.Ytnlmplllfgfgoaa.Ad
set_option linter.unusedSimpArgs false
set_option linter.unusedVariables false
open Go.RowKit Am Kt

theorem or_bit (m k : Nat) (hm : m < 4294967296) (hk : k < 32) : bits .or .u32 (m : Int) (2 ^ (31 - k) % 4294967296) = ((m ||| 2 ^ (31 - k) : Nat) : Int) := by
  have h : 2 ^ (31 - k) < 4294967296 := Nat.lt_of_le_of_lt (Nat.pow_le_pow_right (by decide) (by omega : 31 - k ≤ 31)) (by decide)
  have e : ((2 : Int) ^ (31 - k) % 4294967296) = ((2 ^ (31 - k) : Nat) : Int) := by
    have e1 : ((2 : Int) ^ (31 - k)) = ((2 ^ (31 - k) : Nat) : Int) := by simp
    rw [e1]; exact Int.emod_eq_of_lt (Int.natCast_nonneg _) (Int.ofNat_lt.2 h)
  rw [e, u32_or_nat m _ hm h]

/-- The reference's mask after i rounds. -/
def upTo (n : Int) (i : Nat) : Nat := mk (min i (cl n))

set_option maxHeartbeats 1000000 in
theorem refMask (n : Int) (w : World) :
    Calls Try.prog 37 #[.int .i64 n] w fun e w' => e = .returned (.int .u32 (mk (cl n) : Nat)) ∧ w = w' := by
  have hst : Hid (upTo n 0 = 0) := by show _ = _; unfold upTo; rw [Nat.zero_min]; exact mk_zero
  go_enter Try.func37, Try.ntmps37
  go_wp2
  go_loop [3, 4] (fun v i => ∃ k : Nat, k ≤ 32 ∧ i = .int .i64 k ∧ v = .int .u32 (upTo n k)) (fun _ i => 32 - (intOf i).toNat)
  case atStart => exact ⟨0, by omega, rfl, by rw [hst.out]; rfl⟩
  case round =>
    obtain ⟨k, hk, rfl, rfl⟩ := hrel
    by_cases hlt : k < 32
    · by_cases hn : (k : Int) < n
      · have hS : Hid (bits .or .u32 (upTo n k) (2 ^ (31 - k) % 4294967296) = (upTo n (k + 1) : Nat)) := by
          show _ = _
          have e1 : upTo n k = mk k := by unfold upTo; rw [show min k (cl n) = k by unfold cl; omega]
          have e2 : upTo n (k + 1) = mk (k + 1) := by unfold upTo; rw [show min (k + 1) (cl n) = k + 1 by unfold cl; omega]
          rw [e1, e2, ← mk_or k hlt]
          exact or_bit (mk k) k (mk_lt k) hlt
        go_wp2
        go_round
        case rel => exact ⟨k + 1, by omega, by go_num, by rw [hS.out]⟩
        case measure => simp [intOf]; omega
      · have hS : Hid (upTo n k = upTo n (k + 1)) := by
          show _ = _; unfold upTo; rw [show min k (cl n) = min (k + 1) (cl n) by unfold cl; omega]
        go_wp2
        go_round
        case rel => exact ⟨k + 1, by omega, by go_num, by rw [hS.out]⟩
        case measure => simp [intOf]; omega
    · have hE : Hid (upTo n k = mk (cl n)) := by
        show _ = _; unfold upTo; rw [Nat.min_eq_right (by have := cl_le n; omega)]
      go_wp2
      go_ret
      exact ⟨ret_int (by rw [hE.out]), rfl⟩

set_option maxHeartbeats 1000000 in
theorem refContains (a : Nat) (n : Int) (x : Nat) (w : World) (hx : x < 4294967296) :
    Calls Try.prog 25 #[px a n, .int .u32 (x : Int)] w fun e w' => e = .returned (.bool (contB a n x)) ∧ Below w.heap.size w w' := by
  have c0 := box_0 w (.int .u32 (a : Int)) (.int .i64 n) 31
  have c1 := box_1 w (.int .u32 (a : Int)) (.int .i64 n) 31
  go_enter Try.func25, Try.ntmps25
  go_wp2
  refine wp_region_later (w.heap.size + 1) (by kernel_rfl) (by kernel_rfl) ?_
  repeat (go_big_quiet_step ((go_at_call 37; exact later_same (refMask _ _))))
  refine wpQuiet_nil ?_
  rintro _ ⟨u, rfl⟩
  go_wp2
  go_ret
  exact ⟨ret_bool (by rw [and_int x n hx, Bool.eq_iff_iff]; unfold contB; simp; omega), box_below w _ _ _ u⟩

set_option maxHeartbeats 1000000 in
theorem refValid (a : Nat) (n : Int) (w : World) (ha : a < 4294967296) :
    Calls Try.prog 26 #[px a n] w fun e w' => e = .returned (.bool (validB a n)) ∧ Below w.heap.size w w' := by
  have c0 := box_0 w (.int .u32 (a : Int)) (.int .i64 n) 31
  have c1 := box_1 w (.int .u32 (a : Int)) (.int .i64 n) 31
  by_cases hn : 0 ≤ n ∧ n ≤ 32
  · have hv : Hid (validB a n = decide (a % blk (cl n) = 0)) := by show _ = _; unfold validB; simp [hn]
    obtain ⟨h0, h1⟩ := hn
    go_enter Try.func26, Try.ntmps26
    go_wp2_with (fail)
    refine wp_region_later (w.heap.size + 1) (by kernel_rfl) (by kernel_rfl) ?_
    repeat (go_big_quiet_step ((go_at_call 37; exact later_same (refMask _ _))))
    refine wpQuiet_nil ?_
    rintro _ ⟨u, rfl⟩
    go_wp2
    go_ret
    exact ⟨ret_bool (by rw [hv.out, andNot_int a n ha, Bool.eq_iff_iff]; simp; omega), box_below w _ _ _ u⟩
  · have hv : Hid (validB a n = false) := by show _ = _; unfold validB; rw [decide_eq_false hn]; rfl
    have hs : (decide (0 ≤ n) = false) ∨ (decide (0 ≤ n) = true ∧ decide (n ≤ 32) = false) := by
      by_cases h : 0 ≤ n
      · exact .inr ⟨by simpa using h, by simp; omega⟩
      · exact .inl (by simpa using h)
    clear hn
    rcases hs with h0 | ⟨h0, h1⟩
    all_goals
      go_enter Try.func26, Try.ntmps26
      go_wp2_with (fail)
      refine wp_region_later (w.heap.size + 1) (by kernel_rfl) (by kernel_rfl) ?_
      repeat (go_big_quiet_step ((go_at_call 37; exact later_same (refMask _ _))))
      refine wpQuiet_nil ?_
      rintro _ ⟨u, rfl⟩
      go_wp2
      go_ret
      exact ⟨ret_bool hv.out.symm, box_below w _ _ _ u⟩

set_option maxHeartbeats 1000000 in
theorem refCovers (a : Nat) (n : Int) (b : Nat) (m : Int) (w : World) (hb : b < 4294967296) :
    Calls Try.prog 27 #[px a n, px b m] w fun e w' => e = .returned (.bool (covB a n b m)) ∧ Below w.heap.size w w' := by
  have hC := fun wx => refContains a n b wx hb
  by_cases hnm : n ≤ m
  · have hv : Hid (covB a n b m = contB a n b) := by show _ = _; unfold covB; simp [hnm]
    go_enter Try.func27, Try.ntmps27
    go_wp2_with (go_at_call 25; refine (hC _).mono ?_; rintro e w1 ⟨rfl, b1⟩)
    go_ret
    exact ⟨ret_bool hv.out.symm, then_ (al2 w _ _) b1⟩
  · have hv : Hid (covB a n b m = false) := by show _ = _; unfold covB; simp [hnm]
    go_enter Try.func27, Try.ntmps27
    go_wp2_with (fail)
    go_ret
    exact ⟨ret_bool hv.out.symm, al2 w _ _⟩


/-- What Compare answers. -/
def cmpV (a : Nat) (n : Int) (b : Nat) (m : Int) : Int := if a < b ∨ a = b ∧ n < m then -1 else if a = b ∧ n = m then 0 else 1
theorem cmpV_lt {a b : Nat} {n m : Int} (h : a < b ∨ a = b ∧ n < m) : cmpV a n b m = -1 := by unfold cmpV; rw [if_pos h]
theorem cmpV_eq (a : Nat) (n : Int) : cmpV a n a n = 0 := by unfold cmpV; rw [if_neg (by omega), if_pos ⟨rfl, rfl⟩]
theorem cmpV_gt {a b : Nat} {n m : Int} (h : b < a ∨ a = b ∧ m < n) : cmpV a n b m = 1 := by unfold cmpV; rw [if_neg (by omega), if_neg (by omega)]

set_option maxHeartbeats 1000000 in
theorem refCompare (a : Nat) (n : Int) (b : Nat) (m : Int) (w : World) :
    Calls Try.prog 35 #[px a n, px b m] w fun e w' => e = .returned (.int .i64 (cmpV a n b m)) ∧ Below w.heap.size w w' := by
  rcases Nat.lt_trichotomy a b with h | h | h
  · have hr := hid (cmpV_lt (n := n) (m := m) (.inl h))
    go_enter Try.func35, Try.ntmps35
    go_wp2_with (fail)
    go_ret
    exact ⟨ret_int hr.out.symm, al2 w _ _⟩
  · subst h
    rcases Int.lt_trichotomy n m with h | h | h
    · have hr := hid (cmpV_lt (a := a) (.inr ⟨rfl, h⟩))
      go_enter Try.func35, Try.ntmps35
      go_wp2_with (fail)
      all_goals go_ret
      all_goals exact ⟨ret_int hr.out.symm, al2 w _ _⟩
    · subst h
      have hr := hid (cmpV_eq a n)
      go_enter Try.func35, Try.ntmps35
      go_wp2_with (fail)
      all_goals go_ret
      all_goals exact ⟨ret_int hr.out.symm, al2 w _ _⟩
    · have hr := hid (cmpV_gt (a := a) (.inr ⟨rfl, h⟩))
      go_enter Try.func35, Try.ntmps35
      go_wp2_with (fail)
      all_goals go_ret
      all_goals exact ⟨ret_int hr.out.symm, al2 w _ _⟩
  · have hr := hid (cmpV_gt (n := n) (m := m) (.inl h))
    go_enter Try.func35, Try.ntmps35
    go_wp2_with (fail)
    all_goals go_ret
    all_goals exact ⟨ret_int hr.out.symm, al2 w _ _⟩
end Go.Proofs.Ytnlmplllfgfgoaa.Ad
