/-
  THE CONTRACTS OF THE REFERENCE's Mask, Contains, Valid, Network. (Parts of wip/pfx XPfxR: never beside that.)
-/
import Derived.Test.YtlhbfpapmolohaaProg
import Derived.Test.YtlhbfpapmolohaaPfxK
namespace Go.Proofs.Ytlhbfpapmolohaa.Ad
set_option linter.unusedSimpArgs false
set_option linter.unusedVariables false
open Go.RowKit Am Kt

theorem or_bit (m k : Nat) (hm : m < 4294967296) (hk : k < 32) : bits .or .u32 (m : Int) (2 ^ (31 - k) % 4294967296) = ((m ||| 2 ^ (31 - k) : Nat) : Int) := by
  have h : 2 ^ (31 - k) < 4294967296 := Nat.lt_of_le_of_lt (Nat.pow_le_pow_right (by decide) (by omega : 31 - k ≤ 31)) (by decide)
  have e : ((2 : Int) ^ (31 - k) % 4294967296) = ((2 ^ (31 - k) : Nat) : Int) := by
    have e1 : ((2 : Int) ^ (31 - k)) = ((2 ^ (31 - k) : Nat) : Int) := by simp
    rw [e1]; exact Int.emod_eq_of_lt (Int.natCast_nonneg _) (Int.ofNat_lt.2 h)
  rw [e, u32_or_nat m _ hm h]

/-- The reference's mask after i rounds. -/
def upTo (n : Int) (i : Nat) : Nat := mk (min i (cl n))

set_option maxHeartbeats 1000000 in
theorem refMask (n : Int) (w : World) :
    Calls Try.prog 30 #[.int .i64 n] w fun e w' => e = .returned (.int .u32 (mk (cl n) : Nat)) ∧ w = w' := by
  have hst : Hid (upTo n 0 = 0) := by show _ = _; unfold upTo; rw [Nat.zero_min]; exact mk_zero
  go_enter Try.func30, Try.ntmps30
  go_wp2
  go_loop [3, 4] (fun v i => ∃ k : Nat, k ≤ 32 ∧ i = .int .i64 k ∧ v = .int .u32 (upTo n k)) (fun _ i => 32 - (intOf i).toNat)
  case atStart => exact ⟨0, by omega, rfl, by rw [hst.out]; rfl⟩
  case round =>
    obtain ⟨k, hk, rfl, rfl⟩ := hrel
    by_cases hlt : k < 32
    · by_cases hn : (k : Int) < n
      · have hS : Hid (bits .or .u32 (upTo n k) (2 ^ (31 - k) % 4294967296) = (upTo n (k + 1) : Nat)) := by
          show _ = _
          have e1 : upTo n k = mk k := by unfold upTo; rw [show min k (cl n) = k by unfold cl; omega]
          have e2 : upTo n (k + 1) = mk (k + 1) := by unfold upTo; rw [show min (k + 1) (cl n) = k + 1 by unfold cl; omega]
          rw [e1, e2, ← mk_or k hlt]
          exact or_bit (mk k) k (mk_lt k) hlt
        go_wp2
        go_round
        case rel => exact ⟨k + 1, by omega, by go_num, by rw [hS.out]⟩
        case measure => simp [intOf]; omega
      · have hS : Hid (upTo n k = upTo n (k + 1)) := by
          show _ = _; unfold upTo; rw [show min k (cl n) = min (k + 1) (cl n) by unfold cl; omega]
        go_wp2
        go_round
        case rel => exact ⟨k + 1, by omega, by go_num, by rw [hS.out]⟩
        case measure => simp [intOf]; omega
    · have hE : Hid (upTo n k = mk (cl n)) := by
        show _ = _; unfold upTo; rw [Nat.min_eq_right (by have := cl_le n; omega)]
      go_wp2
      go_ret
      exact ⟨ret_int (by rw [hE.out]), rfl⟩

set_option maxHeartbeats 1000000 in
theorem refContains (a : Nat) (n : Int) (x : Nat) (w : World) (hx : x < 4294967296) :
    Calls Try.prog 43 #[px a n, .int .u32 (x : Int)] w fun e w' => e = .returned (.bool (contB a n x)) ∧ Below w.heap.size w w' := by
  have c0 := box_0 w (.int .u32 (a : Int)) (.int .i64 n) 27
  have c1 := box_1 w (.int .u32 (a : Int)) (.int .i64 n) 27
  go_enter Try.func43, Try.ntmps43
  go_wp2
  refine wp_region_later (w.heap.size + 1) (by kernel_rfl) (by kernel_rfl) ?_
  repeat (go_big_quiet_step ((go_at_call 30; exact later_same (refMask _ _))))
  refine wpQuiet_nil ?_
  rintro _ ⟨u, rfl⟩
  go_wp2
  go_ret
  exact ⟨ret_bool (by rw [and_int x n hx, Bool.eq_iff_iff]; unfold contB; simp; omega), box_below w _ _ _ u⟩

set_option maxHeartbeats 1000000 in
theorem refValid (a : Nat) (n : Int) (w : World) (ha : a < 4294967296) :
    Calls Try.prog 9 #[px a n] w fun e w' => e = .returned (.bool (validB a n)) ∧ Below w.heap.size w w' := by
  have c0 := box_0 w (.int .u32 (a : Int)) (.int .i64 n) 27
  have c1 := box_1 w (.int .u32 (a : Int)) (.int .i64 n) 27
  by_cases hn : 0 ≤ n ∧ n ≤ 32
  · have hv : Hid (validB a n = decide (a % blk (cl n) = 0)) := by show _ = _; unfold validB; simp [hn]
    obtain ⟨h0, h1⟩ := hn
    go_enter Try.func9, Try.ntmps9
    go_wp2_with (fail)
    refine wp_region_later (w.heap.size + 1) (by kernel_rfl) (by kernel_rfl) ?_
    repeat (go_big_quiet_step ((go_at_call 30; exact later_same (refMask _ _))))
    refine wpQuiet_nil ?_
    rintro _ ⟨u, rfl⟩
    go_wp2
    go_ret
    exact ⟨ret_bool (by rw [hv.out, andNot_int a n ha, Bool.eq_iff_iff]; simp; omega), box_below w _ _ _ u⟩
  · have hv : Hid (validB a n = false) := by show _ = _; unfold validB; rw [decide_eq_false hn]; rfl
    have hs : (decide (0 ≤ n) = false) ∨ (decide (0 ≤ n) = true ∧ decide (n ≤ 32) = false) := by
      by_cases h : 0 ≤ n
      · exact .inr ⟨by simpa using h, by simp; omega⟩
      · exact .inl (by simpa using h)
    clear hn
    rcases hs with h0 | ⟨h0, h1⟩
    all_goals
      go_enter Try.func9, Try.ntmps9
      go_wp2_with (fail)
      refine wp_region_later (w.heap.size + 1) (by kernel_rfl) (by kernel_rfl) ?_
      repeat (go_big_quiet_step ((go_at_call 30; exact later_same (refMask _ _))))
      refine wpQuiet_nil ?_
      rintro _ ⟨u, rfl⟩
      go_wp2
      go_ret
      exact ⟨ret_bool hv.out.symm, box_below w _ _ _ u⟩

set_option maxHeartbeats 1000000 in
theorem refNetwork (a : Nat) (n : Int) (w : World) (ha : a < 4294967296) :
    Calls Try.prog 28 #[.int .u32 (a : Int), .int .i64 n] w fun e w' => e = .returned (px (net a n) (cl n : Nat)) ∧ Below w.heap.size w w' := by
  have hI := hid (and_int a n ha)
  have hM : ∀ (m : Int) wx, cl m = cl n → Calls Try.prog 30 #[.int .i64 m] wx fun e w' => e = .returned (.int .u32 (mk (cl n) : Nat)) ∧ wx = w' := by
    intro m wx h
    have := refMask m wx
    rwa [h] at this
  by_cases h1 : 32 < n
  · have hN : Hid ((cl n : Int) = 32) := by show _ = _; unfold cl; omega
    have hM := fun wx => hM 32 wx (by unfold cl; omega)
    have h2 : ¬ n < 32 := by omega
    go_enter Try.func28, Try.ntmps28
    go_wp2_with (go_at_call 30; refine (hM _).mono ?_; rintro e w' ⟨rfl, rfl⟩)
    rw [hI.out]
    go_returns
    exact ⟨ret_px rfl hN.out.symm, al1 w _⟩
  · by_cases h2 : n < 0
    · have hN : Hid ((cl n : Int) = 0) := by show _ = _; unfold cl; omega
      have hM := fun wx => hM 0 wx (by unfold cl; omega)
      have h3 : n < 32 := by omega
      go_enter Try.func28, Try.ntmps28
      go_wp2_with (go_at_call 30; refine (hM _).mono ?_; rintro e w' ⟨rfl, rfl⟩)
      rw [hI.out]
      go_returns
      exact ⟨ret_px rfl hN.out.symm, al1 w _⟩
    · obtain ⟨k, rfl⟩ : ∃ k : Nat, n = k := ⟨n.toNat, by omega⟩
      have hk : k ≤ 32 := by omega
      have hN : Hid ((cl (k : Int) : Int) = k) := by show _ = _; unfold cl; omega
      have hM := fun wx => hM k wx rfl
      have h4 : (if (k : Int) < 32 then (k : Int) else 32) = k := by split <;> omega
      have h5 : (if (k : Int) < 0 then (0 : Int) else k) = k := by rw [if_neg (by omega)]
      go_enter Try.func28, Try.ntmps28
      go_wp2_with (go_at_call 30; refine (hM _).mono ?_; rintro e w' ⟨rfl, rfl⟩)
      rw [hI.out]
      go_returns
      exact ⟨ret_px rfl hN.out.symm, al1 w _⟩
end Go.Proofs.Ytlhbfpapmolohaa.Ad
