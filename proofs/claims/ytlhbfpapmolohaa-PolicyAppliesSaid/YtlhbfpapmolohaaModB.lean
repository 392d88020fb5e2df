/-
  THE CONTRACTS OF addr's FUNCTIONS THAT THE MODEL CALLS (clampLen, isLen, Mask, Network, Valid, Contains, Covers, Overlaps), AND THE REFERENCE's Covers, Overlaps. (Parts of wip/trie, wip/addr: never beside those.)
-/
import Derived.Test.YtlhbfpapmolohaaModC
import Derived.WalkSpells
import Derived.IntWalk
import Derived.Deep.RegionHeld3
namespace Go.Proofs.Ytlhbfpapmolohaa.Ad
set_option linter.unusedSimpArgs false
set_option linter.unusedVariables false
open Go.RowKit Am Kt

set_option maxHeartbeats 1000000 in
theorem clampLen (n : Int) (w : World) :
    Calls Try.prog 73 #[.int .i64 n] w fun e w' => e = .returned (.int .i64 (cl n : Nat)) ∧ w = w' := by
  go_enter Try.func73, Try.ntmps73
  go_wp2
  all_goals go_ret
  all_goals exact ⟨ret_int (by unfold cl; omega), rfl⟩

set_option maxHeartbeats 1000000 in
theorem mask (n : Int) (w : World) :
    Calls Try.prog 61 #[.int .i64 n] w fun e w' => e = .returned (.int .u32 (mk (cl n) : Nat)) ∧ w = w' := by
  obtain ⟨k, hk⟩ : ∃ k, k = cl n := ⟨_, rfl⟩
  have hC := fun wx => clampLen n wx
  rw [← hk] at hC ⊢
  have h32 : k ≤ 32 := by rw [hk]; exact cl_le n
  clear hk
  go_enter Try.func61, Try.ntmps61
  go_wp2_with (go_at_call 73; refine (hC _).mono ?_; rintro e w' ⟨rfl, rfl⟩)
  go_ret
  exact ⟨ret_int (mk_shift' k h32), rfl⟩

set_option maxHeartbeats 1000000 in
theorem refCovers (a : Nat) (n : Int) (b : Nat) (m : Int) (w : World) (hb : b < 4294967296) :
    Calls Try.prog 32 #[px a n, px b m] w fun e w' => e = .returned (.bool (covB a n b m)) ∧ Below w.heap.size w w' := by
  have hC := fun wx => refContains a n b wx hb
  by_cases hnm : n ≤ m
  · have hv : Hid (covB a n b m = contB a n b) := by show _ = _; unfold covB; simp [hnm]
    go_enter Try.func32, Try.ntmps32
    go_wp2_with (go_at_call 43; refine (hC _).mono ?_; rintro e w1 ⟨rfl, b1⟩)
    go_ret
    exact ⟨ret_bool hv.out.symm, then_ (al2 w _ _) b1⟩
  · have hv : Hid (covB a n b m = false) := by show _ = _; unfold covB; simp [hnm]
    go_enter Try.func32, Try.ntmps32
    go_wp2_with (fail)
    go_ret
    exact ⟨ret_bool hv.out.symm, al2 w _ _⟩

set_option maxHeartbeats 1000000 in
theorem contains (a : Nat) (n : Int) (x : Nat) (w : World) (hx : x < 4294967296) :
    Calls Try.prog 42 #[px a n, .int .u32 (x : Int)] w fun e w' => e = .returned (.bool (contB a n x)) ∧ Below w.heap.size w w' := by
  have c0 := box_0 w (.int .u32 (a : Int)) (.int .i64 n) 27
  have c1 := box_1 w (.int .u32 (a : Int)) (.int .i64 n) 27
  go_enter Try.func42, Try.ntmps42
  go_wp2
  refine wp_region_later (w.heap.size + 1) (by kernel_rfl) (by kernel_rfl) ?_
  repeat (go_big_quiet_step ((go_at_call 61; exact later_same (mask _ _))))
  refine wpQuiet_nil ?_
  rintro _ ⟨u, rfl⟩
  go_wp2
  go_ret
  exact ⟨ret_bool (by rw [and_int x n hx, Bool.eq_iff_iff]; unfold contB; simp; omega), box_below w _ _ _ u⟩

set_option maxHeartbeats 1000000 in
theorem covers (a : Nat) (n : Int) (b : Nat) (m : Int) (w : World) (hb : b < 4294967296) :
    Calls Try.prog 31 #[px a n, px b m] w fun e w' => e = .returned (.bool (covB a n b m)) ∧ Below w.heap.size w w' := by
  have hC := fun wx => contains a n b wx hb
  by_cases hnm : n ≤ m
  · have hv : Hid (covB a n b m = contB a n b) := by show _ = _; unfold covB; simp [hnm]
    go_enter Try.func31, Try.ntmps31
    go_wp2_with (go_at_call 42; refine (hC _).mono ?_; rintro e w1 ⟨rfl, b1⟩)
    go_ret
    exact ⟨ret_bool hv.out.symm, then_ (al2 w _ _) b1⟩
  · have hv : Hid (covB a n b m = false) := by show _ = _; unfold covB; simp [hnm]
    go_enter Try.func31, Try.ntmps31
    go_wp2_with (fail)
    go_ret
    exact ⟨ret_bool hv.out.symm, al2 w _ _⟩

set_option maxHeartbeats 1000000 in
theorem refOverlaps (a : Nat) (n : Int) (b : Nat) (m : Int) (w : World) (ha : a < 4294967296) (hb : b < 4294967296) :
    Calls Try.prog 63 #[px a n, px b m] w fun e w' => e = .returned (.bool (ovlB a n b m)) ∧ Below w.heap.size w w' := by
  have hC := fun wx => refCovers a n b m wx hb
  have hD := fun wx => refCovers b m a n wx ha
  cases h1 : covB a n b m with
  | true =>
    have hv : Hid (ovlB a n b m = true) := by show _ = _; unfold ovlB; rw [h1]; rfl
    rw [h1] at hC
    clear h1
    go_enter Try.func63, Try.ntmps63
    go_wp2_with (go_at_call 32; refine (hC _).mono ?_; rintro e w1 ⟨rfl, b1⟩)
    go_ret
    exact ⟨ret_bool hv.out.symm, then_ (al2 w _ _) b1⟩
  | false =>
    have hv : Hid (ovlB a n b m = covB b m a n) := by show _ = _; unfold ovlB; rw [h1]; rfl
    rw [h1] at hC
    clear h1
    go_enter Try.func63, Try.ntmps63
    go_wp2_with (fail)
    refine (hC _).mono ?_
    rintro e w1 ⟨rfl, b1⟩
    have F := two_cells w _ _ _ _ _ _ b1
    obtain ⟨⟨d0, d1⟩, d2, d3⟩ := F
    have B1 := then_ (al2 w _ _) b1
    clear b1
    go_wp2_with (fail)
    refine (hD _).mono ?_
    rintro e w2 ⟨rfl, b2⟩
    go_wp2
    go_ret
    exact ⟨ret_bool hv.out.symm, then_ B1 b2⟩
end Go.Proofs.Ytlhbfpapmolohaa.Ad
