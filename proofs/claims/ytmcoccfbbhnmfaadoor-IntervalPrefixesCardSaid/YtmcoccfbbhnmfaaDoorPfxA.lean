/-
  THE CONTRACTS OF addr.clampLen, Mask, Network, Last.
-/
import Derived.Test.YtmcoccfbbhnmfaaDoorPfxK
import Derived.Test.YtmcoccfbbhnmfaaDoorShelf
namespace Go.Proofs.YtmcoccfbbhnmfaaDoor.Ad
set_option linter.unusedSimpArgs false
set_option linter.unusedVariables false
open Go.RowKit Am Kt

set_option maxHeartbeats 1000000 in
theorem clampLen (n : Int) (w : World) :
    Calls Tryd.prog 72 #[.int .i64 n] w fun e w' => e = .returned (.int .i64 (cl n : Nat)) ∧ w = w' := by
  go_enter Tryd.func72, Tryd.ntmps72
  go_wp2
  all_goals go_ret
  all_goals exact ⟨ret_int (by unfold cl; omega), rfl⟩

set_option maxHeartbeats 1000000 in
theorem mask (n : Int) (w : World) :
    Calls Tryd.prog 60 #[.int .i64 n] w fun e w' => e = .returned (.int .u32 (mk (cl n) : Nat)) ∧ w = w' := by
  obtain ⟨k, hk⟩ : ∃ k, k = cl n := ⟨_, rfl⟩
  have hC := fun wx => clampLen n wx
  rw [← hk] at hC ⊢
  have h32 : k ≤ 32 := by rw [hk]; exact cl_le n
  clear hk
  go_enter Tryd.func60, Tryd.ntmps60
  go_wp2_with (go_at_call 72; refine (hC _).mono ?_; rintro e w' ⟨rfl, rfl⟩)
  go_ret
  exact ⟨ret_int (mk_shift' k h32), rfl⟩

theorem mask_nat (k : Nat) (hk : k ≤ 32) (w : World) :
    Calls Tryd.prog 60 #[.int .i64 (k : Int)] w fun e w' => e = .returned (.int .u32 (mk k : Nat)) ∧ w = w' := by
  have := mask k w
  rwa [cl_nat k hk] at this

set_option maxHeartbeats 1000000 in
theorem network (a : Nat) (n : Int) (w : World) (ha : a < 4294967296) :
    Calls Tryd.prog 59 #[.int .u32 (a : Int), .int .i64 n] w fun e w' => e = .returned (px (net a n) (cl n : Nat)) ∧ Below w.heap.size w w' := by
  have hI := hid (and_int a n ha)
  go_enter Tryd.func59, Tryd.ntmps59
  go_wp2_with (first | (go_at_call 60; refine (mask _ _).mono ?_; rintro e w' ⟨rfl, rfl⟩) | (go_at_call 72; refine (clampLen _ _).mono ?_; rintro e w' ⟨rfl, rfl⟩))
  rw [hI.out]
  go_returns
  exact ⟨rfl, al1 w _⟩

set_option maxHeartbeats 1000000 in
theorem last (a : Nat) (n : Int) (w : World) (ha : a < 4294967296) :
    Calls Tryd.prog 49 #[px a n] w fun e w' => e = .returned (.int .u32 (lastV a n : Nat)) ∧ Below w.heap.size w w' := by
  have c0 := box_0 w (.int .u32 (a : Int)) (.int .i64 n) 37
  have c1 := box_1 w (.int .u32 (a : Int)) (.int .i64 n) 37
  have hu : IntKind.u32.signed = false := rfl
  go_enter Tryd.func49, Tryd.ntmps49
  go_wp2_with (fail)
  refine wp_region_later (w.heap.size + 1) (by kernel_rfl) (by kernel_rfl) ?_
  repeat (go_big_quiet_step ((go_at_call 60; exact later_same (mask _ _))))
  refine wpQuiet_nil ?_
  rintro _ ⟨u, rfl⟩
  go_wp2
  go_ret
  exact ⟨ret_int (or_int a n ha), box_below w _ _ _ u⟩

end Go.Proofs.YtmcoccfbbhnmfaaDoor.Ad
