/-
  THE WALK OF AddrNetworks.
-/
import Derived.Test.YtppdhcjmdgkadaaDoorAddrJ
namespace Go.Proofs.YtppdhcjmdgkadaaDoor.Am
set_option linter.unusedSimpArgs false
set_option linter.unusedVariables false
theorem net_valid (a : Nat) (n : Int) : validB (net a n) ((cl n : Nat) : Int) = true := by
  unfold validB
  rw [cl_nat (cl n) (cl_le n)]
  have h1 := cl_le n
  have h2 : net a n % blk (cl n) = 0 := by unfold net; exact Nat.mul_mod_left _ _
  rw [h2, decide_eq_true (by omega : (0 : Int) ≤ (cl n : Nat) ∧ ((cl n : Nat) : Int) ≤ 32)]
  rfl
theorem net_cont (a : Nat) (n : Int) : contB (net a n) ((cl n : Nat) : Int) a = true := by
  unfold contB net
  rw [cl_nat (cl n) (cl_le n)]
  simp
end Go.Proofs.YtppdhcjmdgkadaaDoor.Am
namespace Go.Proofs.YtppdhcjmdgkadaaDoor.Ad
set_option linter.unusedSimpArgs false
set_option linter.unusedVariables false
open Go.RowKit Sp Sc Am As Kt

set_option maxHeartbeats 2000000 in
theorem walkAddrNetworks (pa : Int) (hpa : (Lit.int .u32 pa).wf = true) (pn : Int) (hpn : (Lit.int .i64 pn).wf = true) (m : Int) (hm : (Lit.int .u32 m).wf = true) (n : Int) (hn : (Lit.int .i64 n).wf = true) (w : World) (ht : Tab w.heap.size w) :
    Calls Tryd.prog 6 #[.agg #[.int .u32 pa, .int .i64 pn], .int .u32 m, .int .i64 n] w fun e w' => e = .returned (.bool true) ∧ Below w.heap.size w w' := by
  obtain ⟨a, rfl, ha⟩ := u32_nat hpa
  obtain ⟨x, rfl, hx⟩ := u32_nat hm
  have h1 := fun wx => network x n wx hx
  have h2 := fun wx => valid a pn wx ha
  have h3 := fun wx => refValid a pn wx ha
  have h4 := fun wx => refNetwork x n wx hx
  have h5 := fun wx => valid (net x n) ((cl n : Nat) : Int) wx (net_lt n hx)
  have h6 := fun wx => contains (net x n) ((cl n : Nat) : Int) x wx hx
  rw [net_valid] at h5
  rw [net_cont] at h6
  generalize net x n = y at *
  generalize cl n = c at *
  generalize validB a pn = v at *
  clear hpn hn hpa hm ha
  go_enter Tryd.func6, Tryd.ntmps6
  go_wp2_with (fail)
  refine (h1 _).mono ?_
  rintro e w1 ⟨rfl, b1⟩
  have k1 := blk_keep (heap_new w (.cells #[.int .u32 (a : Int), .int .i64 pn] 34 (0, 0))) b1
  have B1 := then_ (al1 w _) b1
  have j1 := blk_keep k1 (al1 w1 (.cells #[.int .u32 (y : Int), .int .i64 (c : Int)] 34))
  have j2 := heap_new w1 (.cells #[.int .u32 (y : Int), .int .i64 (c : Int)] 34 (0, 0))
  have B2 := then_ B1 (al1 w1 (.cells #[.int .u32 (y : Int), .int .i64 (c : Int)] 34))
  clear k1 b1 B1
  go_wp2_with (fail)
  generalize w1.alloc (.cells #[.int .u32 (y : Int), .int .i64 (c : Int)] 34) = w0 at j1 j2 B2 ⊢
  have c0 := lat_0 j1
  have c1 := lat_1 j1
  have c2 := lat_0 j2
  have c3 := lat_1 j2
  refine wp_region_later w0.heap.size (by kernel_rfl) (by kernel_rfl) ?_
  repeat (go_big_quiet_step (first | (go_at_call_of 23 (Value.int IntKind.u32 (a : Int)); exact later_of (Nat.le_refl _) (h2 _)) | (go_at_call 24; exact later_of (Nat.le_refl _) (h3 _)) | (go_at_call 25; exact later_of (Nat.le_refl _) (h4 _)) | (go_at_call_of 23 (Value.int IntKind.u32 (y : Int)); exact later_of (Nat.le_refl _) (h5 _)) | (go_at_call 26; exact later_of (Nat.le_refl _) (h6 _)) | (go_at_call 15; exact later_of (Nat.le_refl _) (sane _ (ht.on (B2.trans (Below.mono (Later.h _) B2.size))) (Nat.le_trans B2.size (Below.size (Later.h _)))))))
  refine wpQuiet_nil ?_
  rintro _ ⟨u, rfl⟩
  go_wp2
  go_ret
  exact ⟨rfl, then_ B2 u.h⟩
end Go.Proofs.YtppdhcjmdgkadaaDoor.Ad
