/-
  THE WALK OF AddrMasks.
-/
import Derived.Test.YtppdhcjmdgkadaaDoorAddrJ
namespace Go.Proofs.YtppdhcjmdgkadaaDoor.Ad
set_option linter.unusedSimpArgs false
set_option linter.unusedVariables false
open Go.RowKit Sp Sc Am As Kt

set_option maxHeartbeats 2000000 in
theorem walkAddrMasks (n : Int) (hn : (Lit.int .i64 n).wf = true) (m : Int) (hm : (Lit.int .u32 m).wf = true) (w : World) (ht : Tab w.heap.size w) :
    Calls Tryd.prog 5 #[.int .i64 n, .int .u32 m] w fun e w' => e = .returned (.bool true) ∧ Below w.heap.size w w' := by
  obtain ⟨mv, rfl, hmv⟩ := u32_nat hm
  have h1 := fun wx => maskLen mv wx hmv
  have h2 := fun wx => refMaskLen mv wx
  have h3 := fun wx => mask n wx
  have h4 := fun wx => refMask n wx
  have h5 := fun wx => maskLen (mk (cl n)) wx (mk_lt _)
  obtain ⟨e1, e2⟩ := len_mk (cl n) (cl_le n)
  rw [e1, e2] at h5
  have hc : ((cl n : Nat) : Int) = max (min n 32) 0 := by unfold cl; omega
  rw [hc] at h5
  clear e1 e2 hc hn hm
  generalize mk (cl n) = mc at *
  generalize lenV mv = lv at *
  generalize lenB mv = lb at *
  go_enter Tryd.func5, Tryd.ntmps5
  go_wp2_with (fail)
  refine (h1 _).mono ?_
  rintro e w1 ⟨rfl, rfl⟩
  go_wp2_with (fail)
  refine (h2 _).mono ?_
  rintro e w1 ⟨rfl, rfl⟩
  go_wp2_with (fail)
  refine (h3 _).mono ?_
  rintro e w1 ⟨rfl, rfl⟩
  go_wp2_with (fail)
  refine (h5 _).mono ?_
  rintro e w1 ⟨rfl, rfl⟩
  go_wp2_with (fail)
  refine (h3 _).mono ?_
  rintro e w1 ⟨rfl, rfl⟩
  go_wp2_with (fail)
  refine (h4 _).mono ?_
  rintro e w1 ⟨rfl, rfl⟩
  go_wp2_with (fail)
  refine (sane _ ht (Nat.le_refl _)).mono ?_
  rintro e w1 ⟨rfl, b1⟩
  go_wp2_with (fail)
  go_ret
  exact ⟨rfl, b1⟩
end Go.Proofs.YtppdhcjmdgkadaaDoor.Ad
