/-
  THE CONTRACT OF sane: the fixed examples give the documented results.
-/
import Derived.Test.YtppdhcjmdgkadaaDoorAddrG
import Derived.Deep.RegionHeld3
namespace Go.Proofs.YtppdhcjmdgkadaaDoor.Ad
set_option linter.unusedSimpArgs false
set_option linter.unusedVariables false
open Go.RowKit Sp Sc Am As Kt

theorem u32_nat {m : Int} (h : (Lit.int .u32 m).wf = true) : ∃ k : Nat, m = k ∧ k < 4294967296 := by
  have h' : 0 ≤ m ∧ m ≤ 4294967295 := by
    simp [Lit.wf, IntKind.min, IntKind.max, IntKind.signed, IntKind.bits] at h
    omega
  exact ⟨m.toNat, by omega, by omega⟩

theorem ex_parse : addrV (ByteArray.mk #[49, 48, 46, 48, 46, 48, 46, 49]).data.toList = 167772161 ∧ addrB (ByteArray.mk #[49, 48, 46, 48, 46, 48, 46, 49]).data.toList = true := by decide +kernel
theorem ex_prefix : preA (ByteArray.mk #[49, 48, 46, 48, 46, 48, 46, 48, 47, 56]).data.toList = 167772160 ∧ preN (ByteArray.mk #[49, 48, 46, 48, 46, 48, 46, 48, 47, 56]).data.toList = 8 ∧ preB (ByteArray.mk #[49, 48, 46, 48, 46, 48, 46, 48, 47, 56]).data.toList = true := by decide +kernel
theorem ex_format : (ByteArray.mk (dotL 167772161).toArray) = ⟨#[49, 48, 46, 48, 46, 48, 46, 49]⟩ := by decide +kernel
theorem ex_cont : contB 167772160 8 167772161 = true := by decide +kernel
theorem ex_last : lastV 167772160 8 = 184549375 := by decide +kernel
theorem ex_mask : mk 8 = 4278190080 := by decide +kernel

theorem exParse (w : World) : Calls Tryd.prog 13 #[.string ⟨#[49, 48, 46, 48, 46, 48, 46, 49]⟩] w fun e w' => e = .returned (.tuple #[.int .u32 167772161, .bool true]) ∧ Below w.heap.size w w' := by
  refine (parse _ w (by decide)).mono ?_
  rintro e w' ⟨rfl, b⟩
  rw [ex_parse.1, ex_parse.2]; exact ⟨rfl, b⟩
theorem exPrefix (w : World) : Calls Tryd.prog 29 #[.string ⟨#[49, 48, 46, 48, 46, 48, 46, 48, 47, 56]⟩] w fun e w' => e = .returned (.tuple #[.agg #[.int .u32 167772160, .int .i64 8], .bool true]) ∧ Below w.heap.size w w' := by
  refine (parsePrefix _ w (by decide)).mono ?_
  rintro e w' ⟨rfl, b⟩
  rw [ex_prefix.1, ex_prefix.2.1, ex_prefix.2.2]; exact ⟨rfl, b⟩
theorem exFormat (w : World) {B : Nat} (ht : Tab B w) (hB : B ≤ w.heap.size) : Calls Tryd.prog 16 #[.int .u32 167772161] w fun e w' => e = .returned (.string ⟨#[49, 48, 46, 48, 46, 48, 46, 49]⟩) ∧ Below w.heap.size w w' := by
  refine (format 167772161 w (by decide) (tab_up ht hB)).mono ?_
  rintro e w' ⟨rfl, b⟩
  rw [ex_format]; exact ⟨rfl, b⟩
theorem exContains (w : World) : Calls Tryd.prog 26 #[.agg #[.int .u32 167772160, .int .i64 8], .int .u32 167772161] w fun e w' => e = .returned (.bool true) ∧ Below w.heap.size w w' := by
  refine (contains 167772160 8 167772161 w (by decide)).mono ?_
  rintro e w' ⟨rfl, b⟩
  rw [ex_cont]; exact ⟨rfl, b⟩
theorem exLast (w : World) : Calls Tryd.prog 39 #[.agg #[.int .u32 167772160, .int .i64 8]] w fun e w' => e = .returned (.int .u32 184549375) ∧ Below w.heap.size w w' := by
  refine (last 167772160 8 w (by decide)).mono ?_
  rintro e w' ⟨rfl, b⟩
  rw [ex_last]; exact ⟨rfl, b⟩
theorem exMask (w : World) : Calls Tryd.prog 20 #[.int .i64 8] w fun e w' => e = .returned (.int .u32 4278190080) ∧ w = w' := by
  refine (mask_nat 8 (by decide) w).mono ?_
  rintro e w' ⟨rfl, b⟩
  rw [ex_mask]; exact ⟨rfl, b⟩

set_option maxHeartbeats 2000000 in
theorem sane (w : World) {B : Nat} (ht : Tab B w) (hB : B ≤ w.heap.size) : Calls Tryd.prog 15 #[] w fun e w' => e = .returned (.bool true) ∧ Below w.heap.size w w' := by
  go_enter Tryd.func15, Tryd.ntmps15
  go_wp2_with (fail)
  refine (exParse _).mono ?_
  rintro e w1 ⟨rfl, b1⟩
  go_wp2_with (fail)
  refine (exPrefix _).mono ?_
  rintro e w2 ⟨rfl, b2⟩
  have B2 := then_ b1 b2
  have B3 := then_ B2 (al1 w2 (.cells #[.int .u32 167772160, .int .i64 8] 34))
  have k3 := heap_new w2 (.cells #[.int .u32 167772160, .int .i64 8] 34 (0, 0))
  clear b1 b2
  go_wp2_with (fail)
  refine (exFormat _ (ht.on (B3.mono hB)) (Nat.le_trans hB B3.size)).mono ?_
  rintro e w4 ⟨rfl, b4⟩
  have B4 := then_ B3 b4
  have k4 := blk_keep k3 b4
  obtain ⟨⟨c0, c1⟩, _⟩ := blk_two k4
  clear B3 k3 b4
  go_wp2_with (fail)
  refine (exContains _).mono ?_
  rintro e w5 ⟨rfl, b5⟩
  have B5 := then_ B4 b5
  have k5 := blk_keep k4 b5
  obtain ⟨⟨d0, d1⟩, _⟩ := blk_two k5
  clear B4 k4 b5 c0 c1
  go_wp2_with (fail)
  refine (exLast _).mono ?_
  rintro e w6 ⟨rfl, b6⟩
  have B6 := then_ B5 b6
  clear B5 k5 b6 d0 d1
  go_wp2_with (fail)
  refine (exMask _).mono ?_
  rintro e w7 ⟨rfl, rfl⟩
  go_wp2_with (fail)
  go_ret
  exact ⟨rfl, B6⟩
end Go.Proofs.YtppdhcjmdgkadaaDoor.Ad
