/-
  THE CONTRACTS OF addr's FUNCTIONS ON MASKS AND OF THE REFERENCE's: clampLen, isLen, Mask, MaskLen.
-/
import Derived.Test.YtppdhcjmdgkadaaDoorNum
import Derived.Test.YtppdhcjmdgkadaaDoorAddrP
import Derived.Test.YtppdhcjmdgkadaaDoorShelf
import Derived.Laws.BitsAllLaws
namespace Go.Proofs.YtppdhcjmdgkadaaDoor.Ad
set_option linter.unusedSimpArgs false
set_option linter.unusedVariables false
open Go.RowKit Sp Sc Am

theorem ret_int {k : IntKind} {a b : Int} (h : a = b) : Ending.returned (.int k a) = .returned (.int k b) := by rw [h]

set_option maxHeartbeats 1000000 in
theorem clampLen (n : Int) (w : World) :
    Calls Tryd.prog 52 #[.int .i64 n] w fun e w' => e = .returned (.int .i64 (cl n : Nat)) ∧ w = w' := by
  go_enter Tryd.func52, Tryd.ntmps52
  go_wp2
  all_goals go_ret
  all_goals exact ⟨ret_int (by unfold cl; omega), rfl⟩

set_option maxHeartbeats 1000000 in
theorem isLen (n : Int) (w : World) :
    Calls Tryd.prog 53 #[.int .i64 n] w fun e w' => e = .returned (.bool (decide (0 ≤ n ∧ n ≤ 32))) ∧ w = w' := by
  go_enter Tryd.func53, Tryd.ntmps53
  go_wp2
  all_goals go_ret
  all_goals exact ⟨ret_bool (by rw [Bool.eq_iff_iff]; simp; omega), rfl⟩

set_option maxHeartbeats 1000000 in
theorem mask (n : Int) (w : World) :
    Calls Tryd.prog 20 #[.int .i64 n] w fun e w' => e = .returned (.int .u32 (mk (cl n) : Nat)) ∧ w = w' := by
  obtain ⟨k, hk⟩ : ∃ k, k = cl n := ⟨_, rfl⟩
  have hC := fun wx => clampLen n wx
  rw [← hk] at hC ⊢
  have h32 : k ≤ 32 := by rw [hk]; exact cl_le n
  clear hk
  go_enter Tryd.func20, Tryd.ntmps20
  go_wp2_with (go_at_call 52; refine (hC _).mono ?_; rintro e w' ⟨rfl, rfl⟩)
  go_ret
  exact ⟨ret_int (mk_shift' k h32), rfl⟩

theorem mask_nat (k : Nat) (hk : k ≤ 32) (w : World) :
    Calls Tryd.prog 20 #[.int .i64 (k : Int)] w fun e w' => e = .returned (.int .u32 (mk k : Nat)) ∧ w = w' := by
  have := mask k w
  rwa [cl_nat k hk] at this

theorem or_bit (m k : Nat) (hm : m < 4294967296) (hk : k < 32) : bits .or .u32 (m : Int) (2 ^ (31 - k) % 4294967296) = ((m ||| 2 ^ (31 - k) : Nat) : Int) := by
  have h : 2 ^ (31 - k) < 4294967296 := Nat.lt_of_le_of_lt (Nat.pow_le_pow_right (by decide) (by omega : 31 - k ≤ 31)) (by decide)
  have e : ((2 : Int) ^ (31 - k) % 4294967296) = ((2 ^ (31 - k) : Nat) : Int) := by
    have e1 : ((2 : Int) ^ (31 - k)) = ((2 ^ (31 - k) : Nat) : Int) := by simp
    rw [e1]; exact Int.emod_eq_of_lt (Int.natCast_nonneg _) (Int.ofNat_lt.2 h)
  rw [e, u32_or_nat m _ hm h]

/-- The reference's mask after i rounds. -/
def upTo (n : Int) (i : Nat) : Nat := mk (min i (cl n))

set_option maxHeartbeats 1000000 in
theorem refMask (n : Int) (w : World) :
    Calls Tryd.prog 21 #[.int .i64 n] w fun e w' => e = .returned (.int .u32 (mk (cl n) : Nat)) ∧ w = w' := by
  have hst : Hid (upTo n 0 = 0) := by show _ = _; unfold upTo; rw [Nat.zero_min]; exact mk_zero
  go_enter Tryd.func21, Tryd.ntmps21
  go_wp2
  go_loop [3, 4] (fun v i => ∃ k : Nat, k ≤ 32 ∧ i = .int .i64 k ∧ v = .int .u32 (upTo n k)) (fun _ i => 32 - (intOf i).toNat)
  case atStart => exact ⟨0, by omega, rfl, by rw [hst.out]; rfl⟩
  case round =>
    obtain ⟨k, hk, rfl, rfl⟩ := hrel
    by_cases hlt : k < 32
    · by_cases hn : (k : Int) < n
      · have hS : Hid (bits .or .u32 (upTo n k) (2 ^ (31 - k) % 4294967296) = (upTo n (k + 1) : Nat)) := by
          show _ = _
          have e1 : upTo n k = mk k := by unfold upTo; rw [show min k (cl n) = k by unfold cl; omega]
          have e2 : upTo n (k + 1) = mk (k + 1) := by unfold upTo; rw [show min (k + 1) (cl n) = k + 1 by unfold cl; omega]
          rw [e1, e2, ← mk_or k hlt]
          exact or_bit (mk k) k (mk_lt k) hlt
        go_wp2
        go_round
        case rel => exact ⟨k + 1, by omega, by go_num, by rw [hS.out]⟩
        case measure => simp [intOf]; omega
      · have hS : Hid (upTo n k = upTo n (k + 1)) := by
          show _ = _; unfold upTo; rw [show min k (cl n) = min (k + 1) (cl n) by unfold cl; omega]
        go_wp2
        go_round
        case rel => exact ⟨k + 1, by omega, by go_num, by rw [hS.out]⟩
        case measure => simp [intOf]; omega
    · have hE : Hid (upTo n k = mk (cl n)) := by
        show _ = _; unfold upTo; rw [Nat.min_eq_right (by have := cl_le n; omega)]
      go_wp2
      go_ret
      exact ⟨ret_int (by rw [hE.out]), rfl⟩

theorem ret_ib {a a' : Int} {b b' : Bool} (h : a = a') (g : b = b') : Ending.returned (.tuple #[.int .i64 a, .bool b]) = .returned (.tuple #[.int .i64 a', .bool b']) := by rw [h, g]

theorem leading (m : Nat) (w : World) (hm : m < 4294967296) :
    Calls Tryd.prog 51 #[.int .u32 (bits .xor .u32 IntKind.u32.max (m : Int))] w fun e w' => e = .returned (.int .i64 (ones m : Nat)) ∧ w = w' := by
  rw [not_u32 m hm]
  refine (Tryd.bits_LeadingZeros32 ((4294967295 - m : Nat) : Int) w (by omega) (by omega)).mono ?_
  rintro e w' ⟨rfl, rfl⟩
  refine ⟨ret_int ?_, rfl⟩
  rw [Int.toNat_natCast]
  exact ones_int m

set_option maxHeartbeats 1000000 in
theorem maskLen (m : Nat) (w : World) (hm : m < 4294967296) :
    Calls Tryd.prog 18 #[.int .u32 (m : Int)] w fun e w' => e = .returned (.tuple #[.int .i64 (lenV m : Nat), .bool (lenB m)]) ∧ w = w' := by
  have hL := fun wx => leading m wx hm
  have hM := fun wx => mask_nat (ones m) (ones_le m) wx
  by_cases h : mk (ones m) = m
  · have hy := hid (len_yes m h)
    rw [h] at hM
    generalize ones m = k at hL hM hy
    clear h
    go_enter Tryd.func18, Tryd.ntmps18
    go_wp2_with (first | (go_at_call 51; refine (hL _).mono ?_; rintro e w' ⟨rfl, rfl⟩) | (go_at_call 20; refine (hM _).mono ?_; rintro e w' ⟨rfl, rfl⟩))
    go_ret2
    exact ⟨ret_ib (by rw [hy.out.1]) hy.out.2.symm, rfl⟩
  · have hn := hid (len_no m h)
    have hb : (((mk (ones m) : Nat) : Int) == (m : Int)) = false := by simp; omega
    have hb2 : (((mk (ones m) : Nat) : Int) != (m : Int)) = true := by simp; omega
    generalize ones m = k at hL hM hb hb2
    clear h
    go_enter Tryd.func18, Tryd.ntmps18
    go_wp2_with (first | (go_at_call 51; refine (hL _).mono ?_; rintro e w' ⟨rfl, rfl⟩) | (go_at_call 20; refine (hM _).mono ?_; rintro e w' ⟨rfl, rfl⟩))
    go_ret2
    exact ⟨ret_ib (by rw [hn.out.1]; rfl) hn.out.2.symm, rfl⟩

theorem refMask_nat (k : Nat) (hk : k ≤ 32) (w : World) :
    Calls Tryd.prog 21 #[.int .i64 (k : Int)] w fun e w' => e = .returned (.int .u32 (mk k : Nat)) ∧ w = w' := by
  have := refMask k w
  rwa [cl_nat k hk] at this

set_option maxHeartbeats 1000000 in
theorem refMaskLen (m : Nat) (w : World) :
    Calls Tryd.prog 19 #[.int .u32 (m : Int)] w fun e w' => e = .returned (.tuple #[.int .i64 (lenV m : Nat), .bool (lenB m)]) ∧ w = w' := by
  go_enter Tryd.func19, Tryd.ntmps19
  go_wp2
  go_loop [4] (fun i => ∃ k : Nat, k ≤ 33 ∧ i = .int .i64 k ∧ Hid (noneTo m k)) (fun i => 33 - (intOf i).toNat)
  case atStart => exact ⟨0, by omega, rfl, fun k hk => by omega⟩
  case round =>
    obtain ⟨k, hk, rfl, hN⟩ := hrel
    by_cases hlt : k ≤ 32
    · have hM := fun wx => refMask_nat k hlt wx
      by_cases h : mk k = m
      · have hy := hid (len_mk k hlt)
        rw [h] at hM hy
        clear h
        go_wp2_with (go_at_call 21; refine (hM _).mono ?_; rintro e w' ⟨rfl, rfl⟩)
        go_ret2
        exact ⟨ret_ib (by rw [hy.out.1]) hy.out.2.symm, rfl⟩
      · have hnx : Hid (noneTo m (k + 1)) := fun j hj => by
          by_cases e : j = k
          · rw [e]; exact h
          · exact hN.out j (by omega)
        have hb : (((mk k : Nat) : Int) == (m : Int)) = false := by simp; omega
        clear h
        go_wp2_with (go_at_call 21; refine (hM _).mono ?_; rintro e w' ⟨rfl, rfl⟩)
        go_round
        case rel => exact ⟨k + 1, by omega, by go_num, hnx⟩
        case measure => simp [intOf]; omega
    · have hn : Hid (lenV m = 0 ∧ lenB m = false) := none_all m (by rw [← show k = 33 by omega]; exact hN.out)
      go_wp2
      go_ret2
      exact ⟨ret_ib (by rw [hn.out.1]; rfl) hn.out.2.symm, rfl⟩
end Go.Proofs.YtppdhcjmdgkadaaDoor.Ad
