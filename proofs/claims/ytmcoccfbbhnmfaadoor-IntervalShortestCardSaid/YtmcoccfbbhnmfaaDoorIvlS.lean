/-
  THE CONTRACT OF math/bits.TrailingZeros32, over its table.
-/
import Derived.Test.YtmcoccfbbhnmfaaDoorIvlQ
import Derived.Test.YtmcoccfbbhnmfaaDoorPfxK
import Derived.Test.YtmcoccfbbhnmfaaDoorShelf
import Derived.Lib.AppendIntMem
import Derived.Lib.LaidTab
import Derived.IntWalk
namespace Go.Proofs.YtmcoccfbbhnmfaaDoor.Ip
set_option linter.unusedSimpArgs false
set_option linter.unusedVariables false

def deTab : List Int := [0, 1, 28, 2, 29, 14, 24, 3, 30, 22, 20, 15, 25, 17, 4, 8, 31, 27, 13, 23, 21, 19, 16, 7, 26, 12, 18, 6, 11, 5, 10, 9]
theorem deTab_at : ∀ t : Fin 32, deTab[(2 ^ t.val * 125613361 % 4294967296) / 134217728]? = some (t.val : Int) := by decide +kernel
/-- x & -x. -/
theorem low_bit (x : Nat) (h0 : x ≠ 0) (h : x < 4294967296) : x &&& (4294967296 - x) = 2 ^ tz x := by
  obtain ⟨m, hm⟩ := (tz_dvd x h0).1
  have hodd : m % 2 = 1 := by
    rcases Nat.mod_two_eq_zero_or_one m with e | e
    · exfalso
      apply (tz_dvd x h0).2
      obtain ⟨q, hq⟩ := Nat.dvd_of_mod_eq_zero e
      exact ⟨q, by rw [Nat.pow_succ, Nat.mul_assoc, ← hq]; exact hm⟩
    · exact e
  have ht := tz_lt h0 h
  generalize tz x = t at *
  obtain ⟨q, rfl⟩ : ∃ q, m = 2 * q + 1 := ⟨m / 2, by omega⟩
  have hp : (2 : Nat) ^ t * 2 ^ (32 - t) = 4294967296 := by rw [← Nat.pow_add, show t + (32 - t) = 32 by omega]
  have hlt : 2 * q + 1 < 2 ^ (32 - t) := Nat.lt_of_mul_lt_mul_left (a := 2 ^ t) (by rw [hp, ← hm]; exact h)
  have e1 : x = (2 * q + 1) <<< t := by rw [Nat.shiftLeft_eq, hm, Nat.mul_comm]
  have e2 : 4294967296 - x = (2 ^ (32 - t) - (2 * q + 1)) <<< t := by
    rw [Nat.shiftLeft_eq, Nat.sub_mul, Nat.mul_comm (2 ^ (32 - t)), hp, Nat.mul_comm (2 * q + 1), ← hm]
  have e3 : (2 * q + 1) &&& (2 ^ (32 - t) - (2 * q + 1)) = 1 := by
    apply Nat.eq_of_testBit_eq
    intro i
    rw [Nat.testBit_and, Nat.testBit_two_pow_sub_succ (by omega)]
    cases i with
    | zero =>
      have : 0 < 32 - t := by omega
      simp [Nat.testBit_zero, this]
    | succ i =>
      rw [Nat.testBit_succ, Nat.testBit_succ, Nat.testBit_succ, show (2 * q + 1) / 2 = q by omega, show 2 * q / 2 = q by omega]
      cases q.testBit i <;> simp
  rw [e2]
  conv => lhs; lhs; rw [e1]
  rw [← Nat.shiftLeft_and_distrib, e3, Nat.shiftLeft_eq, Nat.one_mul]
theorem low_int (x : Nat) (h0 : x ≠ 0) (h : x < 4294967296) : bits .and .u32 (x : Int) ((4294967296 - x : Nat) : Int) = ((2 ^ tz x : Nat) : Int) := by
  rw [u32_and_nat x _ h (by omega), low_bit x h0 h]
end Go.Proofs.YtmcoccfbbhnmfaaDoor.Ip
namespace Go.Proofs.YtmcoccfbbhnmfaaDoor.Iw
set_option linter.unusedSimpArgs false
set_option linter.unusedVariables false
open Go.RowKit Ip Kt

/-- The library's table, as this world and all that follow it hold it. -/
abbrev Tab (B : Nat) (w : World) : Prop := Lib.TabBelow Tryd.prog B w "math/bits.deBruijn32tab" .u8 deTab
theorem tab_cell {w : World} {B : Nat} (h : Tab B w) (i : Nat) (t : Nat) (hi : deTab[i]? = some (t : Int)) : w.cell? ⟨0, i, none⟩ = some (.int .u8 (t : Int)) := by
  have hl : i < deTab.length := (List.getElem?_eq_some_iff.1 hi).1
  have := h.here.cell (g := 0) (by kernel_rfl) i hl
  rw [this]
  congr 2
  rw [List.getD_eq_getElem?_getD, hi]; rfl

set_option maxHeartbeats 1000000 in
theorem trailing (x : Nat) (w : World) {B : Nat} (hx : x < 4294967296) (hT : Tab B w) :
    Calls Tryd.prog 57 #[.int .u32 (x : Int)] w fun e w' => e = .returned (.int .i64 (tz x : Nat)) ∧ w = w' := by
  by_cases h0 : x = 0
  · subst h0
    go_enter Tryd.func57, Tryd.ntmps57
    go_wp2_with fail
    go_ret
    exact ⟨by simp [tz], rfl⟩
  · have q1 : ((x : Int) == 0) = false := by simp; omega
    have ht := tz_lt h0 hx
    have hcell : w.cell? ⟨0, (bits .and .u32 (x : Int) (-(x : Int) % 4294967296) * 125613361 % 4294967296 / 134217728).toNat, none⟩ = some (.int .u8 (tz x : Int)) := by
      rw [show -(x : Int) % 4294967296 = ((4294967296 - x : Nat) : Int) by omega, low_int x h0 hx]
      have e : (((2 ^ tz x : Nat) : Int) * 125613361 % 4294967296 / 134217728).toNat = 2 ^ tz x * 125613361 % 4294967296 / 134217728 := by generalize 2 ^ tz x = y; rw [show ((y : Int) * 125613361 % 4294967296 / 134217728) = ((y * 125613361 % 4294967296 / 134217728 : Nat) : Int) by simp, Int.toNat_natCast]
      rw [e]
      exact tab_cell hT _ _ (deTab_at ⟨tz x, ht⟩)
    clear h0 hT
    go_enter Tryd.func57, Tryd.ntmps57
    go_wp2_with fail
    go_ret
    exact ⟨rfl, rfl⟩

/-- Between two worlds the table stays. -/
theorem Tab.on {B : Nat} {w w1 : World} (h : Tab B w) (hb : Below B w w1) : Tab B w1 := Lib.TabBelow.on h hb
end Go.Proofs.YtmcoccfbbhnmfaaDoor.Iw
