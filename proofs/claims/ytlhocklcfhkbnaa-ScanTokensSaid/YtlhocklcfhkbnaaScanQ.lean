/-
  THE CONTRACT OF netverifykeep.Tokens at two slices that hold the same tokens.
-/
import Derived.Test.YtlhocklcfhkbnaaScanO
import Derived.Test.YtlhocklcfhkbnaaScanE
import Derived.BigQuiet
import Derived.Deep.QuietTactic
import Derived.RegionTactic
import Derived.Laws.StructEq
import Derived.WalkSmall
namespace Go.Proofs.Ytlhocklcfhkbnaa.Sc
set_option linter.unusedSimpArgs false
set_option linter.unusedVariables false
open Go.RowKit Sp Sm

set_option maxHeartbeats 1000000 in
theorem keepTokens_one (b off b' off' cap cap' m : Nat) (x : List (Nat × ByteArray)) (w : World) (lx : Hid (x.length = m)) (hm : m ≤ 1000000)
    (hx : ∀ j u, (pairs x)[j]? = some u → w.cell? ⟨b, off + j, none⟩ = some u)
    (hy : ∀ j u, (pairs x)[j]? = some u → w.cell? ⟨b', off' + j, none⟩ = some u) :
    Calls Try.prog 21 #[.slice (some ⟨b, off, none⟩) m cap, .slice (some ⟨b', off', none⟩) m cap'] w fun e w' => e = .returned (.bool true) ∧ ∃ n, w' = w.drewN n := by
  have X := hid hx
  have Y := hid hy
  clear hx hy
  go_enter Try.func21, Try.ntmps21
  go_wp2
  go_loopw [5] (fun i wr => ∃ k n : Nat, k ≤ m ∧ i = .int .i64 k ∧ wr = w.drewN n) (fun i _ => m - (intOf i).toNat)
  case atStart => exact ⟨0, 0, by omega, rfl, rfl⟩
  case round =>
    obtain ⟨k, n, hk, rfl, rfl⟩ := hrel
    by_cases hlt : k < m
    · have hg := pairs_get x k (by have := lx.out; omega)
      obtain ⟨a, ha⟩ : ∃ a : Int, a = ((x[k]'(by have := lx.out; omega)).1 : Nat) := ⟨_, rfl⟩
      obtain ⟨t, ht⟩ : ∃ t, t = (x[k]'(by have := lx.out; omega)).2 := ⟨_, rfl⟩
      rw [← ha, ← ht] at hg
      have e1 : off + k * 2 = off + 2 * k := by omega
      have c1 : w.cell? ⟨b, off + k * 2, none⟩ = some (.int .i64 a) := by rw [Nat.mul_comm k 2]; exact X.out _ _ hg.1
      have c2 : w.cell? ⟨b, off + k * 2 + 1, none⟩ = some (.string t) := by rw [Nat.mul_comm k 2]; exact X.out _ _ hg.2
      have d1 : w.cell? ⟨b', off' + k * 2, none⟩ = some (.int .i64 a) := by rw [Nat.mul_comm k 2]; exact Y.out _ _ hg.1
      have d2 : w.cell? ⟨b', off' + k * 2 + 1, none⟩ = some (.string t) := by rw [Nat.mul_comm k 2]; exact Y.out _ _ hg.2
      clear ha ht hg e1
      go_wp2
      go_quiet (fail)
      go_wp2
      go_roundw
      case rel => exact ⟨k + 1, _, by omega, by go_num, rfl⟩
      case measure => simp [intOf]; omega
    · go_wp2
      go_ret
      exact ⟨rfl, _, rfl⟩

theorem keepTokens_nil (a a' : Option Addr) (cap cap' : Nat) (w : World) :
    Calls Try.prog 21 #[.slice a 0 cap, .slice a' 0 cap'] w fun e w' => e = .returned (.bool true) ∧ w = w' := by
  go_enter Try.func21, Try.ntmps21
  go_wp2
  refine wp_loop_rounds 1 ?_
  rw [rounds_succ]
  go_wp2
  go_ret
  exact ⟨rfl, rfl⟩

/-- Two rows of the same tokens. -/
theorem keepTokSame (w : World) (v1 v2 : Value) (x : List (Nat × ByteArray)) (hl : x.length ≤ 1000000) (h1 : Reads w 2 v1 x.length (pairs x)) (h2 : Reads w 2 v2 x.length (pairs x)) :
    Calls Try.prog 21 #[v1, v2] w fun e w' => e = .returned (.bool true) ∧ Below w.heap.size w w' := by
  obtain ⟨_, m1, c1⟩ := h1
  obtain ⟨_, m2, c2⟩ := h2
  have nil : x.length = 0 → (∃ a cap, v1 = .slice a 0 cap) → (∃ a cap, v2 = .slice a 0 cap) → Calls Try.prog 21 #[v1, v2] w fun e w' => e = .returned (.bool true) ∧ Below w.heap.size w w' := by
    rintro _ ⟨a, cap, rfl⟩ ⟨a', cap', rfl⟩
    refine (keepTokens_nil _ _ _ _ w).mono ?_
    rintro e w' ⟨rfl, rfl⟩; exact ⟨rfl, Below.refl _ _⟩
  rcases c1 with ⟨hz, a, cap, rfl⟩ | ⟨b, off, cap, rfl, hc1⟩
  · rcases c2 with ⟨_, a', cap', rfl⟩ | ⟨b', off', cap', rfl, _⟩
    · exact nil hz ⟨_, _, rfl⟩ ⟨_, _, rfl⟩
    · exact nil hz ⟨_, _, rfl⟩ ⟨_, _, by rw [hz]⟩
  · rcases c2 with ⟨hz, a', cap', rfl⟩ | ⟨b', off', cap', rfl, hc2⟩
    · exact nil hz ⟨_, _, by rw [hz]⟩ ⟨_, _, rfl⟩
    · refine (keepTokens_one b off b' off' cap cap' x.length x w (Sm.hid rfl) hl hc1 hc2).mono ?_
      rintro e w' ⟨rfl, n, rfl⟩; exact ⟨rfl, below_drewN (Below.refl _ _) n⟩
end Go.Proofs.Ytlhocklcfhkbnaa.Sc
