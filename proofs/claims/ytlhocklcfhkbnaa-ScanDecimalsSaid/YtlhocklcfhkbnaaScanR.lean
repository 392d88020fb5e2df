/-
  THE CONTRACT OF THE REFERENCE's Decimal, by induction; AND THE WALK OF ScanDecimals.
-/
import Derived.Test.YtlhocklcfhkbnaaScanJ
import Derived.Test.YtlhocklcfhkbnaaScanPd
import Derived.IntWalk
namespace Go.Proofs.Ytlhocklcfhkbnaa.Sc
set_option linter.unusedSimpArgs false
set_option linter.unusedVariables false
open Go.RowKit Sp

theorem ret_str {a b : ByteArray} (h : a = b) : Ending.returned (.string a) = .returned (.string b) := by rw [h]

set_option maxHeartbeats 1000000 in
theorem decimal_last (n : Nat) (w : World) (h : n ≤ 9) : Calls Try.prog 25 #[.int .i64 (n : Int)] w fun e w' => e = .returned (.string (dgt (n % 10))) ∧ w = w' := by
  go_enter Try.func25, Try.ntmps25
  go_wp2
  go_ret
  exact ⟨rfl, rfl⟩

set_option maxHeartbeats 1000000 in
theorem decimal : ∀ (f n : Nat) (w : World), f ≤ 100 → n < 10 ^ (f + 1) → n ≤ 9999999999 → Calls Try.prog 25 #[.int .i64 (n : Int)] w fun e w' => e = .returned (.string (decF f n)) ∧ w = w'
  | 0, n, w, _, h, _ => decimal_last n w (by simp at h; omega)
  | f + 1, n, w, hf, h, h2 => by
    by_cases h9 : 9 < n
    · have ih := fun wx => decimal f (n / 10) wx (by omega) (by rw [Nat.pow_succ] at h; omega) (by omega)
      have e : ((n / 10 : Nat) : Int) = (n : Int) / 10 := by omega
      rw [e] at ih
      have E : decF (f + 1) n = decF f (n / 10) ++ dgt (n % 10) := by rw [decF, if_pos h9]
      rw [E]
      have S1 := dec_size f (n / 10)
      obtain ⟨d, hd⟩ : ∃ d, d = decF f (n / 10) := ⟨_, rfl⟩
      rw [← hd] at ih S1 ⊢
      have S2 : d.size ≤ 101 := by omega
      clear hd E h e
      go_enter Try.func25, Try.ntmps25
      go_wp2_with fail
      refine (ih _).mono ?_
      rintro e w' ⟨rfl, rfl⟩
      go_wp2
      go_ret
      exact ⟨rfl, rfl⟩
    · have E : decF (f + 1) n = dgt (n % 10) := by rw [decF, if_neg h9]
      rw [E]
      exact decimal_last n w (by omega)

set_option maxHeartbeats 2000000 in
theorem walkScanDecimals (x : Int) (hx : (Lit.int .i64 x).wf = true) (w : World) :
    Calls Try.prog 11 #[.int .i64 x] w fun e w' => e = .returned (.bool true) ∧ Below w.heap.size w w' := by
  by_cases h0 : x < 0
  · go_enter Try.func11, Try.ntmps11
    go_wp2
    go_ret
    exact ⟨rfl, Below.refl _ _⟩
  · by_cases h1 : 9999999999 < x
    · go_enter Try.func11, Try.ntmps11
      go_wp2
      go_ret
      exact ⟨rfl, Below.refl _ _⟩
    · obtain ⟨n, rfl⟩ := Int.eq_ofNat_of_zero_le (by omega : 0 ≤ x)
      have hn : n ≤ 9999999999 := by omega
      have D := fun wx => decimal 9 n wx (by omega) (by simp; omega) hn
      have N1 := hid (dec_num n (by omega))
      have N2 := hid (dec_zero n 0 9999999999)
      have N3 := hid (dec_less n (by omega) 9999999999)
      have S1 := dec_size 9 n
      obtain ⟨s, hs⟩ : ∃ s, s = decF 9 n := ⟨_, rfl⟩
      rw [← hs] at D N1 N2 N3 S1
      have C1 := fun wx => number s 0 n wx (by unfold maxLen; omega)
      have C2 := fun wx => number (⟨#[48]⟩ ++ s) 0 9999999999 wx (by rw [ByteArray.size_append]; unfold maxLen; have : (ByteArray.mk #[48]).size = 1 := rfl; omega)
      have C3 := fun wx => number s (n + 1) 9999999999 wx (by unfold maxLen; omega)
      rw [N1.out.1, N1.out.2] at C1
      rw [numV_no N2.out, N2.out] at C2
      rw [numV_no N3.out, N3.out] at C3
      have HC1 := hid C1
      have HC2 := hid C2
      have HC3 := hid C3
      clear hs N1 N2 N3 C1 C2 C3 hx
      go_enter Try.func11, Try.ntmps11
      go_wp2_with fail
      refine (D _).mono ?_
      rintro e w1 ⟨rfl, rfl⟩
      go_wp2_with fail
      refine (HC1.out _).mono ?_
      rintro e w2 ⟨rfl, rfl⟩
      go_wp2_with fail
      refine (HC2.out _).mono ?_
      rintro e w3 ⟨rfl, rfl⟩
      go_wp2_with fail
      refine (HC3.out _).mono ?_
      rintro e w4 ⟨rfl, rfl⟩
      go_wp2_with fail
      refine (sane _).mono ?_
      rintro e w5 ⟨rfl, hb⟩
      go_wp2
      go_ret
      exact ⟨rfl, hb⟩
end Go.Proofs.Ytlhocklcfhkbnaa.Sc
