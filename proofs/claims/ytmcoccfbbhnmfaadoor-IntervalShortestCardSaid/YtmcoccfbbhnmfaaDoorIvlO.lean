/-
  A SLICE OF INTERVALS IN OLD MEMORY, AS A ROW's DATUM READS IT: THE LIST OF PAIRS OF NUMBERS BELOW 2^32.
-/
import Derived.Test.YtmcoccfbbhnmfaaDoorIvlA
import Derived.Deep.SlicePairs
import Derived.ChangeArms
import Derived.ProofKit
namespace Go.Proofs.YtmcoccfbbhnmfaaDoor.Iw
set_option linter.unusedSimpArgs false
set_option linter.unusedVariables false
open Go.RowKit Ip Im

theorem u32_nat {m : Int} (h : (Lit.int .u32 m).wf = true) : ∃ k : Nat, m = k ∧ k < 4294967296 := by
  have h' : 0 ≤ m ∧ m ≤ 4294967295 := by
    simp [Lit.wf, IntKind.min, IntKind.max, IntKind.signed, IntKind.bits] at h
    omega
  exact ⟨m.toNat, by omega, by omega⟩
theorem nth_range (f : Nat → Iv) (n k : Nat) (h : k < n) : nth ((List.range n).map f) k = f k := by
  unfold nth; simp [List.getD_eq_getElem?_getD, h]
theorem opened {H : Type} {enc : TypeId × Value → H} {W : World} {base : Nat} {spare : Nat → Bool} {held : Bool} {fuel : Nat} {a : Option Addr} {len cap : Nat} {x : DataW H × List MemPlace}
    (h : DataW.trod enc Tryd.prog W base spare held fuel 22 (Value.slice a len cap).cells.toList = some x) : ∃ s : List Iv, IsIv W (.slice a len cap) s ∧ Bd 4294967296 s := by
  rcases Deep.open_slice_pairs Tryd.underlying22 Tryd.underlying45 (by kernel_rfl) rfl rfl (by kernel_rfl) (by kernel_rfl) h with ⟨hcs, _⟩ | ⟨ad, l, c, m, n, V0, V1, D0, D1, P0, P1, hcs, _, hl, hm, hmm, _, hx⟩
  · simp [Value.cells] at hcs
    obtain ⟨rfl, rfl, rfl⟩ := hcs
    exact ⟨[], ⟨rfl, .inl ⟨rfl, rfl⟩⟩, bd_nil _⟩
  · simp [Value.cells] at hcs
    obtain ⟨rfl, rfl, rfl⟩ := hcs
    have hlm : len ≤ m := by rw [hmm]; split <;> omega
    have each : ∀ i, ∃ q : Iv, i < len → W.cell? (ad.add (i * 2)) = some (.int .u32 (q.1 : Int)) ∧ W.cell? (ad.add (i * 2 + 1)) = some (.int .u32 (q.2 : Int)) ∧ q.1 < 4294967296 ∧ q.2 < 4294967296 := by
      intro i
      by_cases hi : i < len
      · obtain ⟨c0, c1, t0, t1⟩ := hx i (by omega)
        obtain ⟨z0, e0, _, w0⟩ := DataW.trod_int Tryd.underlying23 t0
        obtain ⟨z1, e1, _, w1⟩ := DataW.trod_int Tryd.underlying23 t1
        simp at e0 e1
        rw [e0] at c0
        rw [e1] at c1
        obtain ⟨y0, rfl, b0⟩ := u32_nat w0
        obtain ⟨y1, rfl, b1⟩ := u32_nat w1
        exact ⟨(y0, y1), fun _ => ⟨c0, c1, b0, b1⟩⟩
      · exact ⟨(0, 0), fun h => absurd h hi⟩
    obtain ⟨f, hf⟩ := Classical.axiomOfChoice each
    refine ⟨(List.range len).map f, n_iv (n := len) ⟨by rw [iv2_length]; simp, .inr ⟨ad, cap, rfl, hl, fun j u hj => ?_⟩⟩ (by simp), fun i hi => ?_⟩
    · have hj2 : j < (iv2 ((List.range len).map f)).length := (List.getElem?_eq_some_iff.1 hj).1
      rw [iv2_length, List.length_map, List.length_range] at hj2
      have hk : j / 2 < len := by omega
      have hg := iv2_get ((List.range len).map f) (j / 2) (by simpa using hk)
      rw [nth_range f len _ hk] at hg
      have hw := hf (j / 2) hk
      rcases Nat.mod_two_eq_zero_or_one j with e | e
      · rw [show j = j / 2 * 2 by omega] at hj ⊢
        rw [hg.1] at hj
        rw [hw.1]; exact hj
      · rw [show j = j / 2 * 2 + 1 by omega] at hj ⊢
        rw [hg.2] at hj
        rw [hw.2.1]; exact hj
    · rw [List.mem_map] at hi
      obtain ⟨k, hk, rfl⟩ := hi
      exact (hf k (List.mem_range.1 hk)).2.2
end Go.Proofs.YtmcoccfbbhnmfaaDoor.Iw
