/-
  WHAT A WALK IS TOLD OF A SLICE OF STRINGS, OR OF BYTES, THAT CAME IN. No function of the program is named.
-/
import Derived.Test.YtlhocklcfhkbnaaScanM
namespace Go.Proofs.Ytlhocklcfhkbnaa.Sm
set_option linter.unusedSimpArgs false
set_option linter.unusedVariables false
open Go.RowKit

/-- A []string that came in: nil, or a row of 'cap' strings, the first 'len' of which are its elements. -/
def IsStrs (w : World) (a : Option Addr) (len cap : Nat) (zs : List ByteArray) : Prop :=
  (a = none ∧ len = 0 ∧ cap = 0 ∧ zs = []) ∨
  ∃ x, a = some x ∧ len ≤ cap ∧ cap ≤ maxLen ∧ zs.length = cap ∧ (∀ i, i < zs.length → w.cell? (x.add i) = some (.string (zs.getD i ByteArray.empty))) ∧ ∀ s ∈ zs, s.size ≤ maxLen
/-- A slice of integers that came in. -/
def IsRow (k : IntKind) (w : World) (a : Option Addr) (len cap : Nat) (zs : List Int) : Prop :=
  (a = none ∧ len = 0 ∧ cap = 0 ∧ zs = []) ∨
  ∃ x, a = some x ∧ len ≤ cap ∧ cap ≤ maxLen ∧ zs.length = cap ∧ (∀ i, i < zs.length → w.cell? (x.add i) = some (.int k (zs.getD i 0))) ∧ ∀ n ∈ zs, (Lit.int k n).wf = true

/-- The elements, as a list of just that length. -/
theorem strs_of {w : World} {a : Option Addr} {len cap : Nat} {zs : List ByteArray} (h : IsStrs w a len cap zs) :
    ∃ ws : List ByteArray, ws.length = len ∧ len ≤ maxLen ∧ (∀ s ∈ ws, s.size ≤ maxLen) ∧
      (0 < len → ∃ b off, a = some ⟨b, off, none⟩ ∧ b < w.heap.size ∧ ∀ i, i < len → w.cell? ⟨b, off + i, none⟩ = some (.string (ws.getD i ByteArray.empty))) := by
  rcases h with ⟨rfl, rfl, rfl, rfl⟩ | ⟨x, rfl, hl, hm, hz, hc, hs⟩
  · exact ⟨[], rfl, Nat.zero_le _, (fun _ h => by cases h), fun h => by omega⟩
  · refine ⟨zs.take len, by simp; omega, by omega, fun s hs' => hs s (List.mem_of_mem_take hs'), fun h0 => ?_⟩
    obtain ⟨b, off, spot⟩ := x
    have h00 := hc 0 (by omega)
    have hspot : spot = none := by simpa [Addr.add] using World.cell?_spot h00
    subst hspot
    have hb : b < w.heap.size := by
      have := World.block_lt_of_cell? w _ h00
      simpa [Addr.add] using this
    refine ⟨b, off, rfl, hb, fun i hi => ?_⟩
    have := hc i (by omega)
    have hadd : (⟨b, off, none⟩ : Addr).add i = ⟨b, off + i, none⟩ := by unfold Addr.add; split <;> simp_all
    rw [hadd] at this
    rw [this]
    congr 2
    rw [List.getD_eq_getElem?_getD, List.getD_eq_getElem?_getD, List.getElem?_take, if_pos hi]

theorem ints_of {k : IntKind} {w : World} {a : Option Addr} {len cap : Nat} {zs : List Int} (h : IsRow k w a len cap zs) :
    ∃ ns : List Int, ns.length = len ∧ len ≤ maxLen ∧ (∀ n ∈ ns, (Lit.int k n).wf = true) ∧
      (0 < len → ∃ b off, a = some ⟨b, off, none⟩ ∧ b < w.heap.size ∧ ∀ i, i < len → w.cell? ⟨b, off + i, none⟩ = some (.int k (ns.getD i 0))) := by
  rcases h with ⟨rfl, rfl, rfl, rfl⟩ | ⟨x, rfl, hl, hm, hz, hc, hs⟩
  · exact ⟨[], rfl, Nat.zero_le _, (fun _ h => by cases h), fun h => by omega⟩
  · refine ⟨zs.take len, by simp; omega, by omega, fun s hs' => hs s (List.mem_of_mem_take hs'), fun h0 => ?_⟩
    obtain ⟨b, off, spot⟩ := x
    have h00 := hc 0 (by omega)
    have hspot : spot = none := by simpa [Addr.add] using World.cell?_spot h00
    subst hspot
    have hb : b < w.heap.size := by
      have := World.block_lt_of_cell? w _ h00
      simpa [Addr.add] using this
    refine ⟨b, off, rfl, hb, fun i hi => ?_⟩
    have := hc i (by omega)
    have hadd : (⟨b, off, none⟩ : Addr).add i = ⟨b, off + i, none⟩ := by unfold Addr.add; split <;> simp_all
    rw [hadd] at this
    rw [this]
    congr 2
    rw [List.getD_eq_getElem?_getD, List.getD_eq_getElem?_getD, List.getElem?_take, if_pos hi]

/-- The words that came in, read as a slice. -/
theorem reads_words {w : World} {a : Option Addr} {len cap : Nat} {ws : List ByteArray} (hl : ws.length = len) (hm : len ≤ maxLen)
    (h : 0 < len → ∃ b off, a = some ⟨b, off, none⟩ ∧ b < w.heap.size ∧ ∀ i, i < len → w.cell? ⟨b, off + i, none⟩ = some (.string (ws.getD i ByteArray.empty))) :
    Reads w 1 (.slice a len cap) ws.length (strs ws) := by
  subst hl
  refine ⟨by rw [strs_length]; omega, hm, ?_⟩
  by_cases h0 : ws.length = 0
  · exact .inl ⟨h0, a, cap, by rw [h0]⟩
  · obtain ⟨b, off, rfl, _, hc⟩ := h (by omega)
    refine .inr ⟨b, off, cap, rfl, fun j u hj => ?_⟩
    unfold strs at hj
    rw [List.getElem?_map] at hj
    cases e : ws[j]? with
    | none => rw [e] at hj; cases hj
    | some s =>
      rw [e] at hj
      have hjl : j < ws.length := by
        rcases Nat.lt_or_ge j ws.length with h | h
        · exact h
        · rw [List.getElem?_eq_none h] at e; cases e
      rw [hc j hjl, List.getD_eq_getElem?_getD, e]
      simpa using hj
end Go.Proofs.Ytlhocklcfhkbnaa.Sm
