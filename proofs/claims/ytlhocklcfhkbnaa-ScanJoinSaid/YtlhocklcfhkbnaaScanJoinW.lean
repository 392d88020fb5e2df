/-
  THE WALK OF ScanJoin.
-/
import Derived.Test.YtlhocklcfhkbnaaScanK
import Derived.Test.YtlhocklcfhkbnaaScanM3
import Derived.Test.YtlhocklcfhkbnaaScanPj
namespace Go.Proofs.Ytlhocklcfhkbnaa.Sc
set_option linter.unusedSimpArgs false
set_option linter.unusedVariables false
open Go.RowKit Sp Sm

/-- What the loop has made of the first k words. -/
def JoinRel (ws : List ByteArray) (k : Nat) (L : ByteArray) : Prop := L.data.toList = flatL (ws.take k) ∧ (∀ x ∈ ws.take k, wordOk x) ∧ L.size ≤ 41 * k
theorem joinRel_zero (ws : List ByteArray) : JoinRel ws 0 ⟨#[]⟩ := ⟨rfl, (by intro x hx; rw [List.take_zero] at hx; cases hx), Nat.le_refl 0⟩
theorem joinRel_step {ws : List ByteArray} {k : Nat} {L t : ByteArray} (h : JoinRel ws k L) (hk : k < ws.length) (ht : t = ws.getD k ByteArray.empty) (ok : wordOk t) : JoinRel ws (k + 1) (L ++ t ++ ⟨#[32]⟩) := by
  have e : ws.take (k + 1) = ws.take k ++ [t] := by
    rw [List.take_succ_eq_append_getElem hk, ht, List.getD_eq_getElem?_getD, List.getElem?_eq_getElem hk]; rfl
  obtain ⟨h1, h2, h3⟩ := h
  refine ⟨?_, ?_, ?_⟩
  · rw [e, flatL_snoc, app_data, app_data, h1]
  · intro x hx
    rw [e, List.mem_append] at hx
    rcases hx with hx | hx
    · exact h2 x hx
    · rw [List.mem_singleton.1 hx]; exact ok
  · have := ok.2.1
    rw [app_size, app_size]
    have e1 : (ByteArray.mk #[32]).size = 1 := rfl
    omega

def noBlanks (t : ByteArray) (j : Nat) : Prop := (t.data.toList.take j).all (fun c => !blankB c) = true
theorem noBlanks_zero (t : ByteArray) : noBlanks t 0 := rfl
theorem noBlanks_step {t : ByteArray} {j : Nat} (h : noBlanks t j) (hj : j < t.size) (hb : blankB (t[j]'hj) = false) : noBlanks t (j + 1) := by
  unfold noBlanks at *; rw [take_data t j hj, List.all_append, h]; simp [hb]

set_option maxHeartbeats 4000000 in
set_option maxRecDepth 100000 in
theorem walkScanJoin (a : Option Addr) (len cap : Nat) (zs : List ByteArray) (w : World) (hz : IsStrs w a len cap zs) :
    Calls Try.prog 7 #[.slice a len cap] w fun e w' => e = .returned (.bool true) ∧ Below w.heap.size w w' := by
  obtain ⟨ws, hl, hm, hsz, hc⟩ := strs_of hz
  have hm' := hm
  unfold maxLen at hm'
  by_cases h30 : 30 < len
  · go_enter Try.func7, Try.ntmps7
    go_wp2
    go_ret
    exact ⟨rfl, Below.refl _ _⟩
  · have R := hid (reads_words (cap := cap) hl hm hc)
    have HC := hid hc
    have HL := hid hl
    have HS := hid hsz
    clear hc hl hm hsz hz
    go_enter Try.func7, Try.ntmps7
    go_wp2
    go_loop [3, 4] (fun v i => ∃ (k : Nat) (L : ByteArray), k ≤ len ∧ i = .int .i64 k ∧ v = .string L ∧ Hid (JoinRel ws k L)) (fun _ i => len - (intOf i).toNat)
    case atStart => exact ⟨0, ⟨#[]⟩, by omega, rfl, rfl, joinRel_zero ws⟩
    case round =>
      obtain ⟨k, L, hk, rfl, rfl, hJ⟩ := hrel
      have hLs : L.size ≤ 41 * k := hJ.out.2.2
      by_cases hlt : k < len
      · obtain ⟨b, off, rfl, hb, hcell⟩ := HC.out (by omega)
        obtain ⟨t, ht⟩ : ∃ t, t = ws.getD k ByteArray.empty := ⟨_, rfl⟩
        have hct : w.cell? ⟨b, off + k, none⟩ = some (.string t) := by rw [ht]; exact hcell k hlt
        have hts : t.size ≤ maxLen := by
          rw [ht, List.getD_eq_getElem?_getD, List.getElem?_eq_getElem (by rw [HL.out]; exact hlt)]
          exact HS.out _ (List.getElem_mem _)
        have HT := hid ht
        unfold maxLen at hts
        clear ht hcell
        by_cases t0 : t.size < 1
        · go_wp2
          go_ret
          exact ⟨rfl, Below.refl _ _⟩
        · by_cases t40 : 40 < t.size
          · go_wp2
            go_ret
            exact ⟨rfl, Below.refl _ _⟩
          · have tp : 0 < t.size := by omega
            by_cases t33 : ((t[0].toNat : Int) == 33) = true
            · go_wp2
              go_ret
              exact ⟨rfl, Below.refl _ _⟩
            · have t33' : ((t[0].toNat : Int) == 33) = false := by simpa using t33
              have hhead : Hid (t.data.toList.head? ≠ some 33) := by
                show _ ≠ _
                rw [head_data t tp]
                intro e
                simp only [Option.some.injEq] at e
                rw [e] at t33'; cases t33'
              clear t33
              go_wp2
              go_loop [6] (fun i => ∃ j : Nat, j ≤ t.size ∧ i = .int .i64 j ∧ Hid (noBlanks t j)) (fun i => t.size - (intOf i).toNat)
              case atStart => exact ⟨0, by omega, rfl, noBlanks_zero t⟩
              case round =>
                obtain ⟨j, hj, rfl, hN⟩ := hrel
                by_cases hjl : j < t.size
                · have hbi := hid (blank_int t[j])
                  by_cases hbl : blankB t[j] = true
                  · have hor : ((t[j].toNat : Int) == 9) = true ∨ (((t[j].toNat : Int) == 9) = false ∧ ((t[j].toNat : Int) == 32) = true) := by
                      have := hbi.out; rw [hbl] at this; simp at this ⊢; omega
                    clear hbl hbi
                    rcases hor with h9 | ⟨h9, h32⟩
                    all_goals
                      go_wp2
                      go_ret
                      exact ⟨rfl, Below.refl _ _⟩
                  · have hbl' : blankB t[j] = false := by simpa using hbl
                    have h9 : ((t[j].toNat : Int) == 9) = false := by have := hbi.out; rw [hbl'] at this; simp at this ⊢; omega
                    have h32 : ((t[j].toNat : Int) == 32) = false := by have := hbi.out; rw [hbl'] at this; simp at this ⊢; omega
                    have hN' := hid (noBlanks_step hN.out hjl hbl')
                    clear hbl hbi hbl'
                    go_wp2
                    go_round
                    case rel => exact ⟨j + 1, by omega, by go_num, hN'⟩
                    case measure => simp [intOf]; omega
                · have hjt : j = t.size := by omega
                  have hok : Hid (wordOk t) := by
                    refine ⟨by omega, by omega, hhead.out, ?_⟩
                    have := hN.out
                    rw [hjt] at this
                    unfold noBlanks at this
                    rwa [List.take_of_length_le (by simp)] at this
                  have hJ' := hid (joinRel_step hJ.out (by rw [HL.out]; exact hlt) HT.out hok.out)
                  clear hjt
                  go_wp2
                  go_round
                  case rel => exact ⟨k + 1, _, by omega, by go_num, rfl, hJ'⟩
                  case measure => simp [intOf]; omega
      · have hkl : k = len := by omega
        have hall : ws.take k = ws := List.take_of_length_le (by rw [HL.out]; omega)
        have hd : L.data.toList = flatL ws := by rw [← hall]; exact hJ.out.1
        have hw : ∀ x ∈ ws, wordOk x := by rw [← hall]; exact hJ.out.2.1
        have F1 := hid (join_fields L ws hd hw)
        have F2 := hid (join_fields2 L ws hd hw)
        have C1 := fun wx => fields L 33 wx (by omega)
        have C2 := fun wx => fields (⟨#[9]⟩ ++ L ++ ⟨#[33, 120, 32, 121]⟩) 33 wx (by
          rw [app_size, app_size]
          have e1 : (ByteArray.mk #[9]).size = 1 := rfl
          have e2 : (ByteArray.mk #[33, 120, 32, 121]).size = 4 := rfl
          omega)
        have D1 := hid C1
        have D2 := hid C2
        clear hkl hall hd hw C1 C2
        go_wp2_with fail
        refine (D1.out _).mono ?_
        rintro e w1 ⟨v1, rfl, own1, bel1, sz1⟩
        rw [F1.out] at own1
        have r1 := reads_own own1
        have q1 := reads_below R.out bel1 (Nat.le_refl _)
        clear own1
        go_wp2_with fail
        refine (keepSame _ _ _ _ r1 q1).mono ?_
        rintro e w2 ⟨rfl, bel2⟩
        have B2 : Below w.heap.size w w2 := bel1.trans (bel2.mono sz1)
        clear r1 q1 bel1 bel2
        go_wp2_with fail
        refine (D2.out _).mono ?_
        rintro e w3 ⟨v3, rfl, own3, bel3, sz3⟩
        rw [F2.out] at own3
        have r3 := reads_own own3
        have B3 : Below w.heap.size w w3 := B2.trans (bel3.mono B2.size)
        have q3 := reads_below R.out B3 (Nat.le_refl _)
        clear own3 bel3
        go_wp2_with fail
        refine (keepSame _ _ _ _ r3 q3).mono ?_
        rintro e w4 ⟨rfl, bel4⟩
        have B4 : Below w.heap.size w w4 := B3.trans (bel4.mono B3.size)
        clear r3 q3 bel4
        go_wp2_with fail
        refine (sane _).mono ?_
        rintro e w5 ⟨rfl, bel5⟩
        have B5 : Below w.heap.size w w5 := B4.trans (bel5.mono B4.size)
        go_wp2
        go_ret
        exact ⟨rfl, B5⟩
end Go.Proofs.Ytlhocklcfhkbnaa.Sc
