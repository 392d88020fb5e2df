/-
  THE WALK OF ScanSpaced.
-/
import Derived.Test.YtlhocklcfhkbnaaScanN
import Derived.Test.YtlhocklcfhkbnaaScanJ
import Derived.Test.YtlhocklcfhkbnaaScanM3
import Derived.Test.YtlhocklcfhkbnaaScanPs2
import Derived.BigQuiet
import Derived.Deep.QuietTactic
import Derived.RegionTactic
import Derived.WalkSmall
import Derived.OpenShut
namespace Go.Proofs.Ytlhocklcfhkbnaa.Sc
set_option linter.unusedSimpArgs false
set_option linter.unusedVariables false
open Go.RowKit Sp Sm

theorem row_of {w : World} {B e size : Nat} {v : Value} {n : Nat} {xs : List Value} (h : w.ownsRow B e size v n xs) :
    ∃ q cap, v = .slice q n cap ∧ (0 < n → ∃ g, q = some ⟨g, 0, none⟩ ∧ g < w.heap.size ∧ ∀ j, j < n * size → w.cell? ⟨g, j, none⟩ = xs[j]?) := by
  have lt := h.lt
  rcases h.2 with ⟨rfl, rfl⟩ | ⟨g, cap, cur, rfl, hb, hh, hnc, _⟩
  · exact ⟨none, 0, rfl, fun h => by omega⟩
  · exact ⟨_, cap, rfl, fun _ => ⟨g, rfl, (lt g rfl).2, fun j hj => h.cellAt j hj⟩⟩

set_option maxHeartbeats 4000000 in
set_option maxRecDepth 100000 in
theorem walkScanSpaced (a : Option Addr) (len cap : Nat) (zs : List ByteArray) (a2 : Option Addr) (len2 cap2 : Nat) (z2 : List Int) (w : World) (hz : IsStrs w a len cap zs) (hz2 : IsRow .u8 w a2 len2 cap2 z2) :
    Calls Try.prog 9 #[.slice a len cap, .slice a2 len2 cap2] w fun e w' => e = .returned (.bool true) ∧ Below w.heap.size w w' := by
  obtain ⟨ws, hl, hm, hsz, hc⟩ := strs_of hz
  obtain ⟨ns, nl, nm, nwf, nc⟩ := ints_of hz2
  have hm' := hm
  unfold maxLen at hm'
  have nm' := nm
  unfold maxLen at nm'
  by_cases h30 : 40 < len
  · go_enter Try.func9, Try.ntmps9
    go_wp2
    go_ret
    exact ⟨rfl, Below.refl _ _⟩
  · by_cases hg : len2 < len
    · go_enter Try.func9, Try.ntmps9
      go_wp2
      go_ret
      exact ⟨rfl, Below.refl _ _⟩
    · have HC := hid hc
      have HL := hid hl
      have HS := hid hsz
      have NC := hid nc
      have NL := hid nl
      have NW := hid (range_u8 nwf)
      clear hc hl hm hsz hz nc nl nwf hz2 nm
      go_enter Try.func9, Try.ntmps9
      go_wp2
      go_loopw [5, 6] (fun v i wr => ∃ (k : Nat) (L : ByteArray), k ≤ len ∧ i = .int .i64 k ∧ v = .string L ∧ Hid (SpRel ws ns k L) ∧ Below w.heap.size w wr ∧ w.heap.size ≤ wr.heap.size) (fun _ i _ => len - (intOf i).toNat)
      case atStart => exact ⟨0, ⟨#[]⟩, by omega, rfl, rfl, spRel_zero ws ns, Below.refl _ _, Nat.le_refl _⟩
      case round =>
        obtain ⟨k, L, hk, rfl, rfl, hJ, hbel, hsz⟩ := hrel
        have hLs : L.size ≤ 24 * k := hJ.out.2.2
        by_cases hlt : k < len
        · obtain ⟨b, off, rfl, hb, hcell⟩ := HC.out (by omega)
          obtain ⟨b2, off2, rfl, hb2, hcell2⟩ := NC.out (by omega)
          obtain ⟨t, ht⟩ : ∃ t, t = ws.getD k ByteArray.empty := ⟨_, rfl⟩
          have hct : wr.cell? ⟨b, off + k, none⟩ = some (.string t) := by rw [ht]; exact (hbel.cell (p := ⟨b, off + k, none⟩) hb).trans (hcell k hlt)
          obtain ⟨g, hgd⟩ : ∃ g, g = ns.getD k 0 := ⟨_, rfl⟩
          have hcg : wr.cell? ⟨b2, off2 + k, none⟩ = some (.int .u8 g) := by rw [hgd]; exact (hbel.cell (p := ⟨b2, off2 + k, none⟩) hb2).trans (hcell2 k (by omega))
          have hts : t.size ≤ maxLen := by
            rw [ht, List.getD_eq_getElem?_getD, List.getElem?_eq_getElem (by rw [HL.out]; exact hlt)]
            exact HS.out _ (List.getElem_mem _)
          have hg0 : 0 ≤ g ∧ g ≤ 255 := by rw [hgd, List.getD_eq_getElem?_getD]; exact NW.out k
          obtain ⟨g1, g2⟩ := hg0
          have HT := hid ht
          have HG := hid hgd
          have hbw : b < wr.heap.size := by omega
          have hbw2 : b2 < wr.heap.size := by omega
          have hts' := hts
          unfold maxLen at hts'
          clear ht hcell hgd hcell2
          have m4 : g % 4 = 0 ∨ g % 4 = 1 ∨ g % 4 = 2 ∨ g % 4 = 3 := by omega
          have M : Hid ((ns.getD k 0).toNat % 4 = (g % 4).toNat) := by
            show _ = _
            rw [← HG.out]; omega
          by_cases hw : wordT t
          · have hs15 := wordT_size hw
            have hor : (t.toList == [123]) = true ∨ ((t.toList == [123]) = false ∧ (t.toList == [125]) = true) ∨ ((t.toList == [123]) = false ∧ (t.toList == [125]) = false ∧ (t.toList == [59]) = true) ∨
                ((t.toList == [123]) = false ∧ (t.toList == [125]) = false ∧ (t.toList == [59]) = false ∧ nameL t.data.toList = true) := by
              rw [Lib.toList_data]
              by_cases c1 : t.data.toList = [123]
              · left; rw [c1]; rfl
              · by_cases c2 : t.data.toList = [125]
                · right; left; rw [c2]; exact ⟨rfl, rfl⟩
                · by_cases c3 : t.data.toList = [59]
                  · right; right; left; rw [c3]; exact ⟨rfl, rfl, rfl⟩
                  · right; right; right
                    refine ⟨by simpa using c1, by simpa using c2, by simpa using c3, ?_⟩
                    rcases hw with h | h | h | h
                    · exact absurd h c1
                    · exact absurd h c2
                    · exact absurd h c3
                    · exact h
            have HW := hid hw
            clear hw
            rcases hor with d1 | ⟨d1, d2⟩ | ⟨d1, d2, d3⟩ | ⟨d1, d2, d3, d4⟩
            all_goals
              rcases m4 with m | m | m | m
              all_goals
                go_wp2_with (go_at_call 22; refine (refName t _ hts).mono ?_; rintro e w' ⟨rfl, rfl⟩)
                go_roundw
                case rel => exact ⟨k + 1, _, by omega, by go_num, rfl, hid (spRel_step hJ.out HT.out HW.out (by rw [M.out, m]; rfl) (by decide)), hbel.alloc hsz _, by simp; omega⟩
                case measure => simp [intOf]; omega
          · have d1 : (t.toList == [123]) = false := by rw [Lib.toList_data, beq_eq_false_iff_ne]; exact fun h => hw (.inl h)
            have d2 : (t.toList == [125]) = false := by rw [Lib.toList_data, beq_eq_false_iff_ne]; exact fun h => hw (.inr (.inl h))
            have d3 : (t.toList == [59]) = false := by rw [Lib.toList_data, beq_eq_false_iff_ne]; exact fun h => hw (.inr (.inr (.inl h)))
            have d4 : nameL t.data.toList = false := by
              cases h : nameL t.data.toList with
              | false => rfl
              | true => exact absurd (.inr (.inr (.inr h))) hw
            clear hw m4
            go_wp2_with (go_at_call 22; refine (refName t _ hts).mono ?_; rintro e w' ⟨rfl, rfl⟩)
            go_ret
            exact ⟨rfl, hbel⟩
        · have hkl : k = len := by omega
          subst hkl
          have T := spRel_toks hJ.out (by omega)
          have tl := exp2_len (itemsTo ws ns k) 1
          rw [itemsTo_len] at tl
          have C := fun wx => tokens L wx (by unfold maxLen; omega)
          have TE := hid T
          have TL := hid tl
          clear T tl
          go_wp2_with fail
          refine (C _).mono ?_
          rintro e w1 ⟨v1, rfl, own1, bel1, sz1⟩
          rw [TE.out.1]
          rw [TE.out.2, TL.out] at own1
          obtain ⟨q, cq, rfl, hq⟩ := row_of own1
          have HQ := hid hq
          have B1 : Below w.heap.size w w1 := hbel.trans (bel1.mono hsz)
          clear own1 bel1 hq C hbel
          go_wp2
          go_loopw [11, 12] (fun v i wr2 => ∃ j : Nat, j ≤ k ∧ i = .int .i64 j ∧ v = .int .i64 (lineAt (itemsTo ws ns k) 1 j : Nat) ∧ Below w1.heap.size w1 wr2) (fun _ i _ => k - (intOf i).toNat)
          case atStart => exact ⟨0, by omega, rfl, by rw [lineAt_zero]; rfl, Below.refl _ _⟩
          case round =>
            obtain ⟨j, hj, rfl, rfl, hb2⟩ := hrel
            by_cases hlt : j < k
            · obtain ⟨g, rfl, hgl, hgc⟩ := HQ.out (by omega)
              obtain ⟨b, off, rfl, hb, hcell⟩ := HC.out (by omega)
              obtain ⟨b2, off2, rfl, hbb2, hcell2⟩ := NC.out (by omega)
              have B2 : Below w.heap.size w wr := B1.trans (hb2.mono B1.size)
              obtain ⟨t, ht⟩ : ∃ t, t = ws.getD j ByteArray.empty := ⟨_, rfl⟩
              obtain ⟨gi, hgd⟩ : ∃ gi, gi = ns.getD j 0 := ⟨_, rfl⟩
              have hjl : j < (itemsTo ws ns k).length := by rw [itemsTo_len]; exact hlt
              have ls := lineAt_step (itemsTo ws ns k) 1 j hjl
              rw [itemsTo_get, ← hgd] at ls
              have lle := lineAt_le (itemsTo ws ns k) 1 j
              have eg := exp2_get (itemsTo ws ns k) 1 j hjl
              rw [itemsTo_get, ← ht] at eg
              have hje : j < (exp2 (itemsTo ws ns k) 1).length := by rw [exp2_len, itemsTo_len]; exact hlt
              have pg := pairs_get (exp2 (itemsTo ws ns k) 1) j hje
              rw [List.getElem?_eq_getElem hje] at eg
              simp only [Option.some.injEq] at eg
              rw [eg] at pg
              simp only at pg
              obtain ⟨ln, hln⟩ : ∃ ln, ln = lineAt (itemsTo ws ns k) 1 j := ⟨_, rfl⟩
              rw [← hln] at pg ls lle ⊢
              have ct1 : wr.cell? ⟨g, j * 2, none⟩ = some (.int .i64 (ln : Nat)) := by
                rw [hb2.cell (p := ⟨g, j * 2, none⟩) hgl, hgc _ (by omega), Nat.mul_comm j 2]; exact pg.1
              have ct2 : wr.cell? ⟨g, j * 2 + 1, none⟩ = some (.string t) := by
                rw [hb2.cell (p := ⟨g, j * 2 + 1, none⟩) hgl, hgc _ (by omega), Nat.mul_comm j 2]; exact pg.2
              have cw : wr.cell? ⟨b, off + j, none⟩ = some (.string t) := by rw [ht]; exact (B2.cell (p := ⟨b, off + j, none⟩) hb).trans (hcell j (by omega))
              have cg : wr.cell? ⟨b2, off2 + j, none⟩ = some (.int .u8 gi) := by rw [hgd]; exact (B2.cell (p := ⟨b2, off2 + j, none⟩) hbb2).trans (hcell2 j (by omega))
              have hg0 : 0 ≤ gi ∧ gi ≤ 255 := by rw [hgd, List.getD_eq_getElem?_getD]; exact NW.out j
              obtain ⟨g1, g2⟩ := hg0
              have LS := hid ls
              clear ls eg pg hje hjl hgc hcell hcell2 ht hgd hln
              by_cases h1 : 1 < gi % 4
              · have hnx : Hid (((lineAt (itemsTo ws ns k) 1 (j + 1) : Nat) : Int) = (ln : Int) + 1) := by
                  show _ = _
                  rw [LS.out, if_pos (by show 1 < gi.toNat % 4; omega)]; omega
                go_wp2
                go_quiet (fail)
                go_wp2
                go_roundw
                case rel => exact ⟨j + 1, by omega, by go_num, by rw [hnx.out], below_drewN hb2 _⟩
                case measure => simp [intOf]; omega
              · have hnx : Hid (((lineAt (itemsTo ws ns k) 1 (j + 1) : Nat) : Int) = (ln : Int)) := by
                  show _ = _
                  rw [LS.out, if_neg (by show ¬ 1 < gi.toNat % 4; omega)]
                go_wp2
                go_quiet (fail)
                go_wp2
                go_roundw
                case rel => exact ⟨j + 1, by omega, by go_num, by rw [hnx.out], below_drewN hb2 _⟩
                case measure => simp [intOf]; omega
            · have B2 : Below w.heap.size w wr := B1.trans (hb2.mono B1.size)
              go_wp2_with fail
              refine (sane _).mono ?_
              rintro e w7 ⟨rfl, bel7⟩
              have B7 : Below w.heap.size w w7 := B2.trans (bel7.mono B2.size)
              go_wp2
              go_ret
              exact ⟨rfl, B7⟩
end Go.Proofs.Ytlhocklcfhkbnaa.Sc
