/-
  THE WALK OF ScanLong.
-/
import Derived.Test.YtlhocklcfhkbnaaScanN
import Derived.Test.YtlhocklcfhkbnaaScanJ
import Derived.Test.YtlhocklcfhkbnaaScanPg
import Derived.OwnWalk
namespace Go.Proofs.Ytlhocklcfhkbnaa.Sc
set_option linter.unusedSimpArgs false
set_option linter.unusedVariables false
open Go.RowKit Sp Sm

theorem byteInfo : (Try.prog.info? 5).map (fun i => (i.zero, i.size, i.bytes)) = some (some (.int .u8 0), 1, 1) := by kernel_rfl

def LongRel (w : World) (g n k : Nat) (wr : World) : Prop :=
  wr.ownsRow w.heap.size 5 1 (.slice (some ⟨g, 0, none⟩) n n) n (List.replicate k (.int .u8 32) ++ List.replicate (n - k) (.int .u8 0)) ∧ Below w.heap.size w wr ∧ w.heap.size ≤ wr.heap.size

theorem long_cells {w wr : World} {g n : Nat} (h : LongRel w g n n wr) : ∀ i, i < n → wr.cell? ⟨g, 0 + i, none⟩ = some (.int .u8 ((List.replicate n (32 : Int)).getD i 0)) := by
  intro i hi
  obtain ⟨own, _, _⟩ := h
  rw [Nat.zero_add, own.cellAt i (by omega), Nat.sub_self, List.replicate_zero, List.append_nil, List.getElem?_replicate, List.getD_eq_getElem?_getD, List.getElem?_replicate, if_pos hi, if_pos hi]
  rfl

set_option maxHeartbeats 2000000 in
set_option maxRecDepth 100000 in
theorem walkScanLong (x : Int) (hx : (Lit.int .i64 x).wf = true) (w : World) :
    Calls Try.prog 4 #[.int .i64 x] w fun e w' => e = .returned (.bool true) ∧ Below w.heap.size w w' := by
  by_cases h0 : x < 0
  · go_enter Try.func4, Try.ntmps4
    go_wp2
    go_ret
    exact ⟨rfl, Below.refl _ _⟩
  · by_cases h1 : 70000 < x
    · go_enter Try.func4, Try.ntmps4
      go_wp2
      go_ret
      exact ⟨rfl, Below.refl _ _⟩
    · obtain ⟨n, rfl⟩ := Int.eq_ofNat_of_zero_le (by omega : 0 ≤ x)
      have hn : n ≤ 70000 := by omega
      obtain ⟨i0, hi, hz0, hz1, hz2⟩ := info_parts byteInfo
      clear hx h0 h1
      go_enter Try.func4, Try.ntmps4
      go_wp2_with (at_make; refine wpList_make_full w rfl _ _ _ rfl w.heap.size 5 i0 (.int .u8 0) 1 Try.underlying29 hi hz0 hz1 .i64 .i64 _ _ n rfl rfl rfl rfl (by rw [hz2]; omega) (by unfold maxLen; omega) (Nat.le_refl _) ?_; intro w1 own1 grow1)
      have hsz1 : w.heap.size ≤ w1.heap.size := grow1.size
      have hb1 : Below w.heap.size w w1 := (Below.refl _ _).grown grow1 (Nat.le_refl _) (by simp)
      have hst : LongRel w w.heap.size n 0 w1 := by
        refine ⟨?_, hb1, hsz1⟩
        have e : (madeCells (Value.int .u8 0).cells (n * 1)).toList = List.replicate 0 (.int .u8 32) ++ List.replicate (n - 0) (.int .u8 0) := by
          rw [show (Value.int .u8 0).cells = #[.int .u8 0] from rfl, toList_madeCells_one]; simp
        rw [← e]; exact own1
      clear own1 grow1 hsz1 hb1
      go_loopw [4] (fun i wr => ∃ k : Nat, k ≤ n ∧ i = .int .i64 k ∧ LongRel w w.heap.size n k wr) (fun i _ => n - (intOf i).toNat)
      case atStart => exact ⟨0, by omega, rfl, hst⟩
      case round =>
        obtain ⟨k, hk, rfl, hL⟩ := hrel
        clear hst
        by_cases hlt : k < n
        · have own := hL.1
          have hcell : wr.cell? ⟨w.heap.size, k, none⟩ = some (.int .u8 0) := by
            rw [own.cellAt k (by omega), List.getElem?_append_right (by simp), List.length_replicate, Nat.sub_self, List.getElem?_replicate, if_pos (by omega)]
          have hfr : wr.frozen? ⟨w.heap.size, k, none⟩ = false := own.frozenAt k
          have hnx : LongRel w w.heap.size n (k + 1) (wr.setCell ⟨w.heap.size, k, none⟩ (.int .u8 32)) := by
            have s := own.stored k (.int .u8 32)
            rw [set_row _ _ n k hlt] at s
            exact ⟨s.1, hL.2.1.setCell (Nat.le_refl _) _, by simpa [World.setCell] using hL.2.2⟩
          clear own hL
          go_wp2
          go_roundw
          case rel => exact ⟨k + 1, by omega, by go_num, hnx⟩
          case measure => simp [intOf]; omega
        · have hkn : k = n := by omega
          have hL' : LongRel w w.heap.size n n wr := by rw [hkn] at hL; exact hL
          have cv := run_convert_bytes_arg (P := Try.prog) wr 29 5 Try.underlying29 Try.underlying5 w.heap.size 0 n n (List.replicate n 32) List.length_replicate (long_cells hL') 9 Try.underlying9
          have hB := hL'.2.1
          have hZ := hL'.2.2
          have hlt2 := (hL'.1.lt _ rfl).2
          have HL := hid (long_cells hL')
          clear hkn hL hL'
          have C1 := fun wx => lines (blanks n) wx (by rw [blanks_size]; unfold maxLen; omega)
          have C2 := fun wx => tokens (blanks n) wx (by rw [blanks_size]; unfold maxLen; omega)
          by_cases hbig : 65536 < n
          · have e1 := blanks_long n hbig
            have l1 : linesL (blanks n) = [] := linesL_no (by rw [e1]; decide)
            have HE := hid e1
            have HL1 := hid l1
            clear e1 l1
            go_wp2_with fail
            refine (C1 _).mono ?_
            rintro e w2 ⟨v2, rfl, own2, bel2, sz2⟩
            rw [HE.out]
            have cv2 := run_convert_bytes_arg (P := Try.prog) w2 29 5 Try.underlying29 Try.underlying5 w.heap.size 0 n n (List.replicate n 32) List.length_replicate (fun i hi => (bel2.cell (p := ⟨w.heap.size, 0 + i, none⟩) hlt2).trans (HL.out i hi)) 9 Try.underlying9
            have B2 : Below w.heap.size w w2 := hB.trans (bel2.mono hZ)
            have Z2 : w.heap.size ≤ w2.heap.size := B2.size
            clear own2 bel2 hB HL cv
            go_wp2_with fail
            refine (C2 _).mono ?_
            rintro e w3 ⟨v3, rfl, own3, bel3, sz3⟩
            rw [HE.out, HL1.out]
            have B3 : Below w.heap.size w w3 := B2.trans (bel3.mono Z2)
            have Z3 : w.heap.size ≤ w3.heap.size := B3.size
            clear own3 bel3 cv2 B2
            go_wp2
            go_ret
            exact ⟨rfl, B3⟩
          · have HE := hid (blanks_err n (by omega))
            by_cases h0 : n = 0
            · have HL1 := hid (blanks_lines n (by omega))
              have hl0 : Hid ((linesL (blanks n)).length = 0) := by show _ = _; rw [HL1.out, if_pos h0]
              have hn0 : ((n : Int) == 0) = true := by rw [h0]; rfl
              clear h0 HL1
              go_wp2_with fail
              refine (C1 _).mono ?_
              rintro e w2 ⟨v2, rfl, own2, bel2, sz2⟩
              rw [HE.out]
              have cv2 := run_convert_bytes_arg (P := Try.prog) w2 29 5 Try.underlying29 Try.underlying5 w.heap.size 0 n n (List.replicate n 32) List.length_replicate (fun i hi => (bel2.cell (p := ⟨w.heap.size, 0 + i, none⟩) hlt2).trans (HL.out i hi)) 9 Try.underlying9
              have B2 : Below w.heap.size w w2 := hB.trans (bel2.mono hZ)
              have Z2 : w.heap.size ≤ w2.heap.size := B2.size
              clear own2 bel2 hB HL cv
              go_wp2_with fail
              refine (C2 _).mono ?_
              rintro e w3 ⟨v3, rfl, own3, bel3, sz3⟩
              rw [HE.out, hl0.out]
              have B3 : Below w.heap.size w w3 := B2.trans (bel3.mono Z2)
              have Z3 : w.heap.size ≤ w3.heap.size := B3.size
              clear own3 bel3 cv2 B2
              go_wp2_with fail
              refine (sane _).mono ?_
              rintro e w7 ⟨rfl, bel7⟩
              have B7 : Below w.heap.size w w7 := B3.trans (bel7.mono Z3)
              go_wp2
              go_ret
              exact ⟨rfl, B7⟩
            · have HL1 := hid (blanks_lines n (by omega))
              have hl0 : Hid ((linesL (blanks n)).length = 1) := by show _ = _; rw [HL1.out, if_neg h0]
              have hn0 : ((n : Int) == 0) = false := by simp; omega
              clear h0 HL1
              go_wp2_with fail
              refine (C1 _).mono ?_
              rintro e w2 ⟨v2, rfl, own2, bel2, sz2⟩
              rw [HE.out]
              have cv2 := run_convert_bytes_arg (P := Try.prog) w2 29 5 Try.underlying29 Try.underlying5 w.heap.size 0 n n (List.replicate n 32) List.length_replicate (fun i hi => (bel2.cell (p := ⟨w.heap.size, 0 + i, none⟩) hlt2).trans (HL.out i hi)) 9 Try.underlying9
              have B2 : Below w.heap.size w w2 := hB.trans (bel2.mono hZ)
              have Z2 : w.heap.size ≤ w2.heap.size := B2.size
              clear own2 bel2 hB HL cv
              go_wp2_with fail
              refine (C2 _).mono ?_
              rintro e w3 ⟨v3, rfl, own3, bel3, sz3⟩
              rw [HE.out, hl0.out]
              have B3 : Below w.heap.size w w3 := B2.trans (bel3.mono Z2)
              have Z3 : w.heap.size ≤ w3.heap.size := B3.size
              clear own3 bel3 cv2 B2
              go_wp2_with fail
              refine (sane _).mono ?_
              rintro e w7 ⟨rfl, bel7⟩
              have B7 : Below w.heap.size w w7 := B3.trans (bel7.mono Z3)
              go_wp2
              go_ret
              exact ⟨rfl, B7⟩
end Go.Proofs.Ytlhocklcfhkbnaa.Sc
