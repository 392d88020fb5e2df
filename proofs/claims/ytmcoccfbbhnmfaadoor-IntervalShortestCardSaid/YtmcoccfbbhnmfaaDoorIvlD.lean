/-
  THE CONTRACTS OF interval.Valid AND Has AND OF THE REFERENCE's Canonical AND Has.
-/
import Derived.Test.YtmcoccfbbhnmfaaDoorIvlB
namespace Go.Proofs.YtmcoccfbbhnmfaaDoor.Iw
set_option linter.unusedSimpArgs false
set_option linter.unusedVariables false
open Go.RowKit Sm Ip Im Kt

/-- What a function leaves that answers a bool and makes memory. -/
def BoolPost (r : Bool) (w : World) (e : Ending) (w' : World) : Prop := e = .returned (.bool r) ∧ Below w.heap.size w w'

set_option maxHeartbeats 4000000 in
set_option maxRecDepth 100000 in
theorem valid (v : Value) (s : List Iv) (w : World) (h : IsIv w v s) (hb : Bd 4294967296 s) (hs : s.length ≤ 10000000000) :
    Calls Tryd.prog 15 #[v] w (BoolPost (canB s) w) := by
  obtain ⟨a, cap, rfl, hcell⟩ := rows_open h
  have HB := hid hb
  obtain ⟨n, hn⟩ : ∃ n, n = s.length := ⟨_, rfl⟩
  rw [← hn] at hcell hs ⊢
  have HL := hid hn
  have HC := hid hcell
  clear h hb hcell hn
  go_enter Tryd.func15, Tryd.ntmps15
  go_wp2_with fail
  go_loopg [7] n (fun gg i wr => ∃ k : Nat, k + gg = n ∧ i = .int .i64 k ∧ allTo s k ∧ Below w.heap.size w wr ∧ w.heap.size ≤ wr.heap.size)
  case atStart => exact ⟨0, by omega, rfl, allTo_zero s, Below.refl _ _, Nat.le_refl _⟩
  case round =>
    obtain ⟨k, hk, rfl, hall, hbel, hsz⟩ := hrel
    have HA := hid hall
    clear hall
    cases gk with
    | zero =>
      have hlt : ¬ ((k : Int) < (n : Int)) := by omega
      have HE := hid (allTo_end HA.out (by rw [← HL.out]; omega))
      go_wp2_with fail
      go_ret
      exact ⟨ret_bool HE.out.symm, hbel⟩
    | succ g1 =>
      have hlt : k < n := by omega
      obtain ⟨b, off, rfl, hbl, hc⟩ := HC.out (by omega)
      have cell := fun j (hj : j < n) => iv_cells hc (k := j) (by rw [← HL.out]; exact hj)
      have bd := fun j (hj : j < n) => HB.out _ (nth_mem (k := j) (by rw [← HL.out]; exact hj))
      obtain ⟨c0, c1⟩ := cell k hlt
      have hx := bd k hlt
      have c0 := (hbel.cell (p := ⟨b, off + k * 2, none⟩) hbl).trans c0
      have c1 := (hbel.cell (p := ⟨b, off + k * 2 + 1, none⟩) hbl).trans c1
      have cell := hid cell
      have bd := hid bd
      have HNo := hid (fun h => allTo_no (s := s) (k := k) (by rw [← HL.out]; exact hlt) h)
      have HYes := hid (fun h => allTo_succ HA.out (k := k) h)
      have HO := hid (rfl : okAt s k = okAt s k)
      obtain ⟨x, hxe⟩ : ∃ x, x = nth s k := ⟨_, rfl⟩
      have hok : okAt s k = (decide (x.1 ≤ x.2) && (decide (k = 0) || decide ((nth s (k - 1)).2 + 1 < x.1))) := by rw [hxe]; rfl
      have HOK := hid hok
      rw [← hxe] at c0 c1 hx
      clear hxe hc HA HO hok
      by_cases he : x.2 < x.1
      · have HR := hid (HNo.out (by rw [HOK.out, decide_eq_false (show ¬ x.1 ≤ x.2 by omega)]; rfl))
        have hE := fun wx => isEmpty x wx
        rw [decide_eq_true he] at hE
        clear HNo HYes HOK he
        go_wp2_with fail
        have hb2 : Below w.heap.size w (wr.alloc (.cells #[.int .u32 (x.1 : Int), .int .u32 (x.2 : Int)] 45)) := hbel.alloc hsz _
        have ho2 := heap_new wr (.cells #[.int .u32 (x.1 : Int), .int .u32 (x.2 : Int)] 45 (0, 0))
        have hs2 := hb2.size
        generalize wr.alloc (.cells #[.int .u32 (x.1 : Int), .int .u32 (x.2 : Int)] 45) = w2 at *
        clear c0 c1
        have d0 := lat_0 ho2
        have d1 := lat_1 ho2
        refine wp_region_later w2.heap.size (by kernel_rfl) (by kernel_rfl) ?_
        repeat (go_big_quiet_step ((go_at_call 41; exact later_of (Nat.le_refl _) (hE _))))
        refine wpQuiet_nil ?_
        rintro _ ⟨u, rfl⟩
        have bel3 := u.h
        have hb3 := hb2.trans (bel3.mono hs2)
        clear d0 d1
        generalize u.w = w3 at *
        go_wp2
        go_ret
        exact ⟨ret_bool HR.out.symm, hb3⟩
      · have hE := fun wx => isEmpty x wx
        rw [decide_eq_false he] at hE
        cases k with
        | zero =>
          simp only [Nat.zero_mul, Nat.add_zero] at c0 c1
          have HY := hid (HYes.out (by rw [HOK.out, decide_eq_true (show x.1 ≤ x.2 by omega)]; rfl))
          clear HNo HYes HOK he
          go_wp2_with fail
          have hb2 : Below w.heap.size w (wr.alloc (.cells #[.int .u32 (x.1 : Int), .int .u32 (x.2 : Int)] 45)) := hbel.alloc hsz _
          have ho2 := heap_new wr (.cells #[.int .u32 (x.1 : Int), .int .u32 (x.2 : Int)] 45 (0, 0))
          have hs2 := hb2.size
          generalize wr.alloc (.cells #[.int .u32 (x.1 : Int), .int .u32 (x.2 : Int)] 45) = w2 at *
          clear c0 c1
          have d0 := lat_0 ho2
          have d1 := lat_1 ho2
          refine wp_region_later w2.heap.size (by kernel_rfl) (by kernel_rfl) ?_
          repeat (go_big_quiet_step ((go_at_call 41; exact later_of (Nat.le_refl _) (hE _))))
          refine wpQuiet_nil ?_
          rintro _ ⟨u, rfl⟩
          have bel3 := u.h
          have hb3 := hb2.trans (bel3.mono hs2)
          have hs3 := hb3.size
          clear d0 d1 
          generalize u.w = w3 at *
          go_wp2
          go_roundg g1
          case measure => omega
          case rel => exact ⟨1, by omega, by go_num, HY.out, hb3, hs3⟩
        | succ j =>
          obtain ⟨e0, e1⟩ := cell.out j (by omega)
          have hl := bd.out j (by omega)
          have e0 := (hbel.cell (p := ⟨b, off + j * 2, none⟩) hbl).trans e0
          have e1 := (hbel.cell (p := ⟨b, off + j * 2 + 1, none⟩) hbl).trans e1
          rw [show j + 1 - 1 = j by omega] at HOK
          obtain ⟨l, hle⟩ : ∃ l, l = nth s j := ⟨_, rfl⟩
          rw [← hle] at e0 e1 hl HOK
          clear hle cell bd
          have hG := fun wx => gap l x wx hl.2 hx.1
          have hbr : b < wr.heap.size := by omega
          cases hg : gapB l x with
          | true =>
            have HY := hid (HYes.out (by rw [HOK.out, decide_eq_true (show x.1 ≤ x.2 by omega)]; simpa [gapB] using hg))
            rw [hg] at hG
            clear HNo HYes HOK he hg
            go_wp2_with fail
            have hb2 : Below w.heap.size w (wr.alloc (.cells #[.int .u32 (x.1 : Int), .int .u32 (x.2 : Int)] 45)) := hbel.alloc hsz _
            have ho2 := heap_new wr (.cells #[.int .u32 (x.1 : Int), .int .u32 (x.2 : Int)] 45 (0, 0))
            have hs2 := hb2.size
            have e0 := (al1 wr (.cells #[.int .u32 (x.1 : Int), .int .u32 (x.2 : Int)] 45)).cell (p := ⟨b, off + j * 2, none⟩) hbr |>.trans e0
            have e1 := (al1 wr (.cells #[.int .u32 (x.1 : Int), .int .u32 (x.2 : Int)] 45)).cell (p := ⟨b, off + j * 2 + 1, none⟩) hbr |>.trans e1
            generalize wr.alloc (.cells #[.int .u32 (x.1 : Int), .int .u32 (x.2 : Int)] 45) = w2 at *
            clear c0 c1
            have d0 := lat_0 ho2
            have d1 := lat_1 ho2
            have e0 := later_cell (B := w2.heap.size) (w0 := w2) (Nat.lt_of_lt_of_le hbl hs2) e0
            have e1 := later_cell (B := w2.heap.size) (w0 := w2) (Nat.lt_of_lt_of_le hbl hs2) e1
            refine wp_region_later w2.heap.size (by kernel_rfl) (by kernel_rfl) ?_
            repeat (go_big_quiet_step ((first | (go_at_call 41; exact later_of (Nat.le_refl _) (hE _)) | (go_at_call 42; exact later_of (Nat.le_refl _) (hG _)))))
            refine wpQuiet_nil ?_
            rintro _ ⟨u, rfl⟩
            have bel3 := u.h
            have hb3 := hb2.trans (bel3.mono hs2)
            have hs3 := hb3.size
            clear d0 d1 e0 e1
            generalize u.w = w3 at *
            go_wp2
            go_roundg g1
            case measure => omega
            case rel => exact ⟨j + 1 + 1, by omega, by go_num, HY.out, hb3, hs3⟩
          | false =>
            have HR := hid (HNo.out (by rw [HOK.out, decide_eq_true (show x.1 ≤ x.2 by omega)]; simpa [gapB] using hg))
            rw [hg] at hG
            clear HNo HYes HOK he hg
            go_wp2_with fail
            have hb2 : Below w.heap.size w (wr.alloc (.cells #[.int .u32 (x.1 : Int), .int .u32 (x.2 : Int)] 45)) := hbel.alloc hsz _
            have ho2 := heap_new wr (.cells #[.int .u32 (x.1 : Int), .int .u32 (x.2 : Int)] 45 (0, 0))
            have hs2 := hb2.size
            have e0 := (al1 wr (.cells #[.int .u32 (x.1 : Int), .int .u32 (x.2 : Int)] 45)).cell (p := ⟨b, off + j * 2, none⟩) hbr |>.trans e0
            have e1 := (al1 wr (.cells #[.int .u32 (x.1 : Int), .int .u32 (x.2 : Int)] 45)).cell (p := ⟨b, off + j * 2 + 1, none⟩) hbr |>.trans e1
            generalize wr.alloc (.cells #[.int .u32 (x.1 : Int), .int .u32 (x.2 : Int)] 45) = w2 at *
            clear c0 c1
            have d0 := lat_0 ho2
            have d1 := lat_1 ho2
            have e0 := later_cell (B := w2.heap.size) (w0 := w2) (Nat.lt_of_lt_of_le hbl hs2) e0
            have e1 := later_cell (B := w2.heap.size) (w0 := w2) (Nat.lt_of_lt_of_le hbl hs2) e1
            refine wp_region_later w2.heap.size (by kernel_rfl) (by kernel_rfl) ?_
            repeat (go_big_quiet_step ((first | (go_at_call 41; exact later_of (Nat.le_refl _) (hE _)) | (go_at_call 42; exact later_of (Nat.le_refl _) (hG _)))))
            refine wpQuiet_nil ?_
            rintro _ ⟨u, rfl⟩
            have bel3 := u.h
            have hb3 := hb2.trans (bel3.mono hs2)
            have hs3 := hb3.size
            clear d0 d1 e0 e1
            generalize u.w = w3 at *
            go_wp2
            go_ret
            exact ⟨ret_bool HR.out.symm, hb3⟩
end Go.Proofs.YtmcoccfbbhnmfaaDoor.Iw
