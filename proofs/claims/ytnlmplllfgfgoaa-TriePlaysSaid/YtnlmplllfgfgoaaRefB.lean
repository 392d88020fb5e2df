/-
  THE REFERENCE TABLE's Lookup AND Covering.
-/
import Derived.Test.YtnlmplllfgfgoaaRefA
namespace Go.Proofs.Ytnlmplllfgfgoaa.Ad
set_option linter.unusedSimpArgs false
set_option linter.unusedVariables false
open Go.RowKit Am Kt Tp Tm Tr

theorem take_snoc {α : Type} {l : List α} {k : Nat} {x : α} (h : l[k]? = some x) : l.take (k + 1) = l.take k ++ [x] := by rw [List.take_add_one, h]; rfl
theorem conF_no {L : List En} {a k : Nat} {x : En} (h : L[k]? = some x) (hc : contB x.1.1 x.1.2 a = false) : conF (L.take (k + 1)) a = conF (L.take k) a := by
  rw [take_snoc h]; unfold conF; rw [List.filter_append]; simp [hc]
theorem conF_yes {L : List En} {a k : Nat} {x : En} (h : L[k]? = some x) (hc : contB x.1.1 x.1.2 a = true) : conF (L.take (k + 1)) a = conF (L.take k) a ++ [x] := by
  rw [take_snoc h]; unfold conF; rw [List.filter_append]; simp [hc]
/-- A later one that contains the address is longer. -/
theorem con_more {L : List En} (hs : Srt L) (ho : Oks L) {a k : Nat} {x z : En} (h : L[k]? = some x) (hc : contB x.1.1 x.1.2 a = true) (hz : (conF (L.take k) a).getLast? = some z) : z.1.2 < x.1.2 := by
  have h1 := con_srt (L := L.take (k + 1)) (hs.sublist (List.take_sublist _ _)) (fun y hy => ho y (List.mem_of_mem_take hy)) a
  rw [conF_yes h hc, List.pairwise_append] at h1
  exact h1.2.2 z (List.mem_of_getLast? hz) x (by simp)
/-- The best one so far: its index, or -1. -/
def Best (L : List En) (a k : Nat) (b : Int) : Prop := (b = -1 ∧ conF (L.take k) a = []) ∨ ∃ (j : Nat) (z : En), b = j ∧ j < k ∧ L[j]? = some z ∧ (conF (L.take k) a).getLast? = some z

set_option maxHeartbeats 8000000 in
set_option maxRecDepth 100000 in
theorem refLook (n0 mb : Nat) (v : Value) (L : List En) (a : Nat) (w : World) (h : Ref w n0 mb v L) (hs : Srt L) (ho : Oks L) (ha : a < 4294967296) (hl : L.length ≤ 1000000) :
    Calls Try.prog 14 #[pt mb, .int .u32 (a : Int)] w (LookPost w (lookV L a)) := by
  obtain ⟨m, hm⟩ : ∃ m, m = L.length := ⟨_, rfl⟩
  obtain ⟨p1, cap, rfl, hnc, X⟩ := rows_open (by decide) (rows_own h.row)
  rw [← hm] at hl h
  rw [← hm] at X hnc
  have c0 := h.cell
  have hmb := blk_lt h.box
  have HM := hid hm
  have HX := hid X
  have HS := hid hs
  have HO := hid ho
  have C0 := hid c0
  clear h X hm hs ho c0
  go_enter Try.func14, Try.ntmps14
  have c0 := C0.out
  have al := al1 w (.cells #[.int .u32 0, .int .i64 0] 31)
  have hmb2 := Nat.lt_of_lt_of_le hmb al.size
  have C1 := hid ((al.cell (p := ⟨mb, 0, none⟩) hmb).trans C0.out)
  have X0 := hid (heap_new w (.cells #[.int .u32 0, .int .i64 0] 31))
  have AL := hid al
  clear al c0
  go_wp2_with fail
  go_loopg [7, 8] m (fun gg bv iv wr => ∃ (k : Nat) (b : Int), k + gg = m ∧ bv = .int .i64 b ∧ iv = .int .i64 k ∧ Below (w.alloc (.cells #[.int .u32 0, .int .i64 0] 31)).heap.size (w.alloc (.cells #[.int .u32 0, .int .i64 0] 31)) wr ∧ Hid (Best L a k b))
  case atStart => exact ⟨0, -1, by omega, rfl, rfl, Below.refl _ _, .inl ⟨rfl, rfl⟩⟩
  case round =>
    obtain ⟨k, b, hk, rfl, rfl, hbel, hbst⟩ := hrel
    have c0 := (hbel.cell (p := ⟨mb, 0, none⟩) hmb2).trans C1.out
    have X4 := hid (blk_keep X0.out hbel)
    have hmb3 := Nat.lt_of_lt_of_le hmb2 hbel.size
    cases gk with
    | zero =>
      have hlt : ¬ ((k : Int) < (m : Int)) := by omega
      rcases hbst.out with ⟨rfl, hn⟩ | ⟨j, z, rfl, hj, hz, hg⟩
      · have hlk : lookV L a = none := by
          unfold lookV
          rw [show k = L.length by have := HM.out; omega, List.take_length] at hn
          rw [hn]; rfl
        obtain ⟨⟨x0, x1⟩, _⟩ := blk_two X4.out
        have HB := hid (then_ AL.out hbel)
        have HLK := hid hlk
        clear hbel hlk hn hbst
        go_wp2_with fail
        refine bodyPost_ret (v := .tuple #[px 0 0, .int .i64 0, .bool false]) (by simp [results, Try.f14, go_sem, x0, x1]) rfl ?_
        rw [HLK.out]
        exact ⟨rfl, (HB.out.setCell (p := ⟨w.heap.size, 0, none⟩) (Nat.le_refl _) _).setCell (p := ⟨w.heap.size, 1, none⟩) (Nat.le_refl _) _⟩
      · have hlk : lookV L a = some z := by
          unfold lookV
          rw [show k = L.length by have := HM.out; omega, List.take_length] at hg
          exact hg
        have HLK := hid hlk
        have hjm : j < m := by omega
        have hj0 : decide ((j : Int) < 0) = false := decide_eq_false (by omega)
        have hjm2 : (j : Int) < (m : Int) := by omega
        obtain ⟨b6, off6, rfl, hbl6, hc6⟩ := HX.out (by omega)
        obtain ⟨d0, d1, d2⟩ := eEn_cells hc6 hz
        have HB := hid (then_ AL.out hbel)
        have d0 := (HB.out.cell (p := ⟨b6, off6 + j * 3, none⟩) hbl6).trans d0
        have d1 := (HB.out.cell (p := ⟨b6, off6 + j * 3 + 1, none⟩) hbl6).trans d1
        have d2 := (HB.out.cell (p := ⟨b6, off6 + j * 3 + 2, none⟩) hbl6).trans d2
        obtain ⟨⟨x0, x1⟩, _⟩ := blk_two X4.out
        clear hbel hlk hg hbst hc6 hz
        go_wp2_with fail
        go_region
        go_wp2
        have hres : ((wr.setCell ⟨w.heap.size, 0, none⟩ (.int .u32 (z.1.1 : Int))).setCell ⟨w.heap.size, 1, none⟩ (.int .i64 (z.1.2 : Int))).heap[w.heap.size]? = some (.cells #[.int .u32 (z.1.1 : Int), .int .i64 (z.1.2 : Int)] 31 (0, 0)) := two_set X4.out
        have hb2 : Below w.heap.size w ((wr.setCell ⟨w.heap.size, 0, none⟩ (.int .u32 (z.1.1 : Int))).setCell ⟨w.heap.size, 1, none⟩ (.int .i64 (z.1.2 : Int))).drew := ((HB.out.setCell (p := ⟨w.heap.size, 0, none⟩) (Nat.le_refl _) (.int .u32 (z.1.1 : Int))).setCell (p := ⟨w.heap.size, 1, none⟩) (Nat.le_refl _) (.int .i64 (z.1.2 : Int))).drew
        have hres' : ((wr.setCell ⟨w.heap.size, 0, none⟩ (.int .u32 (z.1.1 : Int))).setCell ⟨w.heap.size, 1, none⟩ (.int .i64 (z.1.2 : Int))).drew.heap[w.heap.size]? = some (.cells #[.int .u32 (z.1.1 : Int), .int .i64 (z.1.2 : Int)] 31 (0, 0)) := hres
        obtain ⟨⟨r0, r1⟩, _⟩ := blk_two hres'
        clear hres
        generalize ((wr.setCell ⟨w.heap.size, 0, none⟩ (.int .u32 (z.1.1 : Int))).setCell ⟨w.heap.size, 1, none⟩ (.int .i64 (z.1.2 : Int))).drew = W5 at *
        go_wp2
        refine bodyPost_ret (v := .tuple #[px z.1.1 (z.1.2 : Int), .int .i64 z.2, .bool true]) (by simp [results, Try.f14, go_sem, r0, r1]) rfl ?_
        rw [HLK.out]
        exact ⟨rfl, hb2⟩
    | succ g1 =>
      have hkn : k < m := by omega
      have hlt : (k : Int) < (m : Int) := by omega
      obtain ⟨b6, off6, rfl, hbl6, hc6⟩ := HX.out (by omega)
      obtain ⟨y, hye⟩ : ∃ y, y = (L[k]'(by rw [← HM.out]; exact hkn)) := ⟨_, rfl⟩
      have hly : L[k]? = some y := by rw [hye]; exact List.getElem?_eq_getElem _
      obtain ⟨d0, d1, _⟩ := eEn_cells hc6 hly
      have HB := hid (then_ AL.out hbel)
      have hs6 := Nat.lt_of_lt_of_le hbl6 HB.out.size
      have f0 := later_cell (B := wr.heap.size) (p := ⟨b6, off6 + k * 3, none⟩) hs6 ((HB.out.cell (p := ⟨b6, off6 + k * 3, none⟩) hbl6).trans d0)
      have f1 := later_cell (B := wr.heap.size) (p := ⟨b6, off6 + k * 3 + 1, none⟩) hs6 ((HB.out.cell (p := ⟨b6, off6 + k * 3 + 1, none⟩) hbl6).trans d1)
      have c1 := later_cell (B := wr.heap.size) (p := ⟨mb, 0, none⟩) hmb3 c0
      have hcn := fun wx => refContains y.1.1 (y.1.2 : Int) a wx ha
      have HBL := hid hbel
      cases hct : contB y.1.1 y.1.2 a with
      | false =>
        rw [hct] at hcn
        have hup := hid (show Best L a (k + 1) b from by
          rcases hbst.out with ⟨e, h⟩ | ⟨j, z, e, h1, h2, h3⟩
          · exact .inl ⟨e, by rw [conF_no hly hct]; exact h⟩
          · exact .inr ⟨j, z, e, by omega, h2, by rw [conF_no hly hct]; exact h3⟩)
        clear hct hbst hbel hye hly hc6 d0 d1
        go_wp2_with fail
        refine wp_region_later wr.heap.size (by kernel_rfl) (by kernel_rfl) ?_
        repeat (go_big_quiet_step (first | (go_at_call 25; exact later_of (Nat.le_refl _) (hcn _)) | fail))
        refine wpQuiet_nil ?_
        rintro _ ⟨u, rfl⟩
        have B7 := hid (HBL.out.trans (u.h.mono HBL.out.size))
        go_wp2
        go_roundg g1
        case measure => omega
        case rel => exact ⟨k + 1, b, by omega, rfl, by go_num, B7.out, hup⟩
      | true =>
        rw [hct] at hcn
        have hup := hid (show Best L a (k + 1) (k : Int) from .inr ⟨k, y, rfl, by omega, hly, by rw [conF_yes hly hct]; simp⟩)
        rcases hbst.out with ⟨rfl, h⟩ | ⟨j, z, rfl, h1, h2, h3⟩
        · clear hct hbst hbel hye hly hc6 d0 d1 h
          go_wp2_with fail
          refine wp_region_later wr.heap.size (by kernel_rfl) (by kernel_rfl) ?_
          repeat (go_big_quiet_step (first | (go_at_call 25; exact later_of (Nat.le_refl _) (hcn _)) | fail))
          refine wpQuiet_nil ?_
          rintro _ ⟨u, rfl⟩
          have B7 := hid (HBL.out.trans (u.h.mono HBL.out.size))
          go_wp2
          go_roundg g1
          case measure => omega
          case rel => exact ⟨k + 1, k, by omega, rfl, by go_num, B7.out, hup⟩
        · have hmore := con_more HS.out HO.out hly hct h3
          have hgt : (y.1.2 : Int) > (z.1.2 : Int) := by omega
          have hjm2 : (j : Int) < (m : Int) := by omega
          have hj0 : decide ((j : Int) < 0) = false := decide_eq_false (by omega)
          obtain ⟨_, e1, _⟩ := eEn_cells hc6 h2
          have f2 := later_cell (B := wr.heap.size) (p := ⟨b6, off6 + j * 3 + 1, none⟩) hs6 ((HB.out.cell (p := ⟨b6, off6 + j * 3 + 1, none⟩) hbl6).trans e1)
          clear hct hbst hbel hye hly hc6 d0 d1 h1 h2 h3 e1 hmore
          go_wp2_with fail
          refine wp_region_later wr.heap.size (by kernel_rfl) (by kernel_rfl) ?_
          repeat (go_big_quiet_step (first | (go_at_call 25; exact later_of (Nat.le_refl _) (hcn _)) | fail))
          refine wpQuiet_nil ?_
          rintro _ ⟨u, rfl⟩
          have B7 := hid (HBL.out.trans (u.h.mono HBL.out.size))
          go_wp2
          go_roundg g1
          case measure => omega
          case rel => exact ⟨k + 1, k, by omega, rfl, by go_num, B7.out, hup⟩
end Go.Proofs.Ytnlmplllfgfgoaa.Ad
