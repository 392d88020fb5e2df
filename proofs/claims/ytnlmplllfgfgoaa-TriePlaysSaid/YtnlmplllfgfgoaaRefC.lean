/-
  THE REFERENCE TABLE's Covering.
-/
import Derived.Test.YtnlmplllfgfgoaaRefB
import Derived.Deep.RegionWith
namespace Go.Proofs.Ytnlmplllfgfgoaa.Ad
set_option linter.unusedSimpArgs false
set_option linter.unusedVariables false
open Go.RowKit Am Kt Tp Tm Tr

def mid (L : List En) (p : Px) (n i : Nat) : List Px := ((covF L p).filter (fun x => decide (x.1.2 < n)) ++ (L.take i).filter (fun x => decide (x.1.2 = n) && covB x.1.1 x.1.2 p.1 p.2)).map (·.1)
theorem mid_start (L : List En) (p : Px) : mid L p 0 0 = [] := by unfold mid; rw [cov_none]; rfl
theorem mid_end {L : List En} (hs : Srt L) (ho : Oks L) (p : Px) (n : Nat) : mid L p n L.length = mid L p (n + 1) 0 := by
  unfold mid; rw [List.take_length, cov_next L hs ho p n]; simp
theorem mid_all {L : List En} (ho : Oks L) (p : Px) : mid L p 33 0 = (covF L p).map (·.1) := by
  unfold mid; rw [cov_all ho]; simp
theorem mid_no {L : List En} {p : Px} {n i : Nat} {x : En} (h : L[i]? = some x) (hc : (decide (x.1.2 = n) && covB x.1.1 x.1.2 p.1 p.2) = false) : mid L p n (i + 1) = mid L p n i := by
  unfold mid; rw [take_snoc h, List.filter_append]; simp [hc]
theorem mid_yes {L : List En} {p : Px} {n i : Nat} {x : En} (h : L[i]? = some x) (h1 : x.1.2 = n) (h2 : covB x.1.1 x.1.2 p.1 p.2 = true) : mid L p n (i + 1) = mid L p n i ++ [x.1] := by
  unfold mid; rw [take_snoc h, List.filter_append, ← List.append_assoc, List.map_append]
  have : [x].filter (fun x => decide (x.1.2 = n) && covB x.1.1 x.1.2 p.1 p.2) = [x] := List.filter_eq_self.2 (fun z hz => by rw [List.mem_singleton] at hz; rw [hz]; simp [h1]; rw [← h1]; exact h2)
  rw [this]; rfl
theorem mid_len {L : List En} {p : Px} {n i : Nat} : (mid L p n i).length ≤ 2 * L.length := by
  unfold mid covF
  rw [List.length_map, List.length_append]
  have h1 := List.length_filter_le (fun x : En => decide (x.1.2 < n)) (L.filter fun x => covB x.1.1 x.1.2 p.1 p.2)
  have h2 := List.length_filter_le (fun x : En => covB x.1.1 x.1.2 p.1 p.2) L
  have h3 := List.length_filter_le (fun x : En => decide (x.1.2 = n) && covB x.1.1 x.1.2 p.1 p.2) (L.take i)
  have h4 : (L.take i).length ≤ L.length := by simp; omega
  omega

set_option maxHeartbeats 2000000 in
theorem refCov_no (n0 mb : Nat) (v : Value) (L : List En) (a : Nat) (n : Int) (w : World) (ha : a < 4294967296) (hv : validB a n = false) :
    Calls Try.prog 17 #[pt mb, px a n] w (CovPost w (covsV L a n)) := by
  have hV := fun wx => refValid a n wx ha
  rw [hv] at hV
  rw [covsV_no hv]
  clear hv
  go_enter Try.func17, Try.ntmps17
  have x0 := heap_new w (.cells #[.int .u32 (a : Int), .int .i64 n] 31)
  obtain ⟨⟨z0, z1⟩, _⟩ := blk_two x0
  go_wp2_with (go_at_call 26; refine (hV _).mono ?_; rintro e w1 ⟨rfl, b1⟩)
  go_ret
  exact ⟨_, rfl, rows_nil, then_ (al1 w _) b1⟩

set_option maxHeartbeats 8000000 in
set_option maxRecDepth 100000 in
theorem refCov_yes (n0 mb : Nat) (v : Value) (L : List En) (a q : Nat) (w : World) (h : Ref w n0 mb v L) (hs : Srt L) (ho : Oks L) (hp : OkP (a, q)) (hl : L.length ≤ 1000000) :
    Calls Try.prog 17 #[pt mb, px a (q : Int)] w (CovPost w (covsV L a (q : Int))) := by
  have ha : a < 4294967296 := hp.2.2
  have hv := valid_of_ok hp
  have hV := fun wx => refValid a (q : Int) wx ha
  simp only at hv
  rw [hv] at hV
  obtain ⟨m, hm⟩ : ∃ m, m = L.length := ⟨_, rfl⟩
  obtain ⟨p1, cap, rfl, hnc, X⟩ := rows_open (by decide) (rows_own h.row)
  rw [← hm] at hl h
  rw [← hm] at X hnc
  have c0 := h.cell
  have hmb := blk_lt h.box
  have HM := hid hm
  have HX := hid X
  have HS := hid hs
  have HO := hid ho
  have C0 := hid c0
  have HR := hid (show covsV L a (q : Int) = mid L (a, q) 33 0 by rw [covsV_yes hv, Int.toNat_natCast, mid_all ho])
  clear h X hm hs ho c0 hv
  go_enter Try.func17, Try.ntmps17
  have x0 := heap_new w (.cells #[.int .u32 (a : Int), .int .i64 (q : Int)] 31)
  obtain ⟨⟨z0, z1⟩, _⟩ := blk_two x0
  have al := al1 w (.cells #[.int .u32 (a : Int), .int .i64 (q : Int)] 31)
  have hmb2 := Nat.lt_of_lt_of_le hmb al.size
  have C1 := hid ((al.cell (p := ⟨mb, 0, none⟩) hmb).trans C0.out)
  have AL := hid al
  have X0 := hid x0
  clear al x0
  go_wp2_with (go_at_call 26; refine (hV _).mono ?_; rintro e w1 ⟨rfl, b1⟩)
  have al := then_ AL.out b1
  have hmb3 := Nat.lt_of_lt_of_le hmb2 b1.size
  have C2 := hid ((b1.cell (p := ⟨mb, 0, none⟩) hmb2).trans C1.out)
  have X1 := hid (blk_keep X0.out b1)
  have AL1 := hid al
  have HV := hid hV
  obtain ⟨i0, hi0, hz0, hz1, hz2⟩ := info_parts pxInfo
  clear al z0 z1 C0 C1 X0 AL hmb hmb2 b1 hV
  go_loopg [5, 6] 33 (fun gg ov nv wr => ∃ (k : Nat) (vo : Value), k + gg = 33 ∧ ov = vo ∧ nv = .int .i64 k ∧ Hid (wr.ownsRow w1.heap.size 31 2 vo (mid L (a, q) k 0).length (fl ePx (mid L (a, q) k 0))) ∧ Below w1.heap.size w1 wr)
  case atStart => exact ⟨0, _, by omega, rfl, rfl, (by rw [mid_start]; exact World.ownsRow_nil _ _ _ _), Below.refl _ _⟩
  case round =>
    obtain ⟨k, vo, hk, rfl, rfl, hown, hbel⟩ := hrel
    cases gk with
    | zero =>
      obtain rfl : k = 33 := by omega
      have AL2 := hid (then_ AL1.out hbel)
      clear hbel
      go_wp2_with fail
      go_ret
      rw [HR.out]
      exact ⟨_, rfl, rows_own hown.out, AL2.out⟩
    | succ g1 =>
      have hk32 : (k : Int) ≤ 32 := by omega
      have HB := hid hbel
      clear hbel
      go_wp2_with fail
      go_loopg [5, 7] m (fun gg ov iv wr => ∃ (i : Nat) (vi : Value), i + gg = m ∧ ov = vi ∧ iv = .int .i64 i ∧ Hid (wr.ownsRow w1.heap.size 31 2 vi (mid L (a, q) k i).length (fl ePx (mid L (a, q) k i))) ∧ Below w1.heap.size w1 wr)
      case atStart => exact ⟨0, _, by omega, rfl, rfl, hown, HB.out⟩
      case round =>
        obtain ⟨i, vi, hi, rfl, rfl, hown, hbel⟩ := hrel
        have hbl := hid hbel
        have c0 := (hbel.cell (p := ⟨mb, 0, none⟩) hmb3).trans C2.out
        cases gk with
        | zero =>
          have hlt : ¬ ((i : Int) < (m : Int)) := by omega
          clear hbel
          go_wp2_with fail
          go_roundg g1
          case measure => omega
          case rel => exact ⟨k + 1, _, by omega, rfl, by go_num, (by have := hown.out; rw [show i = L.length by have := HM.out; omega, mid_end HS.out HO.out] at this; exact this), hbl.out⟩
        | succ g2 =>
          have hkn : i < m := by omega
          have hlt : (i : Int) < (m : Int) := by omega
          obtain ⟨b6, off6, rfl, hbl6, hc6⟩ := HX.out (by omega)
          obtain ⟨y, hye⟩ : ∃ y, y = (L[i]'(by rw [← HM.out]; exact hkn)) := ⟨_, rfl⟩
          have hly : L[i]? = some y := by rw [hye]; exact List.getElem?_eq_getElem _
          obtain ⟨d0, d1, _⟩ := eEn_cells hc6 hly
          have HB2 := hid (AL1.out.trans (hbel.mono AL1.out.size))
          have hs6 := Nat.lt_of_lt_of_le hbl6 HB2.out.size
          have hmb4 := Nat.lt_of_lt_of_le hmb3 hbel.size
          have D0 := hid ((HB2.out.cell (p := ⟨b6, off6 + i * 3, none⟩) hbl6).trans d0)
          have D1 := hid ((HB2.out.cell (p := ⟨b6, off6 + i * 3 + 1, none⟩) hbl6).trans d1)
          have f0 := later_cell (B := wr.heap.size) (p := ⟨b6, off6 + i * 3, none⟩) hs6 D0.out
          have f1 := later_cell (B := wr.heap.size) (p := ⟨b6, off6 + i * 3 + 1, none⟩) hs6 D1.out
          have c1 := later_cell (B := wr.heap.size) (p := ⟨mb, 0, none⟩) hmb4 c0
          have X5 := hid (blk_keep X1.out hbel)
          have hx5 := blk_lt X5.out
          have x0 := later_cell (B := wr.heap.size) hx5 (blk_two X5.out).1.1
          have x1 := later_cell (B := wr.heap.size) hx5 (blk_two X5.out).1.2
          clear hbel hye hc6 d0 d1
          by_cases hyk : y.1.2 = k
          · cases hcv : covB y.1.1 y.1.2 a q with
            | false => 
              have hn := mid_no (p := (a, q)) (n := k) hly (by rw [hcv]; simp)
              have hup := hid (show wr.ownsRow w1.heap.size 31 2 u5 (mid L (a, q) k (i + 1)).length (fl ePx (mid L (a, q) k (i + 1))) by rw [hn]; exact hown.out)
              have hcc := fun wx => refCovers y.1.1 (y.1.2 : Int) a (q : Int) wx ha
              rw [hcv, hyk] at hcc
              rw [hyk] at f1
              clear hn hcv hyk hly
              go_wp2_with fail
              refine wp_region_later wr.heap.size (by kernel_rfl) (by kernel_rfl) ?_
              repeat (go_big_quiet_step (first | (go_at_call 27; exact later_of (Nat.le_refl _) (hcc _)) | fail))
              refine wpQuiet_nil ?_
              rintro _ ⟨u, rfl⟩
              have B7 := hid (hbl.out.trans (u.h.mono hbl.out.size))
              have hup2 := hid (own_keep hup.out u.h)
              go_wp2
              go_roundg g2
              case measure => omega
              case rel => exact ⟨i + 1, _, by omega, rfl, by go_num, hup2.out, B7.out⟩
            | true =>
              have hn := mid_yes (p := (a, q)) hly hyk hcv
              have HN := hid hn
              have hcc := fun wx => refCovers y.1.1 (y.1.2 : Int) a (q : Int) wx ha
              rw [hcv, hyk] at hcc
              rw [hyk] at f1
              rw [hyk] at D1
              have hml : (mid L (a, q) k i).length ≤ 10000000000 := by have := mid_len (L := L) (p := (a, q)) (n := k) (i := i); have := HM.out; omega
              have HYK := hid hyk
              clear hn hcv hyk hly
              go_wp2_with fail
              refine wp_region_later wr.heap.size (by kernel_rfl) (by kernel_rfl) ?_
              repeat (go_big_quiet_step (first | (go_at_call 27; exact later_of (Nat.le_refl _) (hcc _)) | fail))
              refine wpQuiet_nil ?_
              rintro _ ⟨u, rfl⟩
              have b7 := hbl.out.trans (u.h.mono hbl.out.size)
              have own7 := own_keep hown.out u.h
              have s7 := b7.size
              have e0 := (u.h.cell (p := ⟨b6, off6 + i * 3, none⟩) hs6).trans D0.out
              have e1 := (u.h.cell (p := ⟨b6, off6 + i * 3 + 1, none⟩) hs6).trans D1.out
              have ec := c1 u
              clear f0 f1 c1 x0 x1 c0
              go_wp2_with (at_builtin; refine app1 rfl _ _ _ rfl 31 i0 _ 2 16 Try.underlying40 hi0 hz0 hz1 hz2 rfl (by decide) (by decide) w1.heap.size w1 u.w u5 (mid L (a, q) k i).length (fl ePx (mid L (a, q) k i)) [.int .u32 (y.1.1 : Int), .int .i64 (k : Int)] rfl own7 b7 s7 rfl rfl (by simp [Value.oneCell']) hml ?_; intro v8 w8 own8 bel8 hs8 keep8)
              have own9 : w8.ownsRow w1.heap.size 31 2 v8 (mid L (a, q) k (i + 1)).length (fl ePx (mid L (a, q) k (i + 1))) := by
                rw [HN.out, fl_append, fl_one, List.length_append]
                unfold ePx
                rw [HYK.out]
                exact own8
              go_roundg g2
              case measure => omega
              case rel => exact ⟨i + 1, _, by omega, rfl, by go_num, own9, bel8⟩
          · have hne : ((y.1.2 : Int) == (k : Int)) = false := by simp; omega
            have hn := mid_no (p := (a, q)) (n := k) hly (by simp [hyk])
            have hup := hid (show wr.ownsRow w1.heap.size 31 2 u5 (mid L (a, q) k (i + 1)).length (fl ePx (mid L (a, q) k (i + 1))) by rw [hn]; exact hown.out)
            clear hn hyk hly
            go_wp2_with fail
            refine wp_region_later wr.heap.size (by kernel_rfl) (by kernel_rfl) ?_
            repeat (go_big_quiet_step (fail))
            refine wpQuiet_nil ?_
            rintro _ ⟨u, rfl⟩
            have B7 := hid (hbl.out.trans (u.h.mono hbl.out.size))
            have hup2 := hid (own_keep hup.out u.h)
            go_wp2
            go_roundg g2
            case measure => omega
            case rel => exact ⟨i + 1, _, by omega, rfl, by go_num, hup2.out, B7.out⟩

theorem refCov (n0 mb : Nat) (v : Value) (L : List En) (a : Nat) (n : Int) (w : World) (h : Ref w n0 mb v L) (hs : Srt L) (ho : Oks L) (ha : a < 4294967296) (hl : L.length ≤ 1000000) :
    Calls Try.prog 17 #[pt mb, px a n] w (CovPost w (covsV L a n)) := by
  cases hv : validB a n with
  | false => exact refCov_no n0 mb v L a n w ha hv
  | true =>
    obtain ⟨hok, hn⟩ := okp_valid ha hv
    have := refCov_yes n0 mb v L a n.toNat w h hs ho hok hl
    rwa [← hn] at this
end Go.Proofs.Ytnlmplllfgfgoaa.Ad
