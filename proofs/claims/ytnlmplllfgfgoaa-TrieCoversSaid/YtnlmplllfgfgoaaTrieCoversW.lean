/-
  THE WALK OF TrieCovers.
-/
import Derived.Test.YtnlmplllfgfgoaaTriY
namespace Go.Proofs.Ytnlmplllfgfgoaa.Ad
set_option linter.unusedSimpArgs false
set_option linter.unusedVariables false
open Go.RowKit Am Kt Tp Tm Tr

/-! ### Plain facts -/
theorem cov_srt {L : List En} (hs : Srt L) (ho : Oks L) (p : Px) : (covF L p).Pairwise fun x y => x.1.2 < y.1.2 := by
  have h : Srt (covF L p) := hs.filter _
  unfold Srt at h
  refine h.imp_of_mem ?_
  intro x y hx hy hxy
  unfold covF at hx hy
  rw [List.mem_filter] at hx hy
  have cx : contB x.1.1 x.1.2 p.1 = true := by have := hx.2; unfold covB at this; simp at this; exact this.2
  have cy : contB y.1.1 y.1.2 p.1 = true := by have := hy.2; unfold covB at this; simp at this; exact this.2
  exact (cov_lt (ho x hx.1) (ho y hy.1) cx cy).1 hxy
theorem cov_up {L : List En} (hs : Srt L) (ho : Oks L) (p : Px) {i : Nat} {x y : En} (hx : (covF L p)[i]? = some x) (hy : (covF L p)[i + 1]? = some y) : x.1.2 < y.1.2 := by
  obtain ⟨h1, rfl⟩ := List.getElem?_eq_some_iff.1 hx
  obtain ⟨h2, rfl⟩ := List.getElem?_eq_some_iff.1 hy
  exact List.pairwise_iff_getElem.1 (cov_srt hs ho p) i (i + 1) h1 h2 (by omega)
theorem cov_in {L : List En} {p : Px} {i : Nat} {x : En} (hx : (covF L p)[i]? = some x) : x ∈ L ∧ covB x.1.1 x.1.2 p.1 p.2 = true := by
  have := List.mem_of_getElem? hx
  unfold covF at this
  rwa [List.mem_filter] at this
theorem covF_snoc {L : List En} {p : Px} {k : Nat} {x : En} (hx : L[k]? = some x) : (covF (L.take (k + 1)) p).length = (covF (L.take k) p).length + if covB x.1.1 x.1.2 p.1 p.2 = true then 1 else 0 := by
  have : L.take (k + 1) = L.take k ++ [x] := by rw [List.take_add_one, hx]; rfl
  rw [this]
  unfold covF
  rw [List.filter_append, List.length_append]
  by_cases h : covB x.1.1 x.1.2 p.1 p.2 = true <;> simp [h]
theorem covF_le (L : List En) (p : Px) (k : Nat) : (covF (L.take k) p).length ≤ k := by
  unfold covF
  exact Nat.le_trans (List.length_filter_le _ _) (by simp; omega)
theorem host_ok (a : Nat) : validB a ((32 : Nat) : Int) = true := by
  rw [valid_iff, cl_nat _ (by decide)]
  exact ⟨by omega, by simp [blk, Nat.mod_one]⟩

set_option maxHeartbeats 1000000 in
theorem covers_big (v : Value) (n : Nat) (xs : List Value) (a : Nat) (m : Int) (w : World) (h : Tm.Rows w 3 v n xs) (hn : 40 < n) :
    Calls Try.prog 6 #[v, px a m] w (BoolPost true w) := by
  obtain ⟨p1, cap, rfl, hnc, X⟩ := rows_open (by decide) h
  clear h X
  go_enter Try.func6, Try.ntmps6
  go_wp2_with fail
  go_ret
  exact ⟨rfl, al1 w _⟩
set_option maxHeartbeats 1000000 in
theorem covers_bad (v : Value) (n : Nat) (xs : List Value) (a : Nat) (m : Int) (w : World) (h : Tm.Rows w 3 v n xs) (hn : n ≤ 40) (ha : a < 4294967296) (hv : validB a m = false) :
    Calls Try.prog 6 #[v, px a m] w (BoolPost true w) := by
  have hV := fun wx => refValid a m wx ha
  rw [hv] at hV
  obtain ⟨p1, cap, rfl, hnc, X⟩ := rows_open (by decide) h
  clear h X hv
  go_enter Try.func6, Try.ntmps6
  go_wp2_with (go_at_call 26; refine (hV _).mono ?_; rintro e w1 ⟨rfl, b1⟩)
  go_ret
  exact ⟨rfl, then_ (al1 w _) b1⟩

set_option maxHeartbeats 8000000 in
set_option maxRecDepth 100000 in
theorem covers_main (v : Value) (l : List REn) (a q : Nat) (w : World) (h : IsRow rEn 3 w v l) (hbd : BdE l) (hl : l.length ≤ 40) (hp : OkP (a, q)) :
    Calls Try.prog 6 #[v, px a (q : Int)] w (BoolPost true w) := by
  have ha : a < 4294967296 := hp.2.2
  have hv := valid_of_ok hp
  have hV := fun wx => refValid a (q : Int) wx ha
  simp only at hv
  rw [hv] at hV
  have hB := fun wx (h : IsRow rEn 3 wx v l) => built v l wx h hbd (by omega)
  have hSn : ∀ wx, Calls Try.prog 23 #[] wx fun e w' => e = .returned (.bool true) ∧ Below wx.heap.size wx w' := fun wx => sane wx
  obtain ⟨L, hL⟩ : ∃ L, L = bldL l := ⟨_, rfl⟩
  have hS : Srt L := by rw [hL]; exact bldL_srt l
  have hO : Oks L := by rw [hL]; exact bldL_oks hbd
  have hLl : L.length ≤ 40 := by rw [hL]; have := bldL_len l; omega
  obtain ⟨C, hC⟩ : ∃ C, C = covF L (a, q) := ⟨_, rfl⟩
  have hCl : C.length ≤ 40 := by rw [hC]; unfold covF; exact Nat.le_trans (List.length_filter_le _ _) hLl
  obtain ⟨m, hm⟩ : ∃ m, m = C.length := ⟨_, rfl⟩
  obtain ⟨m2, hm2⟩ : ∃ m2, m2 = L.length := ⟨_, rfl⟩
  have hm1 : m ≤ 40 := by omega
  have hm3 : m2 ≤ 40 := by omega
  have hCv := fun wx tb T (h : Tab wx tb T L) => cover tb a (q : Int) T L wx h ha
  rw [show covsV L a (q : Int) = C.map (·.1) by rw [covsV_yes hv, Int.toNat_natCast, hC]] at hCv
  have hCv2 := fun wx tb T (h : Tab wx tb T L) => cover tb a 32 T L wx h ha
  rw [show covsV L a 32 = (conF L a).map (·.1) by rw [show (32 : Int) = ((32 : Nat) : Int) from rfl, covsV_yes (host_ok a), con_cov hO]; rfl] at hCv2
  have hLk := fun wx tb T (h : Tab wx tb T L) => lookup tb a T L wx h ha
  have hEn := fun wx tb T (h : Tab wx tb T L) => entriesO tb T L wx h (by omega)
  have hG : ∀ wx tb T, Tab wx tb T L → ∀ y ∈ L, Calls Try.prog 11 #[pt tb, px y.1.1 y.1.2] wx fun e w' => e = .returned (.tuple #[.int .i64 y.2, .bool true]) ∧ Below wx.heap.size wx w' := fun wx tb T h y hy => by
    have := get tb y.1.1 y.1.2 T _ wx h (hO _ hy).2.2
    rw [getV_mem hS hO hy] at this
    exact this
  have hUp : ∀ i x y, C[i]? = some x → C[i + 1]? = some y → x.1.2 < y.1.2 := fun i x y hx hy => by rw [hC] at hx hy; exact cov_up hS hO _ hx hy
  have hIn : ∀ i x, C[i]? = some x → x ∈ L ∧ covB x.1.1 x.1.2 a q = true := fun i x hx => by rw [hC] at hx; exact cov_in hx
  obtain ⟨cnt, hcnt⟩ : ∃ cnt : Nat → Nat, cnt = fun k => (covF (L.take k) (a, q)).length := ⟨_, rfl⟩
  have H0 := hid (show cnt 0 = 0 by rw [hcnt]; rfl)
  have HS := hid (show ∀ k y, L[k]? = some y → cnt (k + 1) = cnt k + if covB y.1.1 y.1.2 a q = true then 1 else 0 from fun k y hy => by rw [hcnt]; exact covF_snoc hy)
  have HU := hid (show ∀ k, cnt k ≤ m2 from fun k => by
    rw [hcnt, hm2]; simp only; unfold covF; exact Nat.le_trans (List.length_filter_le _ _) (by simp; omega))
  have HE := hid (show cnt m2 = m by rw [hcnt, hm2, hm, hC]; simp)
  clear hcnt
  have hrow := h
  obtain ⟨n, hn⟩ : ∃ n, n = l.length := ⟨_, rfl⟩
  have h := row_n h hn
  obtain ⟨p1, cap, rfl, hnc, X⟩ := rows_open (by decide) h
  rw [← hn] at hl
  have HL := hid hL
  have HC := hid hC
  have HM := hid hm
  have HM2 := hid hm2
  have HG := hid hG
  have HR := hid hrow
  have HUp := hid hUp
  have HIn := hid hIn
  have HCv2 := hid hCv2
  have hFl : (conF L a).length ≤ 40 := by unfold conF; exact Nat.le_trans (List.length_filter_le _ _) hLl
  have HFl := hid hFl
  have HLk := hid hLk
  clear h X hn hbd hv hG hrow hLl hCl hL hC hm hm2 hUp hIn hCv2 hLk hFl
  go_enter Try.func6, Try.ntmps6
  have x0 := heap_new w (.cells #[.int .u32 (a : Int), .int .i64 (q : Int)] 31)
  obtain ⟨⟨z0, z1⟩, _⟩ := blk_two x0
  go_wp2_with (go_at_call 26; refine (hV _).mono ?_; rintro e w1 ⟨rfl, b1⟩)
  have B1 := hid (then_ (al1 w _) b1)
  have X1 := hid (blk_keep x0 b1)
  clear b1 x0 z0 z1 hV
  go_wp2_with fail
  refine (hB _ (rows_keep HR.out B1.out)).mono ?_
  rintro e w2 ⟨tb, T, rfl, ht, hb, hnw⟩
  rw [← HL.out] at ht
  have O2 := hid (OT.mk ht (B1.out.trans (hb.mono B1.out.size)) (fun c hc => Nat.le_trans B1.out.size (hnw c hc)) : OT w tb T L w2)
  have X2 := hid (blk_keep X1.out hb)
  clear ht hb hnw hB X1 B1
  obtain ⟨⟨x0, x1⟩, _⟩ := blk_two X2.out
  go_wp2_with fail
  refine (hCv _ tb T O2.out.tab).mono ?_
  rintro e w3 ⟨v3, rfl, hr, b3⟩
  have O3 := hid (O2.out.below b3)
  have X3 := hid (blk_keep X2.out b3)
  have hr := row_n hr (n := m) (by rw [List.length_map]; exact HM.out)
  obtain ⟨p3, cap3, rfl, hnc3, Y3⟩ := rows_open (by decide) hr
  have HY := hid Y3
  have HR3 := hid hr
  clear hr b3 Y3 O2 X2 x0 x1 hCv
  go_wp2_with fail
  go_loopg [7] m (fun gg i wr => ∃ k : Nat, k + gg = m ∧ i = .int .i64 k ∧ Below w3.heap.size w3 wr)
  case atStart => exact ⟨0, by omega, rfl, Below.refl _ _⟩
  case round =>
    obtain ⟨k, hk, rfl, hbel⟩ := hrel
    have O4 := hid (O3.out.below hbel)
    have X4 := hid (blk_keep X3.out hbel)
    cases gk with
    | zero =>
      have hlt : ¬ ((k : Int) < (m : Int)) := by omega
      clear hbel
      go_wp2_with fail
      refine (hEn _ tb T O4.out.tab).mono ?_
      rintro e w5 ⟨v5, rfl, hr5, b5⟩
      have O5 := hid (O4.out.below b5)
      have X5 := hid (blk_keep X4.out b5)
      have hr5 := row_n (rows_own hr5) HM2.out
      obtain ⟨p5, cap5, rfl, hnc5, Y5⟩ := rows_open (by decide) hr5
      have HY5 := hid Y5
      clear hr5 b5 Y5 O4 X4 hEn
      go_wp2_with fail
      go_loopg [10, 11] m2 (fun gg cv i wr => ∃ k c : Nat, k + gg = m2 ∧ cv = .int .i64 c ∧ i = .int .i64 k ∧ Hid (c = cnt k) ∧ Below w5.heap.size w5 wr)
      case atStart => exact ⟨0, 0, by omega, rfl, rfl, (show (0 : Nat) = cnt 0 from H0.out.symm), Below.refl _ _⟩
      case round =>
        obtain ⟨k2, c, hk2, rfl, rfl, hc, hbel⟩ := hrel
        have O6 := hid (O5.out.below hbel)
        have X6 := hid (blk_keep X5.out hbel)
        cases gk with
        | zero =>
          obtain rfl : c = m := by rw [hc.out, show k2 = m2 by omega]; exact HE.out
          have hlt2 : ¬ ((k2 : Int) < (m2 : Int)) := by omega
          clear hbel hc HY5 O5 X5
          obtain ⟨x0, x1⟩ := (blk_two X6.out).1
          obtain ⟨F, hF⟩ : ∃ F, F = conF L a := ⟨_, rfl⟩
          have hCv3 := HCv2.out wr tb T O6.out.tab
          have hFl := HFl.out
          have hLk3 := fun wx => HLk.out wx tb T
          unfold lookV at hLk3
          rw [← hF] at hCv3 hFl hLk3
          clear hF
          rcases List.eq_nil_or_concat F with rfl | ⟨A, z, hAz⟩
          · go_wp2_with fail
            refine hCv3.mono ?_
            rintro e w7 ⟨v7, rfl, hr7, b7⟩
            have O7 := hid (O6.out.below b7)
            have X7 := hid (blk_keep X6.out b7)
            clear b7 x0 x1
            obtain ⟨x0, x1⟩ := (blk_two X7.out).1
            obtain ⟨p7, cap7, rfl, _, _⟩ := rows_open (by decide) (row_n hr7 (n := 0) rfl)
            go_wp2_with fail
            refine (hLk3 _ O7.out.tab).mono ?_
            rintro e w8 ⟨rfl, b8⟩
            have O8 := hid (O7.out.below b8)
            clear b8 hr7
            go_wp2_with fail
            have O9 := hid (O8.out.bel.trans ((al1 w8 (.cells #[.int .u32 0, .int .i64 0] 31)).mono O8.out.bel.size))
            refine wp_region_later (w8.alloc (.cells #[.int .u32 0, .int .i64 0] 31)).heap.size (by kernel_rfl) (by kernel_rfl) ?_
            repeat (go_big_quiet_step (first | (go_at_call 23; exact later_of (Nat.le_refl _) (hSn _)) | fail))
            refine wpQuiet_nil ?_
            rintro _ ⟨u, rfl⟩
            have B9 := hid (O9.out.trans (u.h.mono O9.out.size))
            go_wp2
            go_ret
            exact ⟨rfl, B9.out⟩
          · rw [List.concat_eq_append] at hAz
            subst hAz
            obtain ⟨na, hna⟩ : ∃ na, na = A.length := ⟨_, rfl⟩
            have hna40 : na + 1 ≤ 40 := by rw [hna]; simpa using hFl
            obtain ⟨⟨z0, z1⟩, z2⟩ := z
            have hLk4 : ∀ wx, Tab wx tb T L → Calls Try.prog 13 #[pt tb, .int .u32 (a : Int)] wx fun e w' => e = .returned (.tuple #[px z0 (z1 : Int), .int .i64 z2, .bool true]) ∧ Below wx.heap.size wx w' := fun wx h => by
              have := hLk3 wx h
              rw [List.getLast?_concat] at this
              exact this
            clear hLk3
            have HNA := hid hna
            clear hna hFl
            go_wp2_with fail
            refine hCv3.mono ?_
            rintro e w7 ⟨v7, rfl, hr7, b7⟩
            have O7 := hid (O6.out.below b7)
            have X7 := hid (blk_keep X6.out b7)
            clear b7 x0 x1
            obtain ⟨x0, x1⟩ := (blk_two X7.out).1
            obtain ⟨p7, cap7, rfl, hnc7, Y7⟩ := rows_open (by decide) (row_n hr7 (n := na + 1) (by rw [HNA.out]; simp))
            obtain ⟨b7, off7, rfl, hbl7, hc7⟩ := Y7 (by omega)
            obtain ⟨d0, d1⟩ := ePx_cells hc7 (k := na) (x := (z0, z1)) (by rw [HNA.out]; simp)
            clear hr7 Y7 hc7
            have D0 := hid d0
            have D1 := hid d1
            clear d0 d1
            go_wp2_with fail
            refine (hLk4 _ O7.out.tab).mono ?_
            rintro e w8 ⟨rfl, b8⟩
            have O8 := hid (O7.out.below b8)
            have hs8 := Nat.lt_of_lt_of_le hbl7 b8.size
            have d0 := (b8.cell (p := ⟨b7, off7 + na * 2, none⟩) hbl7).trans D0.out
            have d1 := (b8.cell (p := ⟨b7, off7 + na * 2 + 1, none⟩) hbl7).trans D1.out
            clear b8 x0 x1
            go_wp2_with fail
            have al := al1 w8 (.cells #[.int .u32 (z0 : Int), .int .i64 (z1 : Int)] 31)
            have hx := heap_new w8 (.cells #[.int .u32 (z0 : Int), .int .i64 (z1 : Int)] 31)
            have O9 := hid (O8.out.bel.trans (al.mono O8.out.bel.size))
            have hx9 := blk_lt hx
            have hs9 := Nat.lt_of_lt_of_le hs8 al.size
            have f0 := later_cell (B := (w8.alloc (.cells #[.int .u32 (z0 : Int), .int .i64 (z1 : Int)] 31)).heap.size) (p := ⟨b7, off7 + na * 2, none⟩) hs9 ((al.cell (p := ⟨b7, off7 + na * 2, none⟩) hs8).trans d0)
            have f1 := later_cell (B := (w8.alloc (.cells #[.int .u32 (z0 : Int), .int .i64 (z1 : Int)] 31)).heap.size) (p := ⟨b7, off7 + na * 2 + 1, none⟩) hs9 ((al.cell (p := ⟨b7, off7 + na * 2 + 1, none⟩) hs8).trans d1)
            have g0 := later_cell (B := (w8.alloc (.cells #[.int .u32 (z0 : Int), .int .i64 (z1 : Int)] 31)).heap.size) hx9 (blk_two hx).1.1
            have g1 := later_cell (B := (w8.alloc (.cells #[.int .u32 (z0 : Int), .int .i64 (z1 : Int)] 31)).heap.size) hx9 (blk_two hx).1.2
            have hj0 : ((na + 1 : Nat) : Int) > 0 := by omega
            have hjw : IntKind.i64.wrap (((na + 1 : Nat) : Int) - 1) = (na : Int) := by rw [show ((na + 1 : Nat) : Int) - 1 = (na : Int) by omega]; rw [IntKind.wrap_i64]; omega
            clear al hx d0 d1
            refine wp_region_later (w8.alloc (.cells #[.int .u32 (z0 : Int), .int .i64 (z1 : Int)] 31)).heap.size (by kernel_rfl) (by kernel_rfl) ?_
            repeat (go_big_quiet_step (first | (go_at_call 23; exact later_of (Nat.le_refl _) (hSn _)) | fail))
            refine wpQuiet_nil ?_
            rintro _ ⟨u, rfl⟩
            have B9 := hid (O9.out.trans (u.h.mono O9.out.size))
            go_wp2
            go_ret
            exact ⟨rfl, B9.out⟩
        | succ g1 =>
          have hkn : k2 < m2 := by omega
          have hlt2 : (k2 : Int) < (m2 : Int) := by omega
          obtain ⟨b6, off6, rfl, hbl6, hc6⟩ := HY5.out (by omega)
          obtain ⟨y, hye⟩ : ∃ y, y = (L[k2]'(by rw [← HM2.out]; exact hkn)) := ⟨_, rfl⟩
          have hly : L[k2]? = some y := by rw [hye]; exact List.getElem?_eq_getElem _
          obtain ⟨d0, d1, _⟩ := eEn_cells hc6 hly
          have hs5 := Nat.lt_of_lt_of_le hbl6 hbel.size
          have hx5 := blk_lt X6.out
          have f0 := later_cell (B := wr.heap.size) (p := ⟨b6, off6 + k2 * 3, none⟩) hs5 ((hbel.cell (p := ⟨b6, off6 + k2 * 3, none⟩) hbl6).trans d0)
          have f1 := later_cell (B := wr.heap.size) (p := ⟨b6, off6 + k2 * 3 + 1, none⟩) hs5 ((hbel.cell (p := ⟨b6, off6 + k2 * 3 + 1, none⟩) hbl6).trans d1)
          have x0 := later_cell (B := wr.heap.size) hx5 (blk_two X6.out).1.1
          have x1 := later_cell (B := wr.heap.size) hx5 (blk_two X6.out).1.2
          have hcv := fun wx => refCovers y.1.1 (y.1.2 : Int) a (q : Int) wx ha
          have hst := HS.out k2 y hly
          have hcb : c ≤ 40 := by have := HU.out k2; rw [hc.out]; omega
          have B6 := hid hbel
          clear hbel hc6 hly hye d0 d1
          go_wp2_with fail
          cases hyc : covB y.1.1 y.1.2 a q with
          | false =>
            rw [hyc] at hcv hst
            have hcn : c = cnt (k2 + 1) := by rw [hc.out, hst]; rfl
            have HCN := hid hcn
            clear hcn hst hyc hc
            refine wp_region_later wr.heap.size (by kernel_rfl) (by kernel_rfl) ?_
            repeat (go_big_quiet_step (first | (go_at_call 27; exact later_of (Nat.le_refl _) (hcv _)) | fail))
            refine wpQuiet_nil ?_
            rintro _ ⟨u, rfl⟩
            have B7 := hid (B6.out.trans (u.h.mono B6.out.size))
            go_wp2
            go_roundg g1
            case measure => omega
            case rel => exact ⟨k2 + 1, c, by omega, rfl, by go_num, HCN, B7.out⟩
          | true =>
            rw [hyc] at hcv hst
            have hcn : c + 1 = cnt (k2 + 1) := by rw [hc.out, hst]; rfl
            have HCN := hid hcn
            clear hcn hst hyc hc
            refine wp_region_later wr.heap.size (by kernel_rfl) (by kernel_rfl) ?_
            repeat (go_big_quiet_step (first | (go_at_call 27; exact later_of (Nat.le_refl _) (hcv _)) | fail))
            refine wpQuiet_nil ?_
            rintro _ ⟨u, rfl⟩
            have B7 := hid (B6.out.trans (u.h.mono B6.out.size))
            go_wp2
            go_roundg g1
            case measure => omega
            case rel => exact ⟨k2 + 1, c + 1, by omega, by go_num, by go_num, HCN, B7.out⟩
    | succ g1 =>
      have hkn : k < m := by omega
      have hlt : (k : Int) < (m : Int) := by omega
      obtain ⟨b6, off6, rfl, hbl6, hc6⟩ := HY.out (by omega)
      obtain ⟨y, hye⟩ : ∃ y, y = (C[k]'(by rw [← HM.out]; exact hkn)) := ⟨_, rfl⟩
      have hly : C[k]? = some y := by rw [hye]; exact List.getElem?_eq_getElem _
      obtain ⟨hyL, hyc⟩ := HIn.out k y hly
      obtain ⟨d0, d1⟩ := ePx_cells hc6 (k := k) (x := y.1) (by rw [List.getElem?_map, hly]; rfl)
      have d0 := (hbel.cell (p := ⟨b6, off6 + k * 2, none⟩) hbl6).trans d0
      have d1 := (hbel.cell (p := ⟨b6, off6 + k * 2 + 1, none⟩) hbl6).trans d1
      clear hye
      obtain ⟨x0, x1⟩ := (blk_two X4.out).1
      have hG4 := HG.out _ tb T O4.out.tab y hyL
      go_wp2_with fail
      refine hG4.mono ?_
      rintro e w5 ⟨rfl, b5⟩
      clear hG4
      have O5 := hid (O4.out.below b5)
      have X5 := hid (blk_keep X4.out b5)
      have d0 := (b5.cell (p := ⟨b6, off6 + k * 2, none⟩) (Nat.lt_of_lt_of_le hbl6 hbel.size)).trans d0
      have d1 := (b5.cell (p := ⟨b6, off6 + k * 2 + 1, none⟩) (Nat.lt_of_lt_of_le hbl6 hbel.size)).trans d1
      have B5 := hid (hbel.trans (b5.mono hbel.size))
      clear x0 x1
      have hs5 := Nat.lt_of_lt_of_le hbl6 (Nat.le_trans hbel.size b5.size)
      have hx5 := blk_lt X5.out
      have x0 := later_cell (B := w5.heap.size) hx5 (blk_two X5.out).1.1
      have x1 := later_cell (B := w5.heap.size) hx5 (blk_two X5.out).1.2
      have f0 := later_cell (B := w5.heap.size) (p := ⟨b6, off6 + k * 2, none⟩) hs5 d0
      have f1 := later_cell (B := w5.heap.size) (p := ⟨b6, off6 + k * 2 + 1, none⟩) hs5 d1
      have hcv := fun wx => refCovers y.1.1 (y.1.2 : Int) a (q : Int) wx ha
      rw [hyc] at hcv
      have hZ : ∀ j, j + 1 = k → ∃ z : Nat, w5.cell? ⟨b6, off6 + j * 2 + 1, none⟩ = some (.int .i64 (z : Int)) ∧ z < y.1.2 := fun j hj => by
        have hjm : j < C.length := by rw [← HM.out]; omega
        obtain ⟨z, hze⟩ : ∃ z, z = C[j] := ⟨_, rfl⟩
        have hlz : C[j]? = some z := by rw [hze]; exact List.getElem?_eq_getElem _
        obtain ⟨_, g1⟩ := ePx_cells hc6 (k := j) (x := z.1) (by rw [List.getElem?_map, hlz]; rfl)
        refine ⟨z.1.2, ?_, HUp.out j z y hlz (by rw [hj]; exact hly)⟩
        exact (B5.out.cell (p := ⟨b6, off6 + j * 2 + 1, none⟩) hbl6).trans g1
      have HZ := hid hZ
      clear hZ b5 hbel hc6 hly hyc d0 d1 hyL
      go_wp2_with fail
      cases k with
      | zero =>
        simp only [Nat.zero_mul, Nat.add_zero] at f0 f1 ⊢
        refine wp_region_later w5.heap.size (by kernel_rfl) (by kernel_rfl) ?_
        repeat (go_big_quiet_step (first | (go_at_call 27; exact later_of (Nat.le_refl _) (hcv _)) | fail))
        refine wpQuiet_nil ?_
        rintro _ ⟨u, rfl⟩
        have B6 := hid (B5.out.trans (u.h.mono B5.out.size))
        go_wp2
        go_roundg g1
        case measure => omega
        case rel => exact ⟨0 + 1, by omega, by go_num, B6.out⟩
      | succ j =>
        obtain ⟨z, hz, hzy⟩ := HZ.out j rfl
        have z1 := later_cell (B := w5.heap.size) (p := ⟨b6, off6 + j * 2 + 1, none⟩) hs5 hz
        have hgt : ¬ (y.1.2 : Int) ≤ (z : Int) := by omega
        have hj0 : ((j + 1 : Nat) : Int) > 0 := by omega
        have hjw : IntKind.i64.wrap (((j + 1 : Nat) : Int) - 1) = (j : Int) := by rw [show ((j + 1 : Nat) : Int) - 1 = (j : Int) by omega]; rw [IntKind.wrap_i64]; omega
        clear hz hzy
        refine wp_region_later w5.heap.size (by kernel_rfl) (by kernel_rfl) ?_
        repeat (go_big_quiet_step (first | (go_at_call 27; exact later_of (Nat.le_refl _) (hcv _)) | fail))
        refine wpQuiet_nil ?_
        rintro _ ⟨u, rfl⟩
        have B6 := hid (B5.out.trans (u.h.mono B5.out.size))
        go_wp2
        go_roundg g1
        case measure => omega
        case rel => exact ⟨j + 1 + 1, by omega, by go_num, B6.out⟩

theorem walkTrieCovers (v : Value) (l : List REn) (a : Nat) (q : Int) (w : World) (h : IsRow rEn 3 w v l) (hbd : BdE l) (ha : a < 4294967296) :
    Calls Try.prog 6 #[v, px a q] w (BoolPost true w) := by
  by_cases hl : l.length ≤ 40
  · cases hv : validB a q with
    | false => exact covers_bad v l.length _ a q w h hl ha hv
    | true =>
      obtain ⟨hok, hn⟩ := okp_valid ha hv
      rw [hn]
      exact covers_main v l a q.toNat w h hbd hl hok
  · exact covers_big v l.length _ a q w h (by omega)
end Go.Proofs.Ytnlmplllfgfgoaa.Ad
