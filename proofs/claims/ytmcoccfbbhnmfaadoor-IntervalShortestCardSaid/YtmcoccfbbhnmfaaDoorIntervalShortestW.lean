/-
  IntervalShortest: the walk.
-/
import Derived.Test.YtmcoccfbbhnmfaaDoorIntervalOfW
namespace Go.Proofs.YtmcoccfbbhnmfaaDoor.Iw
set_option linter.unusedSimpArgs false
set_option linter.unusedVariables false
open Go.RowKit Sm Ip Im Kt Am

theorem ivs_snoc (l : List Px) (y : Px) : ivs (l ++ [y]) = ivs l ++ [(y.1, y.1 + blk y.2 - 1)] := by unfold ivs; rw [List.map_append]; rfl
theorem okp_lt {p : Px} (h : OkP p) : p.1 < 4294967296 := by have := blk_pos p.2; have := h.2.2; omega
theorem valid_of {p : Px} (h : OkP p) : validB p.1 ((p.2 : Nat) : Int) = true := by
  rw [valid_iff, cl_nat p.2 h.1]; have := h.1; exact ⟨by omega, h.2.1⟩
set_option maxHeartbeats 4000000 in
set_option maxRecDepth 100000 in
theorem walkIntervalShortest (v : Value) (s : List Iv) (W : World) (hs : IsIv W v s) (hb : Bd 4294967296 s) (hT : Tab W.heap.size W) :
    Calls Tryd.prog 9 #[v] W fun e w' => e = .returned (.bool true) ∧ Below W.heap.size W w' := by
  have HT := hid hT
  have hs0 := hid hs
  have HB := hid hb
  obtain ⟨p, cap, rfl, -⟩ := rows_open hs
  clear hs hb hT
  have C := few _ _ s [] W hs0.out (iv_nil W)
  by_cases hf : s.length ≤ 30
  case neg =>
    rw [decide_eq_false hf] at C
    clear hf
    go_enter Tryd.func9, Tryd.ntmps9
    go_wp2_with fail
    refine C.mono ?_
    rintro e w1 ⟨rfl, rfl⟩
    go_wp2_with fail
    go_ret
    exact ⟨rfl, Below.refl _ _⟩
  rw [decide_eq_true hf] at C
  have hl := hid (Nat.le_trans hf (show 30 ≤ 10000000000 by decide))
  have hpl := hid (Nat.le_trans (prefs_len HB.out) (show 4294967296 ≤ 10000000000 by decide))
  have HOK := hid (prefs_ok HB.out)
  clear hf
  go_enter Tryd.func9, Tryd.ntmps9
  go_wp2_with fail
  refine (C).mono ?_
  rintro e w1 ⟨rfl, rfl⟩
  clear C
  go_wp2_with fail
  refine (prefixes _ s _ hs0.out HB.out hl.out HT.out (Nat.le_refl _)).mono ?_
  rintro e w2 ⟨v2, rfl, r2, b2⟩
  have Hs_2 := hid (rows_keep hs0.out b2)
  have q2 := rows_own r2
  clear r2
  have r2 := q2
  clear q2
  have Hl_2 := hid r2
  have B2 := b2
  clear b2 hs0 r2
  have l0 := Hl_2.out
  obtain ⟨l, hl'⟩ : ∃ l, l = prefs s := ⟨_, rfl⟩
  rw [← hl'] at l0 hpl HOK
  have HLE := hid hl'
  clear hl'
  obtain ⟨n, hn⟩ : ∃ n, n = l.length := ⟨_, rfl⟩
  have r0 := px_n l0 hn
  clear l0 Hl_2
  obtain ⟨pl, capl, rfl, hc⟩ := rows_open r0
  have HC := hid hc
  have HR := hid r0
  have HN := hid hn
  have hln : n ≤ 10000000000 := by rw [hn]; exact hpl.out
  clear hc r0 hn
  go_wp2_with fail
  obtain ⟨i0, hi, hz0, hz1, hz2⟩ := info_parts ivInfo
  go_loopg [4, 5] n (fun gg u i wr => ∃ k : Nat, k + gg = n ∧ i = .int .i64 k ∧ Hid (wr.ownsRow w2.heap.size 45 2 u k (iv2 (ivs (l.take k))) ∧ Below w2.heap.size w2 wr ∧ w2.heap.size ≤ wr.heap.size))
  case atStart => exact ⟨0, by omega, rfl, hid ⟨World.ownsRow_nil _ _ _ _, Below.refl _ _, Nat.le_refl _⟩⟩
  case round =>
    obtain ⟨k, hk, rfl, HR1⟩ := hrel
    obtain ⟨hown, hbel, hsz⟩ := HR1.out
    clear HR1
    cases gk with
    | zero =>
      have hlt : ¬ ((k : Int) < (n : Int)) := by omega
      have hkl : l.length ≤ k := by rw [← HN.out]; omega
      have hnk := hid (show n = k by omega)
      have ra0 := rows_own hown
      rw [List.take_of_length_le hkl] at ra0
      have hal : k = (ivs l).length := by rw [show (ivs l).length = l.length from by unfold ivs; rw [List.length_map], ← HN.out]; omega
      have HA := hid (n_iv ra0 hal)
      have HBD := hid (show Bd 4294967296 (ivs l) by rw [HLE.out]; exact ivs_bd HB.out)
      have HNM := hid (show norm (ivs l) = norm s by rw [HLE.out]; exact ivs_norm HB.out)
      have HLA := hid (show (ivs l).length ≤ 10000000000 by rw [← hal]; omega)
      have HS2 := hid (rows_keep Hs_2.out hbel)
      have BB := B2.trans (hbel.mono B2.size)
      clear hown hbel hsz hkl ra0 hal
      go_wp2_with fail
      refine (normalize _ (ivs l) _ HA.out HBD.out HLA.out).mono ?_
      rintro e w11 ⟨v11, rfl, r11, b11⟩
      have Ha_11 := hid (rows_keep HA.out b11)
      have Hs_11 := hid (rows_keep HS2.out b11)
      have Hx_11 := hid r11
      have B11 := then_ BB b11
      clear b11 HA HS2 BB r11
      clear Ha_11
      go_wp2_with fail
      refine (normalize _ s _ Hs_11.out HB.out hl.out).mono ?_
      rintro e w12 ⟨v12, rfl, r12, b12⟩
      have Hs_12 := hid (rows_keep Hs_11.out b12)
      have Hx_12 := hid (rows_keep Hx_11.out b12)
      have Hz_12 := hid r12
      have B12 := then_ B11 b12
      clear b12 Hs_11 Hx_11 B11 r12
      clear Hs_12
      go_wp2_with fail
      refine (keepIv _ _ (norm s) _ (by rw [← HNM.out]; exact Hx_12.out) Hz_12.out (Nat.le_trans (norm_len s) hl.out)).mono ?_
      rintro e w13 ⟨rfl, b13⟩
      have Hx_13 := hid (rows_keep Hx_12.out b13)
      have Hz_13 := hid (rows_keep Hz_12.out b13)
      have B13 := then_ B12 b13
      clear b13 Hx_12 Hz_12 B12
      clear Hx_13
      clear Hz_13
      go_wp2_with fail
      refine (sane _ (HT.out.on B13) B13.size).mono ?_
      rintro e w14 ⟨rfl, b14⟩
      have B14 := then_ B13 b14
      clear b14 B13
      go_wp2_with fail
      go_ret
      exact ⟨rfl, B14⟩
    | succ g1 =>
      have hlt : k < n := by omega
      have hkn : k < l.length := by rw [← HN.out]; exact hlt
      obtain ⟨b, off, rfl, hbl, hc⟩ := HC.out (by omega)
      have HCELL := hid (fun j (hj : j < n) => px_cells hc (k := j) (by rw [← HN.out]; exact hj))
      have E0 := hid (HCELL.out k hlt).1
      have E1 := hid (HCELL.out k hlt).2
      have HTK := hid (nth_take hkn)
      have HCOV : Hid (Cover s l) := hid (by rw [HLE.out]; exact prefs_cover HB.out)
      have HOK1 := hid (HOK.out _ (nth_mem (l := l) (k := k) hkn))
      have HY := hid (show nth l k = nth l k from rfl)
      have hbr : b < wr.heap.size := by omega
      clear hc
      obtain ⟨y, hy⟩ : ∃ y, y = nth l k := ⟨_, rfl⟩
      have HYE := hid hy
      rw [← hy] at E0 E1 HTK HOK1
      clear hy HY
      have cV : ∀ u : Later wr.heap.size wr, Calls Tryd.prog 34 #[Ad.px y.1 ((y.2 : Nat) : Int)] u.w fun e w' => e = .returned (.bool true) ∧ Below u.w.heap.size u.w w' := by
        intro u
        have := Ad.refValid y.1 ((y.2 : Nat) : Int) u.w (okp_lt HOK1.out)
        rw [valid_of HOK1.out] at this; exact this
      have d0 := later_cell (B := wr.heap.size) (w0 := wr) hbr ((hbel.cell (p := ⟨b, off + k * 2, none⟩) hbl).trans E0.out)
      have d1 := later_cell (B := wr.heap.size) (w0 := wr) hbr ((hbel.cell (p := ⟨b, off + k * 2 + 1, none⟩) hbl).trans E1.out)
      have hsz0 := Nat.le_refl wr.heap.size
      cases k with
      | zero =>
        simp only [Nat.zero_mul, Nat.add_zero] at d0 d1
        go_upto_region 8 with fail
        simp only [List.append_eq, List.cons_append, List.nil_append]
        refine wp_region_later wr.heap.size (by kernel_rfl) (by kernel_rfl) ?_
        repeat (go_big_quiet_step ((go_at_call 34; exact later_of (Nat.le_refl _) (cV _))))
        refine wpQuiet_nil ?_
        rintro _ ⟨u, rfl⟩
        have own3 := own_below hown u.h hsz0
        have b3 := hbel.trans (u.h.mono hsz)
        have s3 := b3.size
        clear hown hbel hsz hsz0 hbr d0 d1 cV 
        generalize u.w = w3 at *
        have c0 := (b3.cell (p := ⟨b, off + 0 * 2, none⟩) hbl).trans E0.out
        have c1 := (b3.cell (p := ⟨b, off + 0 * 2 + 1, none⟩) hbl).trans E1.out
        simp only [Nat.zero_mul, Nat.add_zero] at c0 c1
        go_wp2_with fail
        refine (of_ y _ HOK1.out).mono ?_
        rintro e w4 ⟨v4, rfl, r4, b4'⟩
        have own4 := own_below own3 b4' (Nat.le_refl _)
        have b4 := b3.trans (b4'.mono s3)
        have s4 := b4.size
        clear own3 b3 s3 c0 c1 b4'
        go_wp2_with (at_builtin; refine app2 rfl _ _ _ rfl 45 i0 _ 8 Tryd.underlying22 hi hz0 hz1 hz2 rfl (by decide) w2.heap.size w4 u4 v4 (0) 1 (iv2 (ivs (l.take (0)))) (iv2 [(y.1, y.1 + blk y.2 - 1)]) rfl own4 s4 rfl r4 (iv2_one _) (by omega) (by decide) ?_; intro v5 w5 own5 bel5)
        have b5 := b4.trans bel5
        have s5 := b5.size
        clear own4 b4 s4 bel5 r4
        go_wp2_with fail
        go_roundg g1
        case measure => omega
        case rel => exact ⟨0 + 1, by omega, by go_num, hid ⟨by rw [HTK.out, ivs_snoc, iv2_append]; exact own5, b5, s5⟩⟩
      | succ j =>
        have F0 := (HCELL.out j (by omega)).1
        have F1 := (HCELL.out j (by omega)).2
        have hkj : j + 1 < l.length := hkn
        have hOKp := HOK.out _ (nth_mem (l := l) (k := j) (by omega))
        have hAsc := asc_next j hkj (HCOV.out).1
        have hNot := not_halves HCOV.out j hkj
        rw [← nth_get (show j < l.length by omega), ← nth_get hkj, ← HYE.out] at hAsc hNot
        obtain ⟨z, hz⟩ : ∃ z, z = nth l j := ⟨_, rfl⟩
        rw [← hz] at F0 F1 hOKp hAsc hNot
        have HOKz := hid hOKp
        have HNOT := hid hNot
        have e0 := later_cell (B := wr.heap.size) (w0 := wr) hbr ((hbel.cell (p := ⟨b, off + j * 2, none⟩) hbl).trans F0)
        have e1 := later_cell (B := wr.heap.size) (w0 := wr) hbr ((hbel.cell (p := ⟨b, off + j * 2 + 1, none⟩) hbl).trans F1)
        have hbz := blk_pos z.2
        have hy1 := okp_lt HOK1.out
        obtain ⟨e, he⟩ : ∃ e, e = z.1 + blk z.2 - 1 := ⟨_, rfl⟩
        have cL : ∀ u : Later wr.heap.size wr, Calls Tryd.prog 35 #[Ad.px z.1 ((z.2 : Nat) : Int)] u.w fun e' w' => e' = .returned (.int .u32 (e : Nat)) ∧ Below u.w.heap.size u.w w' := by
          intro u
          have := Ad.refLast z.1 ((z.2 : Nat) : Int) u.w (okp_lt HOKz.out)
          rw [last_ok HOKz.out, ← he] at this; exact this
        have q0 : decide (y.1 ≤ e) = false := decide_eq_false (by omega)
        have n5 : (0 : Int) ≤ (j : Int) := by omega
        have n6 : (0 : Int) ≤ (j : Int) + 1 := by omega
        have n7 : (j : Int) + 1 < (n : Int) := by omega
        have n8 : ((j : Int) + 1).toNat = j + 1 := by omega
        have p0 : decide ((0 : Int) < (j : Int) + 1) = true := decide_eq_true (by omega)
        have wr2 : IntKind.i64.wrap ((j : Int) + 1 - 1) = (j : Int) := by rw [Int.add_sub_cancel]; exact IntWalk.i64_in _ (by omega)
        have hne : z.2 = y.2 → 0 < y.2 := by
          intro h
          rcases Nat.eq_zero_or_pos y.2 with h0 | h0
          · rw [h, h0] at hAsc
            have : blk 0 = 4294967296 := by decide
            omega
          · exact h0
        clear hz hkj hOKp hAsc hNot F0 F1 hbz hy1 he
        by_cases hlen : z.2 = y.2
        · obtain ⟨z1, z2⟩ := z
          simp only at hlen HNOT HOKz e0 e1 cL hne
          subst hlen
          have hpos := hne rfl
          have HMI := hid (Nat.sub_le y.2 1)
          obtain ⟨m, hm⟩ : ∃ m : Nat, m = y.2 - 1 := ⟨_, rfl⟩
          have hm2 : y.2 = m + 1 := by omega
          have hm32 : m ≤ 32 := by have := HOK1.out.1; omega
          obtain ⟨a1, ha1⟩ : ∃ a1, a1 = net y.1 (m : Int) := ⟨_, rfl⟩
          obtain ⟨a2, ha2⟩ : ∃ a2, a2 = net z1 (m : Int) := ⟨_, rfl⟩
          have hne2 : a1 ≠ a2 := by
            intro h
            refine HNOT.out rfl (by omega) ?_
            unfold par
            simp only
            rw [← hm]
            rw [ha1, ha2] at h
            unfold net at h
            rw [cl_nat m hm32] at h
            rw [h]
          have cN1 : ∀ u : Later wr.heap.size wr, Calls Tryd.prog 36 #[.int .u32 (y.1 : Int), .int .i64 (m : Int)] u.w fun e' w' => e' = .returned (.agg #[.int .u32 (a1 : Int), .int .i64 (cl (m : Int) : Nat)]) ∧ Below u.w.heap.size u.w w' := by
            intro u
            have := Ad.refNetwork y.1 (m : Int) u.w (okp_lt HOK1.out)
            rw [← ha1] at this; exact this
          have cN2 : ∀ u : Later wr.heap.size wr, Calls Tryd.prog 36 #[.int .u32 (z1 : Int), .int .i64 (m : Int)] u.w fun e' w' => e' = .returned (.agg #[.int .u32 (a2 : Int), .int .i64 (cl (m : Int) : Nat)]) ∧ Below u.w.heap.size u.w w' := by
            intro u
            have := Ad.refNetwork z1 (m : Int) u.w (okp_lt HOKz.out)
            rw [← ha2] at this; exact this
          have wr3 : IntKind.i64.wrap ((y.2 : Int) - 1) = (m : Int) := by rw [show (y.2 : Int) - 1 = (m : Int) by omega]; exact IntWalk.i64_in _ (by omega)
          have p1 : decide ((0 : Int) < (y.2 : Int)) = true := decide_eq_true (by omega)
          have p2 : decide (0 < y.2) = true := decide_eq_true hpos
          have q3 : ((a1 : Int) == (a2 : Int)) = false := by simp; omega
          have q4 : (a1 == a2) = false := by simp; omega
          clear ha1 ha2 hne2 hm hm2 hm32 hpos hne
          go_upto_region 8 with fail
          simp only [List.append_eq, List.cons_append, List.nil_append]
          refine wp_region_later wr.heap.size (by kernel_rfl) (by kernel_rfl) ?_
          repeat (go_big_quiet_step (first | (go_at_call 34; exact later_of (Nat.le_refl _) (cV _)) | (go_at_call 35; exact later_of (Nat.le_refl _) (cL _)) | (go_at_call 36; with_reducible exact later_of (Nat.le_refl _) (cN1 _)) | (go_at_call 36; with_reducible exact later_of (Nat.le_refl _) (cN2 _))))
          refine wpQuiet_nil ?_
          rintro _ ⟨u, rfl⟩
          have own3 := own_below hown u.h hsz0
          have b3 := hbel.trans (u.h.mono hsz)
          have s3 := b3.size
          clear hown hbel hsz hsz0 hbr d0 d1 cV e0 e1 cL cN1 cN2 q0 q3 q4 n8 wr2 wr3 p1 p2
          generalize u.w = w3 at *
          have c0 := (b3.cell (p := ⟨b, off + (j + 1) * 2, none⟩) hbl).trans E0.out
          have c1 := (b3.cell (p := ⟨b, off + (j + 1) * 2 + 1, none⟩) hbl).trans E1.out
          skip
          go_wp2_with fail
          refine (of_ y _ HOK1.out).mono ?_
          rintro e w4 ⟨v4, rfl, r4, b4'⟩
          have own4 := own_below own3 b4' (Nat.le_refl _)
          have b4 := b3.trans (b4'.mono s3)
          have s4 := b4.size
          clear own3 b3 s3 c0 c1 b4'
          go_wp2_with (at_builtin; refine app2 rfl _ _ _ rfl 45 i0 _ 8 Tryd.underlying22 hi hz0 hz1 hz2 rfl (by decide) w2.heap.size w4 u4 v4 ((j + 1)) 1 (iv2 (ivs (l.take ((j + 1))))) (iv2 [(y.1, y.1 + blk y.2 - 1)]) rfl own4 s4 rfl r4 (iv2_one _) (by omega) (by decide) ?_; intro v5 w5 own5 bel5)
          have b5 := b4.trans bel5
          have s5 := b5.size
          clear own4 b4 s4 bel5 r4
          go_wp2_with fail
          go_roundg g1
          case measure => omega
          case rel => exact ⟨(j + 1) + 1, by omega, by go_num, hid ⟨by rw [HTK.out, ivs_snoc, iv2_append]; exact own5, b5, s5⟩⟩
        · have q1 : ((z.2 : Int) == (y.2 : Int)) = false := by simp; omega
          clear hlen hne
          go_upto_region 8 with fail
          simp only [List.append_eq, List.cons_append, List.nil_append]
          refine wp_region_later wr.heap.size (by kernel_rfl) (by kernel_rfl) ?_
          repeat (go_big_quiet_step (first | (go_at_call 34; exact later_of (Nat.le_refl _) (cV _)) | (go_at_call 35; exact later_of (Nat.le_refl _) (cL _))))
          refine wpQuiet_nil ?_
          rintro _ ⟨u, rfl⟩
          have own3 := own_below hown u.h hsz0
          have b3 := hbel.trans (u.h.mono hsz)
          have s3 := b3.size
          clear hown hbel hsz hsz0 hbr d0 d1 cV e0 e1 cL q0 q1 n8 wr2
          generalize u.w = w3 at *
          have c0 := (b3.cell (p := ⟨b, off + (j + 1) * 2, none⟩) hbl).trans E0.out
          have c1 := (b3.cell (p := ⟨b, off + (j + 1) * 2 + 1, none⟩) hbl).trans E1.out
          skip
          go_wp2_with fail
          refine (of_ y _ HOK1.out).mono ?_
          rintro e w4 ⟨v4, rfl, r4, b4'⟩
          have own4 := own_below own3 b4' (Nat.le_refl _)
          have b4 := b3.trans (b4'.mono s3)
          have s4 := b4.size
          clear own3 b3 s3 c0 c1 b4'
          go_wp2_with (at_builtin; refine app2 rfl _ _ _ rfl 45 i0 _ 8 Tryd.underlying22 hi hz0 hz1 hz2 rfl (by decide) w2.heap.size w4 u4 v4 ((j + 1)) 1 (iv2 (ivs (l.take ((j + 1))))) (iv2 [(y.1, y.1 + blk y.2 - 1)]) rfl own4 s4 rfl r4 (iv2_one _) (by omega) (by decide) ?_; intro v5 w5 own5 bel5)
          have b5 := b4.trans bel5
          have s5 := b5.size
          clear own4 b4 s4 bel5 r4
          go_wp2_with fail
          go_roundg g1
          case measure => omega
          case rel => exact ⟨(j + 1) + 1, by omega, by go_num, hid ⟨by rw [HTK.out, ivs_snoc, iv2_append]; exact own5, b5, s5⟩⟩
end Go.Proofs.YtmcoccfbbhnmfaaDoor.Iw
