/-
  THE CONTRACT OF THE REFERENCE's Tokens.
-/
import Derived.Test.YtlhocklcfhkbnaaScanN
import Derived.Test.YtlhocklcfhkbnaaScanG
namespace Go.Proofs.Ytlhocklcfhkbnaa.Sc
set_option linter.unusedSimpArgs false
set_option linter.unusedVariables false
open Go.RowKit Sp Sm

theorem stop_ways {c : UInt8} (h : stopB c = true) : ((c.toNat : Int) != 9) = false ∨ (((c.toNat : Int) != 9) = true ∧ ((c.toNat : Int) != 32) = false) ∨ (((c.toNat : Int) != 9) = true ∧ ((c.toNat : Int) != 32) = true ∧ ((c.toNat : Int) != 35) = false) ∨ (((c.toNat : Int) != 9) = true ∧ ((c.toNat : Int) != 32) = true ∧ ((c.toNat : Int) != 35) = true ∧ markB c = true) := by
  unfold stopB at h
  rw [blank_int] at h
  by_cases h9 : (c.toNat : Int) = 9
  · left; simp [h9]
  · by_cases h32 : (c.toNat : Int) = 32
    · right; left; simp [h32]
    · by_cases h35 : (c.toNat : Int) = 35
      · right; right; left; simp [h35]
      · have hc : (c == 35) = false := by
          rw [beq_eq_false_iff_ne]; rintro rfl; exact h35 rfl
        right; right; right
        rw [hc] at h
        simp [h9, h32] at h
        simp [h9, h32, h35, h]
theorem stop_none {c : UInt8} (h : stopB c = false) : ((c.toNat : Int) != 9) = true ∧ ((c.toNat : Int) != 32) = true ∧ ((c.toNat : Int) != 35) = true ∧ markB c = false := by
  unfold stopB at h
  rw [blank_int] at h
  simp only [Bool.or_eq_false_iff, decide_eq_false_iff_not] at h
  obtain ⟨⟨h1, h2⟩, h3⟩ := h
  have h35 : ((c.toNat : Int) == 35) = false := u8_ne (d := 35) (by simpa using h3)
  refine ⟨by simp; omega, by simp; omega, by simp only [bne, Bool.not_eq_true']; exact h35, h2⟩

set_option maxHeartbeats 8000000 in
set_option maxRecDepth 100000 in
theorem refTokens (s : ByteArray) (w : World) (hs : s.size ≤ maxLen) :
    Calls Try.prog 20 #[.string s] w (TokensPost s w) := by
  obtain ⟨i0, hi, hz0, hz1, hz2⟩ := info_parts tokInfo
  by_cases he : errL s = 0
  · go_enter Try.func20, Try.ntmps20
    go_wp2_with fail
    refine (refLines s _ hs).mono ?_
    rintro e w1 ⟨v1, rfl, own1, bel1, sz1⟩
    have HE := hid he
    rw [he]
    clear he
    obtain ⟨n, hn⟩ : ∃ n, n = (linesL s).length := ⟨_, rfl⟩
    have hn6 : n ≤ 65537 := by rw [hn]; exact linesL_len s
    rw [← hn] at own1
    have HN := hid hn
    clear hn
    have oc := own1.2
    rcases oc with ⟨rfl, rfl⟩ | ⟨g, cap, cur, rfl, hbg, hg, hnc, hcm, hcs, htake⟩
    · go_wp2
      refine wp_loop_rounds 1 ?_
      rw [rounds_succ]
      go_wp2
      go_ret3
      refine ⟨.slice none 0 0, by rw [HE.out, ← HN.out]; rfl, ?_, bel1, sz1⟩
      have hl : linesL s = [] := List.eq_nil_of_length_eq_zero HN.out.symm
      have ht : toksL s = [] := by unfold toksL; rw [hl]; rfl
      rw [ht]; exact World.ownsRow_nil _ _ _ _
    · have cells : ∀ j, j < n → w1.cell? ⟨g, j, none⟩ = some (.string ((linesL s).getD j ByteArray.empty)) := by
        intro j hj
        rw [own1.cellAt j (by omega)]
        unfold strs
        have hj' : j < (linesL s).length := by rw [← HN.out]; exact hj
        rw [List.getElem?_map, List.getElem?_eq_getElem hj', List.getD_eq_getElem?_getD, List.getElem?_eq_getElem hj']; rfl
      have hgl : g < w1.heap.size := (own1.lt g rfl).2
      have HC := hid cells
      have HS := hid (linesL_sizes s)
      clear cells own1 hcs htake hg hnc hcm
      obtain ⟨ls, hls⟩ : ∃ ls, ls = linesL s := ⟨_, rfl⟩
      rw [← hls] at HC HS HN
      have HL := hid hls
      clear hls
      go_wp2
      go_loopg [7, 8] n (fun gg v i wr => ∃ k : Nat, k + gg = n ∧ i = .int .i64 k ∧ TokRel ls w1 v (fun acc => TokAll ls acc k) wr)
      case atStart => exact ⟨0, by omega, rfl, [], rfl, World.ownsRow_nil _ _ _ _, Below.refl _ _, Nat.le_refl _⟩
      case round =>
        obtain ⟨k, hk, rfl, acc, hacc, hown, hbel, hsz⟩ := hrel
        cases gk with
        | zero =>
          have hlt : ¬ ((k : Int) < (n : Int)) := by omega
          have hkn : k = n := by omega
          have hac : acc = tokensF ls 1 := tokAll_end hacc (by rw [← HN.out]; omega)
          have HAc := hid hac
          clear hkn hac hacc
          go_wp2
          go_ret3
          have hb2 : Below w.heap.size w wr := bel1.trans (hbel.mono sz1)
          refine tokens_fin HE.out HL.out HN.out ?_ hb2
          rw [← HAc.out]; exact own_mono hown sz1
        | succ g1 =>
          have hlt : k < n := by omega
          obtain ⟨t, ht⟩ : ∃ t, t = ls.getD k ByteArray.empty := ⟨_, rfl⟩
          have hcell : wr.cell? ⟨g, k, none⟩ = some (.string t) := by rw [ht]; exact (hbel.cell (p := ⟨g, k, none⟩) hgl).trans (HC.out k hlt)
          have HT := hid ht
          clear ht
          have HA := hid (tokAll_in hacc (by rw [← HN.out]; exact hlt))
          clear hacc
          have hts : t.size ≤ 65536 := Nat.le_trans (by rw [HT.out]; exact size_getD ls k) HS.out
          have htm : t.size ≤ maxLen := by unfold maxLen; omega
          go_wp2
          go_loopg [7, 10] (t.size + 1) (fun gg v i wr2 => ∃ p : Nat, p ≤ t.size ∧ t.size < p + gg ∧ i = .int .i64 p ∧ TokRel ls w1 v (fun acc => TokAcc ls acc k p) wr2)
          case atStart => exact ⟨0, by omega, by omega, rfl, acc, HA.out, hown, hbel, hsz⟩
          case round =>
            clear hown hbel hsz HA hcell
            obtain ⟨p, hp, hpg, rfl, acc, hacc, hown, hbel, hsz⟩ := hrel
            have hal := tokAcc_len hacc HS.out
            have HA := hid hacc
            clear hacc
            obtain ⟨g2, rfl⟩ : ∃ g2, gk = g2 + 1 := ⟨gk - 1, by omega⟩
            by_cases hpl : p < t.size
            · by_cases hc : t[p] = 35
              · have hci : ((t[p].toNat : Int) != 35) = false := by rw [hc]; rfl
                have HA' := hid (tokAcc_out HA.out (by rw [← HT.out]; exact tokF_comment t p hpl hc))
                clear hc HA
                go_wp2
                go_roundg g1
                case measure => omega
                case rel => exact ⟨k + 1, by omega, by go_num, acc, HA'.out, hown, hbel, hsz⟩
              · have hci : ((t[p].toNat : Int) != 35) = true := by simp only [bne, Bool.not_eq_true']; exact u8_ne (d := 35) hc
                have hbi := hid (blank_int t[p])
                by_cases hb : blankB t[p] = true
                · have HA' := hid (tokAcc_same HA.out (j := p + 1) (by rw [← HT.out]; exact tokF_blank t p hpl hc hb))
                  have hor : ((t[p].toNat : Int) != 9) = false ∨ (((t[p].toNat : Int) != 9) = true ∧ ((t[p].toNat : Int) != 32) = false) := by
                    have := hbi.out; rw [hb] at this; simp at this ⊢; omega
                  clear hc HA hbi hb
                  rcases hor with x9 | ⟨x9, x32⟩
                  all_goals
                    go_wp2
                    refine wp_loop_rounds 1 ?_
                    rw [rounds_succ]
                    go_wp2
                    go_roundg g2
                    case measure => omega
                    case rel => exact ⟨p + 1, by omega, by omega, by go_num, acc, HA'.out, hown, hbel, hsz⟩
                · have hb' : blankB t[p] = false := by simpa using hb
                  have x9 : ((t[p].toNat : Int) != 9) = true := by have := hbi.out; rw [hb'] at this; simp at this ⊢; omega
                  have x32 : ((t[p].toNat : Int) != 32) = true := by have := hbi.out; rw [hb'] at this; simp at this ⊢; omega
                  clear hb hbi
                  by_cases hm : markB t[p] = true
                  · have HA' := hid (tokAcc_one HA.out (j := p + 1) (x := t.extract p (p + 1)) (by rw [← HT.out]; exact tokF_mark t p hpl hc hb' hm))
                    clear hc HA hb'
                    go_wp2
                    refine wp_loop_rounds 1 ?_
                    rw [rounds_succ]
                    go_wp2_with (first
                      | (go_at_call 30; refine (single _ _).mono ?_; rintro e w' ⟨rfl, rfl⟩)
                      | (at_builtin; refine app_one (P := Try.prog) (w0 := wr) (w := w1) (B := w1.heap.size) (e := 40) (news := [Value.int .i64 (↑k + 1), Value.string (t.extract p (p + 1))]) (s := ?_) (x := ?_) (t := 30) (i := i0) (z := _) (size := 2) (bytes := 24) (v := u7) (n := acc.length) (xs := pairs acc) (hgd := ?_) (ho := ?_) (ht := Try.underlying30) (hi := hi) (hz := hz0) (hsize := hz1) (hby := hz2) (hzs := ?_) (hsz := by decide) (hb32 := by decide) (hs := ?_) (hown := hown) (hbel := hbel) (hB := hsz) (hx := ?_) (hl := ?_) (h1 := ?_) (hn := ?_) (h := ?_); rfl; rotate_left 2; rfl; rfl; rfl; rfl; rfl; (simp [Value.oneCell']); omega; intro v2 w2 hown1 hbel1 hsz1))
                    go_roundg g2
                    case measure => omega
                    case rel => exact ⟨p + 1, by omega, by omega, by go_num, acc ++ [(k + 1, t.extract p (p + 1))], HA'.out, by rw [List.length_append, pairs_append]; exact hown1, hbel1, hsz1⟩
                  · have hm' : markB t[p] = false := by simpa using hm
                    clear hm
                    have HA' := hid (tokAcc_one HA.out (j := endAt stopB t.data.toList p) (x := t.extract p (endAt stopB t.data.toList p)) (by rw [← HT.out]; exact tokF_word t p hpl hc hb' hm'))
                    have q1 := endAt_gt stopB t p hpl (stop_false hc hb' hm')
                    have q2 : endAt stopB t.data.toList p ≤ t.size := by have := endAt_le stopB t.data.toList p (by simp; omega); rwa [len_data] at this
                    obtain ⟨m, hm⟩ : ∃ m, m = endAt stopB t.data.toList p := ⟨_, rfl⟩
                    rw [← hm] at HA' q1 q2
                    have HM := hid hm
                    have hmp : ((m : Int) == (p : Int)) = false := by simp; omega
                    clear hc HA hm hb' hm'
                    go_wp2
                    go_loop [11] (fun i => ∃ j : Nat, p ≤ j ∧ j ≤ t.size ∧ i = .int .i64 j ∧ Hid (m = endAt stopB t.data.toList j)) (fun i => t.size - (intOf i).toNat)
                    case atStart => exact ⟨p, by omega, by omega, rfl, HM⟩
                    case round =>
                      obtain ⟨j, hj1, hj2, rfl, hE⟩ := hrel
                      by_cases hjl : j < t.size
                      · have hbj := hid (blank_int t[j])
                        by_cases hst : stopB t[j] = true
                        · have hmj : m = j := by rw [hE.out]; exact endAt_stop _ t j hjl hst
                          have hor : ((t[j].toNat : Int) != 9) = false ∨ (((t[j].toNat : Int) != 9) = true ∧ ((t[j].toNat : Int) != 32) = false) ∨ (((t[j].toNat : Int) != 9) = true ∧ ((t[j].toNat : Int) != 32) = true ∧ ((t[j].toNat : Int) != 35) = false) ∨ (((t[j].toNat : Int) != 9) = true ∧ ((t[j].toNat : Int) != 32) = true ∧ ((t[j].toNat : Int) != 35) = true ∧ markB t[j] = true) := stop_ways hst
                          clear hst hbj
                          subst hmj
                          rcases hor with y9 | ⟨y9, y32⟩ | ⟨y9, y32, y35⟩ | ⟨y9, y32, y35, ym⟩
                          all_goals
                            go_wp2_with (first | (go_at_call 30; refine (single _ _).mono ?_; rintro e w' ⟨rfl, rfl⟩) | (at_builtin; refine app_one (P := Try.prog) (w0 := wr) (w := w1) (B := w1.heap.size) (e := 40) (news := [Value.int .i64 (↑k + 1), Value.string (t.extract p m)]) (s := ?_) (x := ?_) (t := 30) (i := i0) (z := _) (size := 2) (bytes := 24) (v := u7) (n := acc.length) (xs := pairs acc) (hgd := ?_) (ho := ?_) (ht := Try.underlying30) (hi := hi) (hz := hz0) (hsize := hz1) (hby := hz2) (hzs := ?_) (hsz := by decide) (hb32 := by decide) (hs := ?_) (hown := hown) (hbel := hbel) (hB := hsz) (hx := ?_) (hl := ?_) (h1 := ?_) (hn := ?_) (h := ?_); rfl; rotate_left 2; rfl; rfl; rfl; rfl; rfl; (simp [Value.oneCell']); omega; intro v2 w2 hown1 hbel1 hsz1))
                            go_roundg g2
                            case measure => omega
                            case rel => exact ⟨m, by omega, by omega, rfl, acc ++ [(k + 1, t.extract p m)], HA'.out, by rw [List.length_append, pairs_append]; exact hown1, hbel1, hsz1⟩
                        · have hst' : stopB t[j] = false := by simpa using hst
                          obtain ⟨y9, y32, y35, ym⟩ := stop_none hst'
                          have hE' : Hid (m = endAt stopB t.data.toList (j + 1)) := by show _ = _; rw [hE.out]; exact endAt_step _ t j hjl hst'
                          clear hst hbj hst'
                          go_wp2_with (go_at_call 30; refine (single _ _).mono ?_; rintro e w' ⟨rfl, rfl⟩)
                          go_round
                          case rel => exact ⟨j + 1, by omega, by omega, by go_num, hE'⟩
                          case measure => simp [intOf]; omega
                      · have hmj : m = j := by rw [hE.out]; exact endAt_end _ _ j (by simp; omega)
                        subst hmj
                        go_wp2_with (at_builtin; refine app_one (P := Try.prog) (w0 := wr) (w := w1) (B := w1.heap.size) (e := 40) (news := [Value.int .i64 (↑k + 1), Value.string (t.extract p m)]) (s := ?_) (x := ?_) (t := 30) (i := i0) (z := _) (size := 2) (bytes := 24) (v := u7) (n := acc.length) (xs := pairs acc) (hgd := ?_) (ho := ?_) (ht := Try.underlying30) (hi := hi) (hz := hz0) (hsize := hz1) (hby := hz2) (hzs := ?_) (hsz := by decide) (hb32 := by decide) (hs := ?_) (hown := hown) (hbel := hbel) (hB := hsz) (hx := ?_) (hl := ?_) (h1 := ?_) (hn := ?_) (h := ?_); rfl; rotate_left 2; rfl; rfl; rfl; rfl; rfl; (simp [Value.oneCell']); omega; intro v2 w2 hown1 hbel1 hsz1)
                        go_roundg g2
                        case measure => omega
                        case rel => exact ⟨m, by omega, by omega, rfl, acc ++ [(k + 1, t.extract p m)], HA'.out, by rw [List.length_append, pairs_append]; exact hown1, hbel1, hsz1⟩
            · have HA' := hid (tokAcc_out HA.out (by rw [← HT.out]; exact tokF_end t p hpl))
              clear HA
              go_wp2
              go_roundg g1
              case measure => omega
              case rel => exact ⟨k + 1, by omega, by go_num, acc, HA'.out, hown, hbel, hsz⟩
  · have hne : (errL s != 0) = true := by simpa using he
    have HE := hid he
    clear he
    go_enter Try.func20, Try.ntmps20
    go_wp2_with fail
    refine (refLines s _ hs).mono ?_
    rintro e w1 ⟨v1, rfl, own1, bel1, sz1⟩
    go_wp2
    go_ret3
    exact tokens_err HE bel1
end Go.Proofs.Ytlhocklcfhkbnaa.Sc
