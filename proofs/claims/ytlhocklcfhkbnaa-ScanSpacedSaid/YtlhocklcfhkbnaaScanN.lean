/-
  THE CONTRACT OF scan.Tokens.
-/
import Derived.Test.YtlhocklcfhkbnaaScanB
import Derived.Test.YtlhocklcfhkbnaaScanF
import Derived.Test.YtlhocklcfhkbnaaScanM2
import Derived.Test.YtlhocklcfhkbnaaScanPt
import Derived.Deep.LoopGhost
namespace Go.Proofs.Ytlhocklcfhkbnaa.Sc
set_option linter.unusedSimpArgs false
set_option linter.unusedVariables false
open Go.RowKit Sp Sm

theorem tokInfo : (Try.prog.info? 40).map (fun i => (i.zero, i.size, i.bytes)) = some (some (.agg #[.int .i64 0, .string ByteArray.empty]), 2, 24) := by kernel_rfl

/-- What Tokens leaves. -/
def TokensPost (s : ByteArray) (w : World) (e : Ending) (w' : World) : Prop :=
  ∃ v, e = .returned (.tuple #[v, .int .i64 ((linesL s).length : Nat), .int .i64 (errL s)]) ∧ w'.ownsRow w.heap.size 40 2 v (toksL s).length (pairs (toksL s)) ∧ Below w.heap.size w w' ∧ w.heap.size ≤ w'.heap.size

/-- Of the tokens of ls those before line k, and of line k those before position i, lie in acc. -/
def TokAcc (ls : List ByteArray) (acc : List (Nat × ByteArray)) (k i : Nat) : Prop :=
  acc ++ ((tokF (ls.getD k ByteArray.empty) i).map (fun x => (k + 1, x)) ++ tokensF (ls.drop (k + 1)) (k + 1 + 1)) = tokensF ls 1
def TokAll (ls : List ByteArray) (acc : List (Nat × ByteArray)) (k : Nat) : Prop := acc ++ tokensF (ls.drop k) (k + 1) = tokensF ls 1
theorem tokAcc_len {ls : List ByteArray} {acc : List (Nat × ByteArray)} {k i : Nat} (h : TokAcc ls acc k i) (hl : sizes ls ≤ 65536) : acc.length ≤ 65536 := by
  have e := congrArg List.length h
  rw [List.length_append] at e
  have := tokensF_len ls 1
  omega
theorem tokAll_in {ls : List ByteArray} {acc : List (Nat × ByteArray)} {k : Nat} (h : TokAll ls acc k) (hk : k < ls.length) : TokAcc ls acc k 0 := by
  unfold TokAcc; rw [← tokensF_drop ls k (k + 1) hk]; exact h
theorem tokAcc_out {ls : List ByteArray} {acc : List (Nat × ByteArray)} {k i : Nat} (h : TokAcc ls acc k i) (hn : tokF (ls.getD k ByteArray.empty) i = []) : TokAll ls acc (k + 1) := by
  unfold TokAll; unfold TokAcc at h; rw [hn] at h; exact h
theorem tokAcc_same {ls : List ByteArray} {acc : List (Nat × ByteArray)} {k i j : Nat} (h : TokAcc ls acc k i) (hn : tokF (ls.getD k ByteArray.empty) i = tokF (ls.getD k ByteArray.empty) j) : TokAcc ls acc k j := by
  unfold TokAcc at *; rw [← hn]; exact h
theorem tokAcc_one {ls : List ByteArray} {acc : List (Nat × ByteArray)} {k i j : Nat} {x : ByteArray} (h : TokAcc ls acc k i) (hn : tokF (ls.getD k ByteArray.empty) i = x :: tokF (ls.getD k ByteArray.empty) j) : TokAcc ls (acc ++ [(k + 1, x)]) k j := by
  unfold TokAcc at *; rw [hn] at h; rw [← h]; simp
theorem tokAll_end {ls : List ByteArray} {acc : List (Nat × ByteArray)} {k : Nat} (h : TokAll ls acc k) (hk : ls.length ≤ k) : acc = tokensF ls 1 := by
  unfold TokAll at h; rw [List.drop_eq_nil_of_le hk] at h; rw [← h]; simp [tokensF]

theorem tokens_err {s : ByteArray} {w w1 : World} (h : Hid (errL s ≠ 0)) (hb : Below w.heap.size w w1) : TokensPost s w (.returned (.tuple #[.slice none 0 0, .int .i64 0, .int .i64 (errL s)])) w1 := by
  refine ⟨.slice none 0 0, by rw [linesL_no h.out]; rfl, ?_, hb, hb.size⟩
  rw [toksL_no h.out]; exact World.ownsRow_nil _ _ _ _

theorem size_getD (ls : List ByteArray) (k : Nat) : (ls.getD k ByteArray.empty).size ≤ sizes ls := by
  rw [List.getD_eq_getElem?_getD]
  cases h : ls[k]? with
  | none => exact Nat.zero_le _
  | some t => exact size_mem (List.mem_of_getElem? h)
theorem tokens_fin {s : ByteArray} {w w' : World} {v : Value} {ls : List ByteArray} {n : Nat} (he : errL s = 0) (hl : ls = linesL s) (hn : n = ls.length)
    (hown : w'.ownsRow w.heap.size 40 2 v (tokensF ls 1).length (pairs (tokensF ls 1))) (hb : Below w.heap.size w w') :
    TokensPost s w (.returned (.tuple #[v, .int .i64 (n : Nat), .int .i64 0])) w' := by
  subst hl
  exact ⟨v, by rw [he, hn], hown, hb, hb.size⟩

/-- The tokens of a line: the loop's relation on memory. -/
def TokRel (ls : List ByteArray) (w1 : World) (v : Value) (P : List (Nat × ByteArray) → Prop) (wr : World) : Prop :=
  ∃ acc, P acc ∧ wr.ownsRow w1.heap.size 40 2 v acc.length (pairs acc) ∧ Below w1.heap.size w1 wr ∧ w1.heap.size ≤ wr.heap.size

set_option maxHeartbeats 4000000 in
set_option maxRecDepth 100000 in
theorem tokens (s : ByteArray) (w : World) (hs : s.size ≤ maxLen) :
    Calls Try.prog 17 #[.string s] w (TokensPost s w) := by
  obtain ⟨i0, hi, hz0, hz1, hz2⟩ := info_parts tokInfo
  by_cases he : errL s = 0
  · go_enter Try.func17, Try.ntmps17
    go_wp2
    go_step3
    go_wp2_with fail
    refine (lines s _ hs).mono ?_
    rintro e w1 ⟨v1, rfl, own1, bel1, sz1⟩
    have HE := hid he
    rw [he]
    clear he
    obtain ⟨n, hn⟩ : ∃ n, n = (linesL s).length := ⟨_, rfl⟩
    have hn6 : n ≤ 65537 := by rw [hn]; exact linesL_len s
    rw [← hn] at own1
    have HN := hid hn
    clear hn
    have oc := own1.2
    rcases oc with ⟨rfl, rfl⟩ | ⟨g, cap, cur, rfl, hbg, hg, hnc, hcm, hcs, htake⟩
    · go_wp2
      go_step3
      go_wp2
      refine wp_loop_rounds 1 ?_
      rw [rounds_succ]
      go_wp2
      try rw [Exit.noGoto_ret]
      go_ret3
      refine ⟨.slice none 0 0, by rw [HE.out, ← HN.out]; rfl, ?_, bel1, sz1⟩
      have hl : linesL s = [] := List.eq_nil_of_length_eq_zero HN.out.symm
      have ht : toksL s = [] := by unfold toksL; rw [hl]; rfl
      rw [ht]; exact World.ownsRow_nil _ _ _ _
    · have cells : ∀ j, j < n → w1.cell? ⟨g, j, none⟩ = some (.string ((linesL s).getD j ByteArray.empty)) := by
        intro j hj
        rw [own1.cellAt j (by omega)]
        unfold strs
        have hj' : j < (linesL s).length := by rw [← HN.out]; exact hj
        rw [List.getElem?_map, List.getElem?_eq_getElem hj', List.getD_eq_getElem?_getD, List.getElem?_eq_getElem hj']; rfl
      have hgl : g < w1.heap.size := (own1.lt g rfl).2
      have HC := hid cells
      have HS := hid (linesL_sizes s)
      clear cells own1 hcs htake hg hnc hcm
      obtain ⟨ls, hls⟩ : ∃ ls, ls = linesL s := ⟨_, rfl⟩
      rw [← hls] at HC HS HN
      have HL := hid hls
      clear hls
      go_wp2
      go_step3
      go_wp2
      go_loopg [7, 22] n (fun gg v i wr => ∃ k : Nat, k + gg = n ∧ i = .int .i64 k ∧ TokRel ls w1 v (fun acc => TokAll ls acc k) wr)
      case atStart => exact ⟨0, by omega, rfl, [], rfl, World.ownsRow_nil _ _ _ _, Below.refl _ _, Nat.le_refl _⟩
      case round =>
        obtain ⟨k, hk, rfl, acc, hacc, hown, hbel, hsz⟩ := hrel
        cases gk with
        | zero =>
          have hlt : ¬ ((k : Int) < (n : Int)) := by omega
          have hkn : k = n := by omega
          have hac : acc = tokensF ls 1 := tokAll_end hacc (by rw [← HN.out]; omega)
          have HAc := hid hac
          clear hkn hac hacc
          go_wp2
          try rw [Exit.noGoto_ret]
          go_ret3
          have hb2 : Below w.heap.size w wr := bel1.trans (hbel.mono sz1)
          refine tokens_fin HE.out HL.out HN.out ?_ hb2
          rw [← HAc.out]; exact own_mono hown sz1
        | succ g1 =>
          have hlt : k < n := by omega
          obtain ⟨t, ht⟩ : ∃ t, t = ls.getD k ByteArray.empty := ⟨_, rfl⟩
          have hcell : wr.cell? ⟨g, k, none⟩ = some (.string t) := by rw [ht]; exact (hbel.cell (p := ⟨g, k, none⟩) hgl).trans (HC.out k hlt)
          have HT := hid ht
          clear ht
          have HA := hid (tokAll_in hacc (by rw [← HN.out]; exact hlt))
          clear hacc
          have hts : t.size ≤ 65536 := Nat.le_trans (by rw [HT.out]; exact size_getD ls k) HS.out
          have htm : t.size ≤ maxLen := by unfold maxLen; omega
          go_wp2
          go_loopg [7, 10] (t.size + 1) (fun gg v i wr2 => ∃ p : Nat, p ≤ t.size ∧ t.size < p + gg ∧ i = .int .i64 p ∧ TokRel ls w1 v (fun acc => TokAcc ls acc k p) wr2)
          case atStart => exact ⟨0, by omega, by omega, rfl, acc, HA.out, hown, hbel, hsz⟩
          case round =>
            clear hown hbel hsz HA hcell
            obtain ⟨p, hp, hpg, rfl, acc, hacc, hown, hbel, hsz⟩ := hrel
            have hal := tokAcc_len hacc HS.out
            have HA := hid hacc
            clear hacc
            obtain ⟨g2, rfl⟩ : ∃ g2, gk = g2 + 1 := ⟨gk - 1, by omega⟩
            by_cases hpl : p < t.size
            · by_cases hc : t[p] = 35
              · have hci : ((t[p].toNat : Int) == 35) = true := by rw [hc]; rfl
                have HA' := hid (tokAcc_out HA.out (by rw [← HT.out]; exact tokF_comment t p hpl hc))
                clear hc HA
                go_wp2
                go_roundg g1
                case measure => omega
                case rel => exact ⟨k + 1, by omega, by go_num, acc, HA'.out, hown, hbel, hsz⟩
              · have hci : ((t[p].toNat : Int) == 35) = false := u8_ne (d := 35) hc
                by_cases hb : blankB t[p] = true
                · have HA' := hid (tokAcc_same HA.out (j := p + 1) (by rw [← HT.out]; exact tokF_blank t p hpl hc hb))
                  clear hc HA
                  go_wp2_with (go_at_call 28; refine (isIn_blanks _ _).mono ?_; rintro e w' ⟨rfl, rfl⟩)
                  go_roundg g2
                  case measure => omega
                  case rel => exact ⟨p + 1, by omega, by omega, by go_num, acc, HA'.out, hown, hbel, hsz⟩
                · have hb' : blankB t[p] = false := by simpa using hb
                  clear hb
                  by_cases hm : markB t[p] = true
                  · have HA' := hid (tokAcc_one HA.out (j := p + 1) (x := t.extract p (p + 1)) (by rw [← HT.out]; exact tokF_mark t p hpl hc hb' hm))
                    clear hc HA
                    have B := fun wx => isIn_blanks t[p] wx
                    have M := fun wx => isIn_marks t[p] wx
                    go_wp2_with fail
                    refine (B _).mono ?_
                    rintro e w' ⟨rfl, rfl⟩
                    go_wp2_with fail
                    refine (M _).mono ?_
                    rintro e w' ⟨rfl, rfl⟩
                    go_wp2_with (at_builtin; refine app_one rfl _ _ _ rfl 40 i0 _ 2 24 Try.underlying30 hi hz0 hz1 hz2 rfl (by decide) (by decide) w1.heap.size w1 wr u7 acc.length (pairs acc) [.int .i64 (↑k + 1), .string (t.extract p (p + 1))] rfl hown hbel hsz rfl rfl (by simp [Value.oneCell']) (by omega) ?_; intro v2 w2 hown1 hbel1 hsz1)
                    go_roundg g2
                    case measure => omega
                    case rel => exact ⟨p + 1, by omega, by omega, by go_num, acc ++ [(k + 1, t.extract p (p + 1))], HA'.out, by rw [List.length_append, pairs_append]; exact hown1, hbel1, hsz1⟩
                  · have hm' : markB t[p] = false := by simpa using hm
                    clear hm
                    have HA' := hid (tokAcc_one HA.out (j := endAt stopB t.data.toList p) (x := t.extract p (endAt stopB t.data.toList p)) (by rw [← HT.out]; exact tokF_word t p hpl hc hb' hm'))
                    have q1 := endAt_gt stopB t p hpl (stop_false hc hb' hm')
                    have q2 : endAt stopB t.data.toList p ≤ t.size := by have := endAt_le stopB t.data.toList p (by simp; omega); rwa [len_data] at this
                    have R := fun wx => runEnd_stops t p wx htm hp
                    obtain ⟨m, hm⟩ : ∃ m, m = endAt stopB t.data.toList p := ⟨_, rfl⟩
                    rw [← hm] at HA' q1 q2 R
                    clear hc HA hm
                    have B := fun wx => isIn_blanks t[p] wx
                    have M := fun wx => isIn_marks t[p] wx
                    go_wp2_with fail
                    refine (B _).mono ?_
                    rintro e w' ⟨rfl, rfl⟩
                    go_wp2_with fail
                    refine (M _).mono ?_
                    rintro e w' ⟨rfl, rfl⟩
                    go_wp2_with fail
                    refine (R _).mono ?_
                    rintro e w' ⟨rfl, rfl⟩
                    go_wp2_with (at_builtin; refine app_one (P := Try.prog) (w0 := wr) (w := w1) (B := w1.heap.size) (e := 40) (news := [Value.int .i64 (↑k + 1), Value.string (t.extract p m)]) (s := ?x2) (x := ?x3) (t := 30) (i := i0) (z := _) (size := 2) (bytes := 24) (v := u7) (n := acc.length) (xs := pairs acc) (hgd := ?x1) (ho := ?x5) (ht := Try.underlying30) (hi := hi) (hz := hz0) (hsize := hz1) (hby := hz2) (hzs := ?y3) (hsz := by decide) (hb32 := by decide) (hs := ?y6) (hown := hown) (hbel := hbel) (hB := hsz) (hx := ?z1) (hl := ?z2) (h1 := ?z3) (hn := ?z4) (h := ?z5); (case x1 => rfl); (case x5 => rfl); (case y3 => rfl); (case y6 => rfl); (case z1 => rfl); (case z2 => rfl); (case z3 => simp [Value.oneCell']); (case z4 => omega); intro v2 w2 hown1 hbel1 hsz1)
                    go_roundg g2
                    case measure => omega
                    case rel => exact ⟨m, by omega, by omega, rfl, acc ++ [(k + 1, t.extract p m)], HA'.out, by rw [List.length_append, pairs_append]; exact hown1, hbel1, hsz1⟩
            · have HA' := hid (tokAcc_out HA.out (by rw [← HT.out]; exact tokF_end t p hpl))
              clear HA
              go_wp2
              go_roundg g1
              case measure => omega
              case rel => exact ⟨k + 1, by omega, by go_num, acc, HA'.out, hown, hbel, hsz⟩
  · have hne : (errL s != 0) = true := by simpa using he
    have HE := hid he
    clear he
    go_enter Try.func17, Try.ntmps17
    go_wp2
    go_step3
    go_wp2_with fail
    refine (lines s _ hs).mono ?_
    rintro e w1 ⟨v1, rfl, own1, bel1, sz1⟩
    go_wp2
    try rw [Exit.noGoto_ret]
    go_ret3
    exact tokens_err HE bel1
end Go.Proofs.Ytlhocklcfhkbnaa.Sc
