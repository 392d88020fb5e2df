/-
  THE CONTRACT OF THE REFERENCE's Lines.
-/
import Derived.Test.YtlhocklcfhkbnaaScanF
namespace Go.Proofs.Ytlhocklcfhkbnaa.Sc
set_option linter.unusedSimpArgs false
set_option linter.unusedVariables false
open Go.RowKit Sp Sm

set_option maxHeartbeats 2000000 in
set_option maxRecDepth 100000 in
theorem refLines (s : ByteArray) (w : World) (hs : s.size ≤ maxLen) :
    Calls Try.prog 14 #[.string s] w (LinesPost s w) := by
  unfold maxLen at hs
  obtain ⟨i0, hi, hz0, hz1, hz2⟩ := info_parts strInfo
  by_cases hl : 65536 < s.size
  · have he : Hid (errL s = 7) := errL_long hl
    go_enter Try.func14, Try.ntmps14
    go_wp2
    go_ret2
    exact lines_err he (by decide) rfl
  · go_enter Try.func14, Try.ntmps14
    go_wp2
    go_loopw [4, 5, 6] (fun v st i wr => ∃ b k : Nat, k ≤ s.size ∧ i = .int .i64 k ∧ st = .int .i64 b ∧ b ≤ k ∧ LinesRel s w v b k wr) (fun _ _ i _ => s.size - (intOf i).toNat)
    case atStart => exact ⟨0, 0, by omega, rfl, rfl, by omega, [], by simp, by omega, rfl, rfl, World.ownsRow_nil _ _ _ _, Below.refl _ _, Nat.le_refl _⟩
    case round =>
      obtain ⟨b, k, hk, rfl, rfl, hbk, acc, ha, hb2, hT, hL, hown, hbel, hsz⟩ := hrel
      have HT := hid hT
      have HL := hid hL
      clear hT hL
      by_cases hlt : k < s.size
      · have hsu := hid (textTo_succ s k hlt)
        have hdi := hid (text_int s[k])
        have yes : Hid (textB s[k] = true → textTo s (k + 1) = true) := fun hp => by rw [hsu.out, HT.out, hp]; rfl
        have nol : Hid (((s[k].toNat : Int) == 10) = false → acc ++ linesF s b (k + 1) = linesF s 0 0) := fun h => by
          rw [← HL.out, linesF_no s b k hlt (by rintro e; rw [e] at h; cases h)]
        clear hsu
        by_cases n10 : ((s[k].toNat : Int) == 10) = true
        · have hn : s[k] = 10 := UInt8.toNat_inj.1 (by simp at n10; simp; omega)
          have hT' : Hid (textTo s (k + 1) = true) := yes.out (by rw [hn]; rfl)
          have hL' : Hid ((acc ++ [s.extract b k]) ++ linesF s (k + 1) (k + 1) = linesF s 0 0) := by
            show _ = _
            rw [← HL.out, linesF_nl s b k hlt hn]; simp
          have n9 : ((s[k].toNat : Int) == 9) = false := by rw [hn]; rfl
          have m9 : ((s[k].toNat : Int) != 9) = true := by rw [hn]; rfl
          have m10 : ((s[k].toNat : Int) != 10) = false := by rw [hn]; rfl
          clear hn yes nol hdi
          go_wp2_with (at_builtin; refine app_one rfl _ _ _ rfl 9 i0 _ 1 16 Try.underlying22 hi hz0 hz1 hz2 rfl (by decide) (by decide) w.heap.size w wr u4 acc.length (strs acc) [.string (s.extract b k)] rfl hown hbel hsz rfl rfl (by simp [Value.oneCell']) (by omega) ?_; intro v1 w1 hown1 hbel1 hsz1)
          go_roundw
          case rel => exact ⟨k + 1, k + 1, by omega, by go_num, by go_num, by omega, acc ++ [s.extract b k], by simp; omega, by omega, hT'.out, hL'.out, by rw [List.length_append, strs_append]; exact hown1, hbel1, hsz1⟩
          case measure => simp [intOf]; omega
        · have n10' : ((s[k].toNat : Int) == 10) = false := by simpa using n10
          have m10 : ((s[k].toNat : Int) != 10) = true := by simpa using n10
          clear n10
          have hL' : Hid (acc ++ linesF s b (k + 1) = linesF s 0 0) := nol.out n10'
          by_cases n9 : ((s[k].toNat : Int) == 9) = true
          · have hT' : Hid (textTo s (k + 1) = true) := yes.out (by rw [hdi.out]; simp at n9; simp; omega)
            have m9 : ((s[k].toNat : Int) != 9) = false := by simpa using n9
            clear yes nol hdi
            go_wp2
            go_roundw
            case rel => exact ⟨b, k + 1, by omega, by go_num, rfl, by omega, acc, by omega, by omega, hT'.out, hL'.out, hown, hbel, hsz⟩
            case measure => simp [intOf]; omega
          · have n9' : ((s[k].toNat : Int) == 9) = false := by simpa using n9
            have m9 : ((s[k].toNat : Int) != 9) = true := by simpa using n9
            clear n9
            by_cases hp : 32 ≤ (s[k].toNat : Int) ∧ (s[k].toNat : Int) ≤ 126
            · have hT' : Hid (textTo s (k + 1) = true) := yes.out (by rw [hdi.out]; simp; omega)
              obtain ⟨p1, p2⟩ := hp
              clear yes nol hdi
              go_wp2
              go_roundw
              case rel => exact ⟨b, k + 1, by omega, by go_num, rfl, by omega, acc, by omega, by omega, hT'.out, hL'.out, hown, hbel, hsz⟩
              case measure => simp [intOf]; omega
            · have hp' : textB s[k] = false := by
                rw [hdi.out]; simp at n9' n10' hp; simp; omega
              have he : Hid (errL s = 2) := errL_bad hl (textTo_no s (k + 1) s.size ((textTo_succ s k hlt).trans (by rw [HT.out, hp']; rfl)) (by omega) (Nat.le_refl _))
              have hor : (s[k].toNat : Int) < 32 ∨ 126 < (s[k].toNat : Int) := by omega
              clear hp yes nol hdi hp'
              rcases hor with hor | hor
              all_goals
                go_wp2
                go_ret2
                exact lines_err' he (by decide) hbel
      · have hkl : k = s.size := by omega
        have he : Hid (errL s = 0) := errL_ok hl (by rw [← hkl]; exact HT.out)
        have hLL : Hid (linesL s = acc ++ if b < s.size then [s.extract b s.size] else []) := by
          show _ = _
          rw [linesL_ok he.out, ← HL.out, linesF_end s b k hlt]
        clear hkl
        by_cases hb : b < s.size
        · have hF : Hid (linesL s = acc ++ [s.extract b s.size]) := by show _ = _; rw [hLL.out, if_pos hb]
          go_wp2_with (at_builtin; refine app_one rfl _ _ _ rfl 9 i0 _ 1 16 Try.underlying22 hi hz0 hz1 hz2 rfl (by decide) (by decide) w.heap.size w wr u4 acc.length (strs acc) [.string (s.extract b s.size)] rfl hown hbel hsz rfl rfl (by simp [Value.oneCell']) (by omega) ?_; intro v1 w1 hown1 hbel1 hsz1)
          go_ret2
          refine ⟨v1, by rw [he.out]; rfl, ?_, hbel1, hsz1⟩
          rw [hF.out, List.length_append, strs_append]; exact hown1
        · have hF : Hid (linesL s = acc) := by show _ = _; rw [hLL.out, if_neg hb, List.append_nil]
          go_wp2
          go_ret2
          refine ⟨_, by rw [he.out]; rfl, ?_, hbel, hsz⟩
          rw [hF.out]; exact hown
end Go.Proofs.Ytlhocklcfhkbnaa.Sc
