/-
  THE CONTRACT OF scan.Lines.
-/
import Derived.Test.YtlhocklcfhkbnaaScanA
import Derived.Test.YtlhocklcfhkbnaaScanM
import Derived.Test.YtlhocklcfhkbnaaScanPl
namespace Go.Proofs.Ytlhocklcfhkbnaa.Sc
set_option linter.unusedSimpArgs false
set_option linter.unusedVariables false
open Go.RowKit Sp Sm

theorem strInfo : (Try.prog.info? 9).map (fun i => (i.zero, i.size, i.bytes)) = some (some (.string ByteArray.empty), 1, 16) := by kernel_rfl

/-- What Lines leaves: the lines in memory of its own, the error, all else as it was. -/
def LinesPost (s : ByteArray) (w : World) (e : Ending) (w' : World) : Prop :=
  ∃ v, e = .returned (.tuple #[v, .int .i64 (errL s)]) ∧ w'.ownsRow w.heap.size 9 1 v (linesL s).length (strs (linesL s)) ∧ Below w.heap.size w w' ∧ w.heap.size ≤ w'.heap.size

theorem lines_err {s : ByteArray} {w w' : World} {c : Int} (h : Hid (errL s = c)) (hc : c ≠ 0) (hw : w = w') : LinesPost s w (.returned (.tuple #[.slice none 0 0, .int .i64 c])) w' := by
  subst hw
  refine ⟨.slice none 0 0, by rw [h.out], ?_, Below.refl _ _, Nat.le_refl _⟩
  rw [linesL_no (by rw [h.out]; exact hc)]
  exact World.ownsRow_nil _ _ _ _
theorem lines_err' {s : ByteArray} {w w' : World} {c : Int} (h : Hid (errL s = c)) (hc : c ≠ 0) (hw : Below w.heap.size w w') : LinesPost s w (.returned (.tuple #[.slice none 0 0, .int .i64 c])) w' := by
  refine ⟨.slice none 0 0, by rw [h.out], ?_, hw, hw.size⟩
  rw [linesL_no (by rw [h.out]; exact hc)]
  exact World.ownsRow_nil _ _ _ _

/-- The loop's relation. -/
def LinesRel (s : ByteArray) (w : World) (v : Value) (st k : Nat) (wr : World) : Prop :=
  ∃ acc : List ByteArray, acc.length ≤ k ∧ st ≤ k ∧ textTo s k = true ∧ acc ++ linesF s st k = linesF s 0 0 ∧
    wr.ownsRow w.heap.size 9 1 v acc.length (strs acc) ∧ Below w.heap.size w wr ∧ w.heap.size ≤ wr.heap.size

set_option maxHeartbeats 2000000 in
set_option maxRecDepth 100000 in
theorem lines (s : ByteArray) (w : World) (hs : s.size ≤ maxLen) :
    Calls Try.prog 13 #[.string s] w (LinesPost s w) := by
  unfold maxLen at hs
  obtain ⟨i0, hi, hz0, hz1, hz2⟩ := info_parts strInfo
  by_cases hl : 65536 < s.size
  · have he : Hid (errL s = 7) := errL_long hl
    go_enter Try.func13, Try.ntmps13
    go_wp2
    go_ret2
    exact lines_err he (by decide) rfl
  · go_enter Try.func13, Try.ntmps13
    go_wp2
    go_loopw [4, 5, 6] (fun v st i wr => ∃ b k : Nat, k ≤ s.size ∧ i = .int .i64 k ∧ st = .int .i64 b ∧ b ≤ k ∧ LinesRel s w v b k wr) (fun _ _ i _ => s.size - (intOf i).toNat)
    case atStart => exact ⟨0, 0, by omega, rfl, rfl, by omega, [], by simp, by omega, rfl, rfl, World.ownsRow_nil _ _ _ _, Below.refl _ _, Nat.le_refl _⟩
    case round =>
      obtain ⟨b, k, hk, rfl, rfl, hbk, acc, ha, hb2, hT, hL, hown, hbel, hsz⟩ := hrel
      have HT := hid hT
      have HL := hid hL
      clear hT hL
      by_cases hlt : k < s.size
      · have hsu := hid (textTo_succ s k hlt)
        by_cases hp : textB s[k] = true
        · have hT' : Hid (textTo s (k + 1) = true) := by show _ = _; rw [hsu.out, HT.out, hp]; rfl
          by_cases hn : s[k] = 10
          · have hL' : Hid ((acc ++ [s.extract b k]) ++ linesF s (k + 1) (k + 1) = linesF s 0 0) := by
              show _ = _
              rw [← HL.out, linesF_nl s b k hlt hn]; simp
            have hni : ((s[k].toNat : Int) == 10) = true := by rw [hn]; rfl
            clear hn hsu
            go_wp2_with (first
              | (go_at_call 27; refine (isTextByte _ _).mono ?_; rintro e w' ⟨rfl, rfl⟩)
              | (at_builtin; refine app_one rfl _ _ _ rfl 9 i0 _ 1 16 Try.underlying22 hi hz0 hz1 hz2 rfl (by decide) (by decide) w.heap.size w wr u4 acc.length (strs acc) [.string (s.extract b k)] rfl hown hbel hsz rfl rfl (by simp [Value.oneCell']) (by omega) ?_; intro v1 w1 hown1 hbel1 hsz1))
            go_roundw
            case rel => exact ⟨k + 1, k + 1, by omega, by go_num, by go_num, by omega, acc ++ [s.extract b k], by simp; omega, by omega, hT'.out, hL'.out, by rw [List.length_append, strs_append]; exact hown1, hbel1, hsz1⟩
            case measure => simp [intOf]; omega
          · have hL' : Hid (acc ++ linesF s b (k + 1) = linesF s 0 0) := by
              show _ = _
              rw [← HL.out, linesF_no s b k hlt hn]
            have hni : ((s[k].toNat : Int) == 10) = false := by
              rw [beq_eq_false_iff_ne]; intro h; exact hn (UInt8.toNat_inj.1 (by simpa using (by omega : s[k].toNat = 10)))
            clear hn hsu
            go_wp2_with (go_at_call 27; refine (isTextByte _ _).mono ?_; rintro e w' ⟨rfl, rfl⟩)
            go_roundw
            case rel => exact ⟨b, k + 1, by omega, by go_num, rfl, by omega, acc, by omega, by omega, hT'.out, hL'.out, hown, hbel, hsz⟩
            case measure => simp [intOf]; omega
        · have hp' : textB s[k] = false := by simpa using hp
          have he : Hid (errL s = 2) := errL_bad hl (textTo_no s (k + 1) s.size (hsu.out.trans (by rw [HT.out, hp']; rfl)) (by omega) (Nat.le_refl _))
          clear hp hsu
          go_wp2_with (go_at_call 27; refine (isTextByte _ _).mono ?_; rintro e w' ⟨rfl, rfl⟩)
          go_ret2
          exact lines_err' he (by decide) hbel
      · have hkl : k = s.size := by omega
        have he : Hid (errL s = 0) := errL_ok hl (by rw [← hkl]; exact HT.out)
        have hLL : Hid (linesL s = acc ++ if b < s.size then [s.extract b s.size] else []) := by
          show _ = _
          rw [linesL_ok he.out, ← HL.out, linesF_end s b k hlt]
        clear hkl
        by_cases hb : b < s.size
        · have hF : Hid (linesL s = acc ++ [s.extract b s.size]) := by show _ = _; rw [hLL.out, if_pos hb]
          go_wp2_with (at_builtin; refine app_one rfl _ _ _ rfl 9 i0 _ 1 16 Try.underlying22 hi hz0 hz1 hz2 rfl (by decide) (by decide) w.heap.size w wr u4 acc.length (strs acc) [.string (s.extract b s.size)] rfl hown hbel hsz rfl rfl (by simp [Value.oneCell']) (by omega) ?_; intro v1 w1 hown1 hbel1 hsz1)
          go_ret2
          refine ⟨v1, by rw [he.out]; rfl, ?_, hbel1, hsz1⟩
          rw [hF.out, List.length_append, strs_append]; exact hown1
        · have hF : Hid (linesL s = acc) := by show _ = _; rw [hLL.out, if_neg hb, List.append_nil]
          go_wp2
          go_ret2
          refine ⟨_, by rw [he.out]; rfl, ?_, hbel, hsz⟩
          rw [hF.out]; exact hown
end Go.Proofs.Ytlhocklcfhkbnaa.Sc
