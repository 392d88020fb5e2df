/-
  IntervalNormalizes: the walk.
-/
import Derived.Test.YtmcoccfbbhnmfaaDoorIvlW
import Derived.Test.YtmcoccfbbhnmfaaDoorIvlL
import Derived.Test.YtmcoccfbbhnmfaaDoorIvlC
namespace Go.Proofs.YtmcoccfbbhnmfaaDoor.Iw
set_option linter.unusedSimpArgs false
set_option linter.unusedVariables false
open Go.RowKit Sm Ip Im Kt Am

theorem can_norm (s : List Iv) : canB (norm s) = true := canB_iff.2 (norm_can s).1
set_option maxHeartbeats 4000000 in
set_option maxRecDepth 100000 in
theorem walkIntervalNormalizes (v : Value) (s : List Iv) (x : Nat) (W : World) (hs : IsIv W v s) (hb : Bd 4294967296 s) (hT : Tab W.heap.size W) :
    Calls Tryd.prog 3 #[v, .int .u32 (x : Int)] W fun e w' => e = .returned (.bool true) ∧ Below W.heap.size W w' := by
  have HT := hid hT
  have hs0 := hid hs
  have HB := hid hb
  obtain ⟨p, cap, rfl, -⟩ := rows_open hs
  clear hs hb hT
  have C := few _ _ s [] W hs0.out (iv_nil W)
  by_cases hf : s.length ≤ 30
  case neg =>
    rw [decide_eq_false hf] at C
    clear hf
    go_enter Tryd.func3, Tryd.ntmps3
    go_wp2_with fail
    refine C.mono ?_
    rintro e w1 ⟨rfl, rfl⟩
    go_wp2_with fail
    go_ret
    exact ⟨rfl, Below.refl _ _⟩
  rw [decide_eq_true hf] at C
  have HF := hid hf
  have hl := hid (Nat.le_trans hf (show 30 ≤ 10000000000 by decide))
  have hnl := hid (Nat.le_trans (norm_len s) hl.out)
  clear hf
  go_enter Tryd.func3, Tryd.ntmps3
  go_wp2_with fail
  refine (C).mono ?_
  rintro e w1 ⟨rfl, rfl⟩
  clear C
  go_wp2_with fail
  refine (normalize _ s _ hs0.out HB.out hl.out).mono ?_
  rintro e w2 ⟨v2, rfl, r2, b2⟩
  have Hs_2 := hid (rows_keep hs0.out b2)
  have Hn_2 := hid r2
  have B2 := b2
  clear b2 hs0 r2
  go_wp2_with fail
  refine (refNormalize _ s _ Hs_2.out HB.out hl.out).mono ?_
  rintro e w3 ⟨v3, rfl, r3, b3⟩
  have Hs_3 := hid (rows_keep Hs_2.out b3)
  have Hn_3 := hid (rows_keep Hn_2.out b3)
  have Hr_3 := hid r3
  have B3 := then_ B2 b3
  clear b3 Hs_2 Hn_2 B2 r3
  go_wp2_with fail
  refine (keepIv _ _ (norm s) _ Hn_3.out Hr_3.out hnl.out).mono ?_
  rintro e w4 ⟨rfl, b4⟩
  have Hs_4 := hid (rows_keep Hs_3.out b4)
  have Hn_4 := hid (rows_keep Hn_3.out b4)
  have Hr_4 := hid (rows_keep Hr_3.out b4)
  have B4 := then_ B3 b4
  clear b4 Hs_3 Hn_3 Hr_3 B3
  clear Hr_4
  go_wp2_with fail
  refine (valid _ (norm s) _ Hn_4.out (norm_bd HB.out) hnl.out).mono ?_
  rintro e w5 ⟨rfl, b5⟩
  have Hs_5 := hid (rows_keep Hs_4.out b5)
  have Hn_5 := hid (rows_keep Hn_4.out b5)
  have B5 := then_ B4 b5
  clear b5 Hs_4 Hn_4 B4
  rw [can_norm]
  go_wp2_with fail
  refine (valid _ s _ Hs_5.out HB.out hl.out).mono ?_
  rintro e w6 ⟨rfl, b6⟩
  have Hs_6 := hid (rows_keep Hs_5.out b6)
  have Hn_6 := hid (rows_keep Hn_5.out b6)
  have B6 := then_ B5 b6
  clear b6 Hs_5 Hn_5 B5
  go_wp2_with fail
  refine (refCanonical _ s _ Hs_6.out HB.out hl.out).mono ?_
  rintro e w7 ⟨rfl, b7⟩
  have Hs_7 := hid (rows_keep Hs_6.out b7)
  have Hn_7 := hid (rows_keep Hn_6.out b7)
  have B7 := then_ B6 b7
  clear b7 Hs_6 Hn_6 B6
  go_wp2_with fail
  refine (has _ s x _ Hs_7.out hl.out).mono ?_
  rintro e w8 ⟨rfl, b8⟩
  have Hs_8 := hid (rows_keep Hs_7.out b8)
  have Hn_8 := hid (rows_keep Hn_7.out b8)
  have B8 := then_ B7 b8
  clear b8 Hs_7 Hn_7 B7
  go_wp2_with fail
  refine (refHas _ s x _ Hs_8.out hl.out).mono ?_
  rintro e w9 ⟨rfl, rfl⟩
  go_wp2_with fail
  refine (has _ (norm s) x _ Hn_8.out hnl.out).mono ?_
  rintro e w10 ⟨rfl, b10⟩
  have Hs_10 := hid (rows_keep Hs_8.out b10)
  have Hn_10 := hid (rows_keep Hn_8.out b10)
  have B10 := then_ B8 b10
  clear b10 Hs_8 Hn_8 B8
  rw [norm_has]
  go_wp2_with fail
  refine (has _ s x _ Hs_10.out hl.out).mono ?_
  rintro e w11 ⟨rfl, b11⟩
  have Hs_11 := hid (rows_keep Hs_10.out b11)
  have Hn_11 := hid (rows_keep Hn_10.out b11)
  have B11 := then_ B10 b11
  clear b11 Hs_10 Hn_10 B10
  go_wp2_with fail
  refine (sane _ (HT.out.on B11) B11.size).mono ?_
  rintro e w12 ⟨rfl, b12⟩
  have Hs_12 := hid (rows_keep Hs_11.out b12)
  have Hn_12 := hid (rows_keep Hn_11.out b12)
  have B12 := then_ B11 b12
  clear b12 Hs_11 Hn_11 B11
  go_wp2_with fail
  go_ret
  exact ⟨rfl, B12⟩
end Go.Proofs.YtmcoccfbbhnmfaaDoor.Iw
