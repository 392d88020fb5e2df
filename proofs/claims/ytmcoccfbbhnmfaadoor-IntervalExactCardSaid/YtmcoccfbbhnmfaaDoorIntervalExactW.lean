/-
  IntervalExact: the walk.
-/
import Derived.Test.YtmcoccfbbhnmfaaDoorIntervalCombinesW
namespace Go.Proofs.YtmcoccfbbhnmfaaDoor.Iw
set_option linter.unusedSimpArgs false
set_option linter.unusedVariables false
open Go.RowKit Sm Ip Im Kt Am

set_option maxHeartbeats 4000000 in
set_option maxRecDepth 100000 in
theorem walkIntervalExact (v1 v2 : Value) (a b : List Iv) (W : World) (ha : IsIv W v1 a) (hb : IsIv W v2 b) (ba : Bd 4294967296 a) (bb : Bd 4294967296 b) (hT : Tab W.heap.size W) :
    Calls Tryd.prog 5 #[v1, v2] W fun e w' => e = .returned (.bool true) ∧ Below W.heap.size W w' := by
  have HT := hid hT
  have ha0 := hid ha
  have hb0 := hid hb
  have HA := hid ba
  have HB := hid bb
  obtain ⟨p1, cap1, rfl, -⟩ := rows_open ha
  obtain ⟨p2, cap2, rfl, -⟩ := rows_open hb
  clear ha hb ba bb hT
  have C := few _ _ a b W ha0.out hb0.out
  by_cases hf : (decide (a.length ≤ 30) && decide (b.length ≤ 30)) = true
  case neg =>
    rw [Bool.not_eq_true] at hf
    rw [hf] at C
    clear hf
    go_enter Tryd.func5, Tryd.ntmps5
    go_wp2_with fail
    refine C.mono ?_
    rintro e w1 ⟨rfl, rfl⟩
    go_wp2_with fail
    go_ret
    exact ⟨rfl, Below.refl _ _⟩
  rw [hf] at C
  have HF := hid (lens hf)
  clear hf
  go_enter Tryd.func5, Tryd.ntmps5
  go_wp2_with fail
  refine (C).mono ?_
  rintro e w1 ⟨rfl, rfl⟩
  clear C
  go_wp2_with fail
  refine (union _ _ a b _ ha0.out hb0.out HA.out HB.out (by have := HF.out; omega) (by have := HF.out; omega)).mono ?_
  rintro e w2 ⟨v2, rfl, r2, b2⟩
  have Ha_2 := hid (rows_keep ha0.out b2)
  have Hb_2 := hid (rows_keep hb0.out b2)
  have Hx_2 := hid r2
  have B2 := b2
  clear b2 ha0 hb0 r2
  go_wp2_with fail
  refine (refUnion _ _ a b _ Ha_2.out Hb_2.out HA.out HB.out (by have := HF.out; omega) (by have := HF.out; omega)).mono ?_
  rintro e w3 ⟨v3, rfl, r3, b3⟩
  have Ha_3 := hid (rows_keep Ha_2.out b3)
  have Hb_3 := hid (rows_keep Hb_2.out b3)
  have Hx_3 := hid (rows_keep Hx_2.out b3)
  have Hy_3 := hid r3
  have B3 := then_ B2 b3
  clear b3 Ha_2 Hb_2 Hx_2 B2 r3
  go_wp2_with fail
  refine (keepIv _ _ (norm (a ++ b)) _ Hx_3.out Hy_3.out (by have := norm_len (a ++ b); rw [List.length_append] at this; have := HF.out; omega)).mono ?_
  rintro e w4 ⟨rfl, b4⟩
  have Ha_4 := hid (rows_keep Ha_3.out b4)
  have Hb_4 := hid (rows_keep Hb_3.out b4)
  have Hx_4 := hid (rows_keep Hx_3.out b4)
  have Hy_4 := hid (rows_keep Hy_3.out b4)
  have B4 := then_ B3 b4
  clear b4 Ha_3 Hb_3 Hx_3 Hy_3 B3
  clear Hx_4
  clear Hy_4
  go_wp2_with fail
  refine (intersect _ _ a b _ Ha_4.out Hb_4.out HA.out HB.out (by have := HF.out; omega) (by have := HF.out; omega)).mono ?_
  rintro e w5 ⟨v5, rfl, r5, b5⟩
  have Ha_5 := hid (rows_keep Ha_4.out b5)
  have Hb_5 := hid (rows_keep Hb_4.out b5)
  have Hx_5 := hid r5
  have B5 := then_ B4 b5
  clear b5 Ha_4 Hb_4 B4 r5
  go_wp2_with fail
  refine (refIntersect _ _ a b _ Ha_5.out Hb_5.out HA.out HB.out (by have := HF.out; omega) (by have := HF.out; omega)).mono ?_
  rintro e w6 ⟨v6, rfl, r6, b6⟩
  have Ha_6 := hid (rows_keep Ha_5.out b6)
  have Hb_6 := hid (rows_keep Hb_5.out b6)
  have Hx_6 := hid (rows_keep Hx_5.out b6)
  have Hy_6 := hid r6
  have B6 := then_ B5 b6
  clear b6 Ha_5 Hb_5 Hx_5 B5 r6
  go_wp2_with fail
  refine (keepIv _ _ (inter a b) _ Hx_6.out Hy_6.out (by have := inter_len a b; have := HF.out; omega)).mono ?_
  rintro e w7 ⟨rfl, b7⟩
  have Ha_7 := hid (rows_keep Ha_6.out b7)
  have Hb_7 := hid (rows_keep Hb_6.out b7)
  have Hx_7 := hid (rows_keep Hx_6.out b7)
  have Hy_7 := hid (rows_keep Hy_6.out b7)
  have B7 := then_ B6 b7
  clear b7 Ha_6 Hb_6 Hx_6 Hy_6 B6
  clear Hx_7
  clear Hy_7
  go_wp2_with fail
  refine (subtract _ _ a b _ Ha_7.out Hb_7.out HA.out HB.out (by have := HF.out; omega) (by have := HF.out; omega)).mono ?_
  rintro e w8 ⟨v8, rfl, r8, b8⟩
  have Ha_8 := hid (rows_keep Ha_7.out b8)
  have Hb_8 := hid (rows_keep Hb_7.out b8)
  have Hx_8 := hid r8
  have B8 := then_ B7 b8
  clear b8 Ha_7 Hb_7 B7 r8
  go_wp2_with fail
  refine (refSubtract _ _ a b _ Ha_8.out Hb_8.out HA.out HB.out (by have := HF.out; omega) (by have := HF.out; omega)).mono ?_
  rintro e w9 ⟨v9, rfl, r9, b9⟩
  have Ha_9 := hid (rows_keep Ha_8.out b9)
  have Hb_9 := hid (rows_keep Hb_8.out b9)
  have Hx_9 := hid (rows_keep Hx_8.out b9)
  have Hy_9 := hid r9
  have B9 := then_ B8 b9
  clear b9 Ha_8 Hb_8 Hx_8 B8 r9
  go_wp2_with fail
  refine (keepIv _ _ (subt a b) _ Hx_9.out Hy_9.out (by have := subt_len a b; have := HF.out; omega)).mono ?_
  rintro e w10 ⟨rfl, b10⟩
  have Ha_10 := hid (rows_keep Ha_9.out b10)
  have Hb_10 := hid (rows_keep Hb_9.out b10)
  have Hx_10 := hid (rows_keep Hx_9.out b10)
  have Hy_10 := hid (rows_keep Hy_9.out b10)
  have B10 := then_ B9 b10
  clear b10 Ha_9 Hb_9 Hx_9 Hy_9 B9
  clear Hx_10
  clear Hy_10
  go_wp2_with fail
  refine (complement _ a _ Ha_10.out HA.out (by have := HF.out; omega)).mono ?_
  rintro e w11 ⟨v11, rfl, r11, b11⟩
  have Ha_11 := hid (rows_keep Ha_10.out b11)
  have Hb_11 := hid (rows_keep Hb_10.out b11)
  have Hx_11 := hid r11
  have B11 := then_ B10 b11
  clear b11 Ha_10 Hb_10 B10 r11
  go_wp2_with fail
  refine (refComplement _ a _ Ha_11.out HA.out (by have := HF.out; omega)).mono ?_
  rintro e w12 ⟨v12, rfl, r12, b12⟩
  have Ha_12 := hid (rows_keep Ha_11.out b12)
  have Hb_12 := hid (rows_keep Hb_11.out b12)
  have Hx_12 := hid (rows_keep Hx_11.out b12)
  have Hy_12 := hid r12
  have B12 := then_ B11 b12
  clear b12 Ha_11 Hb_11 Hx_11 B11 r12
  go_wp2_with fail
  refine (keepIv _ _ (compl 4294967296 a) _ Hx_12.out Hy_12.out (by have := compl_len 4294967296 a; have := HF.out; omega)).mono ?_
  rintro e w13 ⟨rfl, b13⟩
  have Ha_13 := hid (rows_keep Ha_12.out b13)
  have Hb_13 := hid (rows_keep Hb_12.out b13)
  have Hx_13 := hid (rows_keep Hx_12.out b13)
  have Hy_13 := hid (rows_keep Hy_12.out b13)
  have B13 := then_ B12 b13
  clear b13 Ha_12 Hb_12 Hx_12 Hy_12 B12
  clear Hx_13
  clear Hy_13
  go_wp2_with fail
  clear Hb_13
  refine (size _ a _ Ha_13.out HA.out (by have := HF.out; omega)).mono ?_
  rintro e w14 ⟨rfl, b14⟩
  have Ha_14 := hid (rows_keep Ha_13.out b14)
  have B14 := then_ B13 b14
  clear b14 Ha_13 B13
  go_wp2_with fail
  refine (refSize _ a _ Ha_14.out HA.out (by have := HF.out; omega)).mono ?_
  rintro e w15 ⟨rfl, b15⟩
  have Ha_15 := hid (rows_keep Ha_14.out b15)
  have B15 := then_ B14 b15
  clear b15 Ha_14 B14
  clear Ha_15
  go_wp2_with fail
  refine (sane _ (HT.out.on B15) B15.size).mono ?_
  rintro e w16 ⟨rfl, b16⟩
  have B16 := then_ B15 b16
  clear b16 B15
  go_wp2_with fail
  go_ret
  exact ⟨rfl, B16⟩
end Go.Proofs.YtmcoccfbbhnmfaaDoor.Iw
