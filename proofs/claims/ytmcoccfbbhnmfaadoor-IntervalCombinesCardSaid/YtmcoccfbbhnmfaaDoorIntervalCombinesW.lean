/-
  IntervalCombines: the walk.
-/
import Derived.Test.YtmcoccfbbhnmfaaDoorIvlW
import Derived.Test.YtmcoccfbbhnmfaaDoorIvlL
import Derived.Test.YtmcoccfbbhnmfaaDoorIvlJ
import Derived.Test.YtmcoccfbbhnmfaaDoorIvlC
namespace Go.Proofs.YtmcoccfbbhnmfaaDoor.Iw
set_option linter.unusedSimpArgs false
set_option linter.unusedVariables false
open Go.RowKit Sm Ip Im Kt Am

theorem lens {a b : List Iv} (h : (decide (a.length ≤ 30) && decide (b.length ≤ 30)) = true) : a.length ≤ 30 ∧ b.length ≤ 30 := by simpa using h
theorem can_norm2 {t : List Iv} (h : Ip.Can 0 t) : canB t = true := canB_iff.2 h
set_option maxHeartbeats 4000000 in
set_option maxRecDepth 100000 in
theorem walkIntervalCombines (v1 v2 : Value) (a b : List Iv) (x : Nat) (hx : x < 4294967296) (W : World) (ha : IsIv W v1 a) (hb : IsIv W v2 b) (ba : Bd 4294967296 a) (bb : Bd 4294967296 b) (hT : Tab W.heap.size W) :
    Calls Tryd.prog 4 #[v1, v2, .int .u32 (x : Int)] W fun e w' => e = .returned (.bool true) ∧ Below W.heap.size W w' := by
  have HT := hid hT
  have ha0 := hid ha
  have hb0 := hid hb
  have HA := hid ba
  have HB := hid bb
  obtain ⟨p1, cap1, rfl, -⟩ := rows_open ha
  obtain ⟨p2, cap2, rfl, -⟩ := rows_open hb
  clear ha hb ba bb hT
  have C := few _ _ a b W ha0.out hb0.out
  by_cases hf : (decide (a.length ≤ 30) && decide (b.length ≤ 30)) = true
  case neg =>
    rw [Bool.not_eq_true] at hf
    rw [hf] at C
    clear hf
    go_enter Tryd.func4, Tryd.ntmps4
    go_wp2_with fail
    refine C.mono ?_
    rintro e w1 ⟨rfl, rfl⟩
    go_wp2_with fail
    go_ret
    exact ⟨rfl, Below.refl _ _⟩
  rw [hf] at C
  have HF := hid (lens hf)
  clear hf
  obtain ⟨p, hp⟩ : ∃ p, p = hasB a x := ⟨_, rfl⟩
  obtain ⟨q, hq⟩ : ∃ q, q = hasB b x := ⟨_, rfl⟩
  have eU : hasB (norm (a ++ b)) x = (p || q) := by rw [norm_has, has_append, hp, hq]
  have eI : hasB (inter a b) x = (p && q) := by rw [(inter_can a b).2, hp, hq]
  have eD : hasB (subt a b) x = (p && !q) := by rw [(subt_can HA.out HB.out).2, hp, hq]
  have eC : hasB (compl 4294967296 a) x = !p := by rw [(compl_can HA.out).2, hp, decide_eq_true hx]; rfl
  clear hx
  cases p <;> cases q
  all_goals
    simp only [Bool.or_false, Bool.false_or, Bool.or_true, Bool.true_or, Bool.and_true, Bool.and_false, Bool.not_true, Bool.not_false] at eU eI eD eC
    have EU := hid eU
    have EI := hid eI
    have ED := hid eD
    have EC := hid eC
    have HP := hid hp.symm
    have HQ := hid hq.symm
    clear eU eI eD eC hp hq
    go_enter Tryd.func4, Tryd.ntmps4
    go_wp2_with fail
    refine (C).mono ?_
    rintro e w1 ⟨rfl, rfl⟩
    clear C
    go_wp2_with fail
    refine (union _ _ a b _ ha0.out hb0.out HA.out HB.out (by have := HF.out; omega) (by have := HF.out; omega)).mono ?_
    rintro e w2 ⟨v2, rfl, r2, b2⟩
    have Ha_2 := hid (rows_keep ha0.out b2)
    have Hb_2 := hid (rows_keep hb0.out b2)
    have Hu_2 := hid r2
    have B2 := b2
    clear b2 ha0 hb0 r2
    go_wp2_with fail
    refine (intersect _ _ a b _ Ha_2.out Hb_2.out HA.out HB.out (by have := HF.out; omega) (by have := HF.out; omega)).mono ?_
    rintro e w3 ⟨v3, rfl, r3, b3⟩
    have Ha_3 := hid (rows_keep Ha_2.out b3)
    have Hb_3 := hid (rows_keep Hb_2.out b3)
    have Hu_3 := hid (rows_keep Hu_2.out b3)
    have Hi_3 := hid r3
    have B3 := then_ B2 b3
    clear b3 Ha_2 Hb_2 Hu_2 B2 r3
    go_wp2_with fail
    refine (subtract _ _ a b _ Ha_3.out Hb_3.out HA.out HB.out (by have := HF.out; omega) (by have := HF.out; omega)).mono ?_
    rintro e w4 ⟨v4, rfl, r4, b4⟩
    have Ha_4 := hid (rows_keep Ha_3.out b4)
    have Hb_4 := hid (rows_keep Hb_3.out b4)
    have Hu_4 := hid (rows_keep Hu_3.out b4)
    have Hi_4 := hid (rows_keep Hi_3.out b4)
    have Hd_4 := hid r4
    have B4 := then_ B3 b4
    clear b4 Ha_3 Hb_3 Hu_3 Hi_3 B3 r4
    go_wp2_with fail
    refine (complement _ a _ Ha_4.out HA.out (by have := HF.out; omega)).mono ?_
    rintro e w5 ⟨v5, rfl, r5, b5⟩
    have Ha_5 := hid (rows_keep Ha_4.out b5)
    have Hb_5 := hid (rows_keep Hb_4.out b5)
    have Hu_5 := hid (rows_keep Hu_4.out b5)
    have Hi_5 := hid (rows_keep Hi_4.out b5)
    have Hd_5 := hid (rows_keep Hd_4.out b5)
    have Hc_5 := hid r5
    have B5 := then_ B4 b5
    clear b5 Ha_4 Hb_4 Hu_4 Hi_4 Hd_4 B4 r5
    go_wp2_with fail
    refine (refHas _ a x _ Ha_5.out (by have := HF.out; omega)).mono ?_
    rintro e w6 ⟨rfl, rfl⟩
    rw [HP.out]
    go_wp2_with fail
    refine (refHas _ b x _ Hb_5.out (by have := HF.out; omega)).mono ?_
    rintro e w7 ⟨rfl, rfl⟩
    rw [HQ.out]
    clear Ha_5
    clear Hb_5
    go_wp2_with fail
    refine (valid _ (norm (a ++ b)) _ Hu_5.out (norm_bd (bd_append.2 ⟨HA.out, HB.out⟩)) (by have := norm_len (a ++ b); rw [List.length_append] at this; have := HF.out; omega)).mono ?_
    rintro e w8 ⟨rfl, b8⟩
    have Hu_8 := hid (rows_keep Hu_5.out b8)
    have Hi_8 := hid (rows_keep Hi_5.out b8)
    have Hd_8 := hid (rows_keep Hd_5.out b8)
    have Hc_8 := hid (rows_keep Hc_5.out b8)
    have B8 := then_ B5 b8
    clear b8 Hu_5 Hi_5 Hd_5 Hc_5 B5
    rw [can_norm2 (norm_can _).1]
    go_wp2_with fail
    refine (valid _ (inter a b) _ Hi_8.out (inter_bd HA.out) (by have := inter_len a b; have := HF.out; omega)).mono ?_
    rintro e w9 ⟨rfl, b9⟩
    have Hu_9 := hid (rows_keep Hu_8.out b9)
    have Hi_9 := hid (rows_keep Hi_8.out b9)
    have Hd_9 := hid (rows_keep Hd_8.out b9)
    have Hc_9 := hid (rows_keep Hc_8.out b9)
    have B9 := then_ B8 b9
    clear b9 Hu_8 Hi_8 Hd_8 Hc_8 B8
    rw [can_norm2 (inter_can a b).1]
    go_wp2_with fail
    refine (valid _ (subt a b) _ Hd_9.out (subt_bd HA.out HB.out) (by have := subt_len a b; have := HF.out; omega)).mono ?_
    rintro e w10 ⟨rfl, b10⟩
    have Hu_10 := hid (rows_keep Hu_9.out b10)
    have Hi_10 := hid (rows_keep Hi_9.out b10)
    have Hd_10 := hid (rows_keep Hd_9.out b10)
    have Hc_10 := hid (rows_keep Hc_9.out b10)
    have B10 := then_ B9 b10
    clear b10 Hu_9 Hi_9 Hd_9 Hc_9 B9
    rw [can_norm2 (subt_can HA.out HB.out).1]
    go_wp2_with fail
    refine (valid _ (compl 4294967296 a) _ Hc_10.out (compl_bd HA.out) (by have := compl_len 4294967296 a; have := HF.out; omega)).mono ?_
    rintro e w11 ⟨rfl, b11⟩
    have Hu_11 := hid (rows_keep Hu_10.out b11)
    have Hi_11 := hid (rows_keep Hi_10.out b11)
    have Hd_11 := hid (rows_keep Hd_10.out b11)
    have Hc_11 := hid (rows_keep Hc_10.out b11)
    have B11 := then_ B10 b11
    clear b11 Hu_10 Hi_10 Hd_10 Hc_10 B10
    rw [can_norm2 (compl_can HA.out).1]
    go_wp2_with fail
    refine (has _ (norm (a ++ b)) x _ Hu_11.out (by have := norm_len (a ++ b); rw [List.length_append] at this; have := HF.out; omega)).mono ?_
    rintro e w12 ⟨rfl, b12⟩
    have Hu_12 := hid (rows_keep Hu_11.out b12)
    have Hi_12 := hid (rows_keep Hi_11.out b12)
    have Hd_12 := hid (rows_keep Hd_11.out b12)
    have Hc_12 := hid (rows_keep Hc_11.out b12)
    have B12 := then_ B11 b12
    clear b12 Hu_11 Hi_11 Hd_11 Hc_11 B11
    rw [EU.out]
    clear Hu_12
    go_wp2_with fail
    refine (has _ (inter a b) x _ Hi_12.out (by have := inter_len a b; have := HF.out; omega)).mono ?_
    rintro e w13 ⟨rfl, b13⟩
    have Hi_13 := hid (rows_keep Hi_12.out b13)
    have Hd_13 := hid (rows_keep Hd_12.out b13)
    have Hc_13 := hid (rows_keep Hc_12.out b13)
    have B13 := then_ B12 b13
    clear b13 Hi_12 Hd_12 Hc_12 B12
    rw [EI.out]
    clear Hi_13
    go_wp2_with fail
    refine (has _ (subt a b) x _ Hd_13.out (by have := subt_len a b; have := HF.out; omega)).mono ?_
    rintro e w14 ⟨rfl, b14⟩
    have Hd_14 := hid (rows_keep Hd_13.out b14)
    have Hc_14 := hid (rows_keep Hc_13.out b14)
    have B14 := then_ B13 b14
    clear b14 Hd_13 Hc_13 B13
    rw [ED.out]
    clear Hd_14
    go_wp2_with fail
    refine (has _ (compl 4294967296 a) x _ Hc_14.out (by have := compl_len 4294967296 a; have := HF.out; omega)).mono ?_
    rintro e w15 ⟨rfl, b15⟩
    have Hc_15 := hid (rows_keep Hc_14.out b15)
    have B15 := then_ B14 b15
    clear b15 Hc_14 B14
    rw [EC.out]
    clear Hc_15
    go_wp2_with fail
    refine (sane _ (HT.out.on B15) B15.size).mono ?_
    rintro e w16 ⟨rfl, b16⟩
    have B16 := then_ B15 b16
    clear b16 B15
    go_wp2_with fail
    go_ret
    exact ⟨rfl, B16⟩
end Go.Proofs.YtmcoccfbbhnmfaaDoor.Iw
