/-
  IntervalAlgebra: the walk.
-/
import Derived.Test.YtmcoccfbbhnmfaaDoorIntervalCombinesW
namespace Go.Proofs.YtmcoccfbbhnmfaaDoor.Iw
set_option linter.unusedSimpArgs false
set_option linter.unusedVariables false
open Go.RowKit Sm Ip Im Kt Am

theorem alg_left {a b : List Iv} (ha : Bd 4294967296 a) (hb : Bd 4294967296 b) : compl 4294967296 (norm (a ++ b)) = inter (compl 4294967296 a) (compl 4294967296 b) :=
  can_uniq (compl_can (norm_bd (bd_append.2 ⟨ha, hb⟩))).1 (inter_can _ _).1 fun z => by
    rw [(compl_can (norm_bd (bd_append.2 ⟨ha, hb⟩))).2, (inter_can _ _).2, (compl_can ha).2, (compl_can hb).2, norm_has, has_append]
    cases decide (z < 4294967296) <;> cases hasB a z <;> cases hasB b z <;> rfl
theorem alg_twice {a : List Iv} (ha : Bd 4294967296 a) : compl 4294967296 (compl 4294967296 a) = norm a :=
  can_uniq (compl_can (compl_bd ha)).1 (norm_can a).1 fun z => by
    rw [(compl_can (compl_bd ha)).2, (compl_can ha).2, norm_has]
    rcases Nat.lt_or_ge z 4294967296 with h | h
    · rw [decide_eq_true h]; simp
    · rw [decide_eq_false (by omega)]
      cases hc : hasB a z
      · rfl
      · exact absurd (bd_has ha hc) (by omega)
theorem alg_parts {a b : List Iv} (ha : Bd 4294967296 a) (hb : Bd 4294967296 b) : norm (inter a b ++ subt a b) = norm a :=
  norm_same fun z => by
    rw [has_append, (inter_can a b).2, (subt_can ha hb).2]
    cases hasB a z <;> cases hasB b z <;> rfl
theorem alg_none {a b : List Iv} (ha : Bd 4294967296 a) (hb : Bd 4294967296 b) : inter (inter a b) (subt a b) = [] := by
  refine can_uniq (inter_can _ _).1 (t := []) (c := 0) trivial fun z => ?_
  rw [(inter_can _ _).2, (inter_can _ _).2, (subt_can ha hb).2, has_nil]
  cases hasB a z <;> cases hasB b z <;> rfl
set_option maxHeartbeats 4000000 in
set_option maxRecDepth 100000 in
theorem walkIntervalAlgebra (v1 v2 : Value) (a b : List Iv) (W : World) (ha : IsIv W v1 a) (hb : IsIv W v2 b) (ba : Bd 4294967296 a) (bb : Bd 4294967296 b) (hT : Tab W.heap.size W) :
    Calls Tryd.prog 6 #[v1, v2] W fun e w' => e = .returned (.bool true) ∧ Below W.heap.size W w' := by
  have HT := hid hT
  have ha0 := hid ha
  have hb0 := hid hb
  have HA := hid ba
  have HB := hid bb
  obtain ⟨p1, cap1, rfl, -⟩ := rows_open ha
  obtain ⟨p2, cap2, rfl, -⟩ := rows_open hb
  clear ha hb ba bb hT
  have C := few _ _ a b W ha0.out hb0.out
  by_cases hf : (decide (a.length ≤ 30) && decide (b.length ≤ 30)) = true
  case neg =>
    rw [Bool.not_eq_true] at hf
    rw [hf] at C
    clear hf
    go_enter Tryd.func6, Tryd.ntmps6
    go_wp2_with fail
    refine C.mono ?_
    rintro e w1 ⟨rfl, rfl⟩
    go_wp2_with fail
    go_ret
    exact ⟨rfl, Below.refl _ _⟩
  rw [hf] at C
  have HF := hid (lens hf)
  clear hf
  go_enter Tryd.func6, Tryd.ntmps6
  go_wp2_with fail
  refine (C).mono ?_
  rintro e w1 ⟨rfl, rfl⟩
  clear C
  go_wp2_with fail
  refine (normalize _ a _ ha0.out HA.out (by have := HF.out; omega)).mono ?_
  rintro e w2 ⟨v2, rfl, r2, b2⟩
  have Ha_2 := hid (rows_keep ha0.out b2)
  have Hb_2 := hid (rows_keep hb0.out b2)
  have Hn_2 := hid r2
  have B2 := b2
  clear b2 ha0 hb0 r2
  go_wp2_with fail
  refine (union _ _ a b _ Ha_2.out Hb_2.out HA.out HB.out (by have := HF.out; omega) (by have := HF.out; omega)).mono ?_
  rintro e w3 ⟨v3, rfl, r3, b3⟩
  have Ha_3 := hid (rows_keep Ha_2.out b3)
  have Hb_3 := hid (rows_keep Hb_2.out b3)
  have Hn_3 := hid (rows_keep Hn_2.out b3)
  have Hu_3 := hid r3
  have B3 := then_ B2 b3
  clear b3 Ha_2 Hb_2 Hn_2 B2 r3
  go_wp2_with fail
  refine (complement _ (norm (a ++ b)) _ Hu_3.out (norm_bd (bd_append.2 ⟨HA.out, HB.out⟩)) (by have := norm_len (a ++ b); rw [List.length_append] at this; have := HF.out; omega)).mono ?_
  rintro e w4 ⟨v4, rfl, r4, b4⟩
  have Ha_4 := hid (rows_keep Ha_3.out b4)
  have Hb_4 := hid (rows_keep Hb_3.out b4)
  have Hn_4 := hid (rows_keep Hn_3.out b4)
  have Hu_4 := hid (rows_keep Hu_3.out b4)
  have Hl_4 := hid r4
  have B4 := then_ B3 b4
  clear b4 Ha_3 Hb_3 Hn_3 Hu_3 B3 r4
  clear Hu_4
  go_wp2_with fail
  refine (complement _ a _ Ha_4.out HA.out (by have := HF.out; omega)).mono ?_
  rintro e w5 ⟨v5, rfl, r5, b5⟩
  have Ha_5 := hid (rows_keep Ha_4.out b5)
  have Hb_5 := hid (rows_keep Hb_4.out b5)
  have Hn_5 := hid (rows_keep Hn_4.out b5)
  have Hl_5 := hid (rows_keep Hl_4.out b5)
  have Hc_5 := hid r5
  have B5 := then_ B4 b5
  clear b5 Ha_4 Hb_4 Hn_4 Hl_4 B4 r5
  go_wp2_with fail
  refine (complement _ b _ Hb_5.out HB.out (by have := HF.out; omega)).mono ?_
  rintro e w6 ⟨v6, rfl, r6, b6⟩
  have Ha_6 := hid (rows_keep Ha_5.out b6)
  have Hb_6 := hid (rows_keep Hb_5.out b6)
  have Hn_6 := hid (rows_keep Hn_5.out b6)
  have Hl_6 := hid (rows_keep Hl_5.out b6)
  have Hc_6 := hid (rows_keep Hc_5.out b6)
  have Hd_6 := hid r6
  have B6 := then_ B5 b6
  clear b6 Ha_5 Hb_5 Hn_5 Hl_5 Hc_5 B5 r6
  go_wp2_with fail
  refine (intersect _ _ (compl 4294967296 a) (compl 4294967296 b) _ Hc_6.out Hd_6.out (compl_bd HA.out) (compl_bd HB.out) (by have := compl_len 4294967296 a; have := HF.out; omega) (by have := compl_len 4294967296 b; have := HF.out; omega)).mono ?_
  rintro e w7 ⟨v7, rfl, r7, b7⟩
  have Ha_7 := hid (rows_keep Ha_6.out b7)
  have Hb_7 := hid (rows_keep Hb_6.out b7)
  have Hn_7 := hid (rows_keep Hn_6.out b7)
  have Hl_7 := hid (rows_keep Hl_6.out b7)
  have Hc_7 := hid (rows_keep Hc_6.out b7)
  have Hd_7 := hid (rows_keep Hd_6.out b7)
  have Hr_7 := hid r7
  have B7 := then_ B6 b7
  clear b7 Ha_6 Hb_6 Hn_6 Hl_6 Hc_6 Hd_6 B6 r7
  clear Hc_7
  clear Hd_7
  go_wp2_with fail
  refine (keepIv _ _ (inter (compl 4294967296 a) (compl 4294967296 b)) _ (by rw [← alg_left HA.out HB.out]; exact Hl_7.out) Hr_7.out (by have := inter_len (compl 4294967296 a) (compl 4294967296 b); have := compl_len 4294967296 a; have := compl_len 4294967296 b; have := HF.out; omega)).mono ?_
  rintro e w8 ⟨rfl, b8⟩
  have Ha_8 := hid (rows_keep Ha_7.out b8)
  have Hb_8 := hid (rows_keep Hb_7.out b8)
  have Hn_8 := hid (rows_keep Hn_7.out b8)
  have Hl_8 := hid (rows_keep Hl_7.out b8)
  have Hr_8 := hid (rows_keep Hr_7.out b8)
  have B8 := then_ B7 b8
  clear b8 Ha_7 Hb_7 Hn_7 Hl_7 Hr_7 B7
  clear Hl_8
  clear Hr_8
  go_wp2_with fail
  refine (complement _ a _ Ha_8.out HA.out (by have := HF.out; omega)).mono ?_
  rintro e w9 ⟨v9, rfl, r9, b9⟩
  have Ha_9 := hid (rows_keep Ha_8.out b9)
  have Hb_9 := hid (rows_keep Hb_8.out b9)
  have Hn_9 := hid (rows_keep Hn_8.out b9)
  have Hc_9 := hid r9
  have B9 := then_ B8 b9
  clear b9 Ha_8 Hb_8 Hn_8 B8 r9
  go_wp2_with fail
  refine (complement _ (compl 4294967296 a) _ Hc_9.out (compl_bd HA.out) (by have := compl_len 4294967296 a; have := HF.out; omega)).mono ?_
  rintro e w10 ⟨v10, rfl, r10, b10⟩
  have Ha_10 := hid (rows_keep Ha_9.out b10)
  have Hb_10 := hid (rows_keep Hb_9.out b10)
  have Hn_10 := hid (rows_keep Hn_9.out b10)
  have Hc_10 := hid (rows_keep Hc_9.out b10)
  have Hd_10 := hid r10
  have B10 := then_ B9 b10
  clear b10 Ha_9 Hb_9 Hn_9 Hc_9 B9 r10
  clear Hc_10
  go_wp2_with fail
  refine (keepIv _ _ (norm a) _ (by rw [← alg_twice HA.out]; exact Hd_10.out) Hn_10.out (by have := norm_len a; have := HF.out; omega)).mono ?_
  rintro e w11 ⟨rfl, b11⟩
  have Ha_11 := hid (rows_keep Ha_10.out b11)
  have Hb_11 := hid (rows_keep Hb_10.out b11)
  have Hn_11 := hid (rows_keep Hn_10.out b11)
  have Hd_11 := hid (rows_keep Hd_10.out b11)
  have B11 := then_ B10 b11
  clear b11 Ha_10 Hb_10 Hn_10 Hd_10 B10
  clear Hd_11
  go_wp2_with fail
  refine (intersect _ _ a b _ Ha_11.out Hb_11.out HA.out HB.out (by have := HF.out; omega) (by have := HF.out; omega)).mono ?_
  rintro e w12 ⟨v12, rfl, r12, b12⟩
  have Ha_12 := hid (rows_keep Ha_11.out b12)
  have Hb_12 := hid (rows_keep Hb_11.out b12)
  have Hn_12 := hid (rows_keep Hn_11.out b12)
  have Hi_12 := hid r12
  have B12 := then_ B11 b12
  clear b12 Ha_11 Hb_11 Hn_11 B11 r12
  go_wp2_with fail
  refine (subtract _ _ a b _ Ha_12.out Hb_12.out HA.out HB.out (by have := HF.out; omega) (by have := HF.out; omega)).mono ?_
  rintro e w13 ⟨v13, rfl, r13, b13⟩
  have Ha_13 := hid (rows_keep Ha_12.out b13)
  have Hb_13 := hid (rows_keep Hb_12.out b13)
  have Hn_13 := hid (rows_keep Hn_12.out b13)
  have Hi_13 := hid (rows_keep Hi_12.out b13)
  have Hd_13 := hid r13
  have B13 := then_ B12 b13
  clear b13 Ha_12 Hb_12 Hn_12 Hi_12 B12 r13
  go_wp2_with fail
  refine (union _ _ (inter a b) (subt a b) _ Hi_13.out Hd_13.out (inter_bd HA.out) (subt_bd HA.out HB.out) (by have := inter_len a b; have := HF.out; omega) (by have := subt_len a b; have := HF.out; omega)).mono ?_
  rintro e w14 ⟨v14, rfl, r14, b14⟩
  have Ha_14 := hid (rows_keep Ha_13.out b14)
  have Hb_14 := hid (rows_keep Hb_13.out b14)
  have Hn_14 := hid (rows_keep Hn_13.out b14)
  have Hi_14 := hid (rows_keep Hi_13.out b14)
  have Hd_14 := hid (rows_keep Hd_13.out b14)
  have Hu_14 := hid r14
  have B14 := then_ B13 b14
  clear b14 Ha_13 Hb_13 Hn_13 Hi_13 Hd_13 B13 r14
  clear Hi_14
  clear Hd_14
  go_wp2_with fail
  refine (keepIv _ _ (norm a) _ (by rw [← alg_parts HA.out HB.out]; exact Hu_14.out) Hn_14.out (by have := norm_len a; have := HF.out; omega)).mono ?_
  rintro e w15 ⟨rfl, b15⟩
  have Ha_15 := hid (rows_keep Ha_14.out b15)
  have Hb_15 := hid (rows_keep Hb_14.out b15)
  have Hn_15 := hid (rows_keep Hn_14.out b15)
  have Hu_15 := hid (rows_keep Hu_14.out b15)
  have B15 := then_ B14 b15
  clear b15 Ha_14 Hb_14 Hn_14 Hu_14 B14
  clear Hu_15
  clear Hn_15
  go_wp2_with fail
  refine (intersect _ _ a b _ Ha_15.out Hb_15.out HA.out HB.out (by have := HF.out; omega) (by have := HF.out; omega)).mono ?_
  rintro e w16 ⟨v16, rfl, r16, b16⟩
  have Ha_16 := hid (rows_keep Ha_15.out b16)
  have Hb_16 := hid (rows_keep Hb_15.out b16)
  have Hi_16 := hid r16
  have B16 := then_ B15 b16
  clear b16 Ha_15 Hb_15 B15 r16
  go_wp2_with fail
  refine (subtract _ _ a b _ Ha_16.out Hb_16.out HA.out HB.out (by have := HF.out; omega) (by have := HF.out; omega)).mono ?_
  rintro e w17 ⟨v17, rfl, r17, b17⟩
  have Ha_17 := hid (rows_keep Ha_16.out b17)
  have Hb_17 := hid (rows_keep Hb_16.out b17)
  have Hi_17 := hid (rows_keep Hi_16.out b17)
  have Hd_17 := hid r17
  have B17 := then_ B16 b17
  clear b17 Ha_16 Hb_16 Hi_16 B16 r17
  go_wp2_with fail
  refine (intersect _ _ (inter a b) (subt a b) _ Hi_17.out Hd_17.out (inter_bd HA.out) (subt_bd HA.out HB.out) (by have := inter_len a b; have := HF.out; omega) (by have := subt_len a b; have := HF.out; omega)).mono ?_
  rintro e w18 ⟨v18, rfl, r18, b18⟩
  have Ha_18 := hid (rows_keep Ha_17.out b18)
  have Hb_18 := hid (rows_keep Hb_17.out b18)
  have Hi_18 := hid (rows_keep Hi_17.out b18)
  have Hd_18 := hid (rows_keep Hd_17.out b18)
  have Hz_18 := hid r18
  have B18 := then_ B17 b18
  clear b18 Ha_17 Hb_17 Hi_17 Hd_17 B17 r18
  clear Hi_18
  clear Hd_18
  clear Ha_18
  clear Hb_18
  have z0 := Hz_18.out
  rw [alg_none HA.out HB.out] at z0
  obtain ⟨pz, capz, rfl, -⟩ := rows_open z0
  clear z0
  simp only [List.length_nil]
  clear Hz_18
  go_wp2_with fail
  refine (sane _ (HT.out.on B18) B18.size).mono ?_
  rintro e w19 ⟨rfl, b19⟩
  have B19 := then_ B18 b19
  clear b19 B18
  go_wp2_with fail
  go_ret
  exact ⟨rfl, B19⟩
end Go.Proofs.YtmcoccfbbhnmfaaDoor.Iw
