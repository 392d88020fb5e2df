/-
  IntervalSizes: the walk.
-/
import Derived.Test.YtmcoccfbbhnmfaaDoorIntervalCombinesW
namespace Go.Proofs.YtmcoccfbbhnmfaaDoor.Iw
set_option linter.unusedSimpArgs false
set_option linter.unusedVariables false
open Go.RowKit Sm Ip Im Kt Am

set_option maxHeartbeats 4000000 in
set_option maxRecDepth 100000 in
theorem walkIntervalSizes (v1 v2 : Value) (a b : List Iv) (W : World) (ha : IsIv W v1 a) (hb : IsIv W v2 b) (ba : Bd 4294967296 a) (bb : Bd 4294967296 b) (hT : Tab W.heap.size W) :
    Calls Tryd.prog 7 #[v1, v2] W fun e w' => e = .returned (.bool true) ∧ Below W.heap.size W w' := by
  have HT := hid hT
  have ha0 := hid ha
  have hb0 := hid hb
  have HA := hid ba
  have HB := hid bb
  obtain ⟨p1, cap1, rfl, -⟩ := rows_open ha
  obtain ⟨p2, cap2, rfl, -⟩ := rows_open hb
  clear ha hb ba bb hT
  have C := few _ _ a b W ha0.out hb0.out
  by_cases hf : (decide (a.length ≤ 30) && decide (b.length ≤ 30)) = true
  case neg =>
    rw [Bool.not_eq_true] at hf
    rw [hf] at C
    clear hf
    go_enter Tryd.func7, Tryd.ntmps7
    go_wp2_with fail
    refine C.mono ?_
    rintro e w1 ⟨rfl, rfl⟩
    go_wp2_with fail
    go_ret
    exact ⟨rfl, Below.refl _ _⟩
  rw [hf] at C
  have HF := hid (lens hf)
  clear hf
  have hU := norm_bd (bd_append.2 ⟨HA.out, HB.out⟩)
  have e1 : sizeV (norm (a ++ b)) + sizeV (inter a b) = sizeV a + sizeV b := size_two HA.out HB.out hU (inter_bd HA.out) (fun z => by rw [norm_has, has_append]) (fun z => (inter_can a b).2 z)
  have e2 : sizeV a + sizeV (compl 4294967296 a) = 4294967296 := size_compl HA.out
  have e3 : sizeV a = 0 ↔ (norm a).length = 0 := sizeV_zero HA.out
  have l1 := sizeV_le hU
  have l2 := sizeV_le (inter_bd (b := b) HA.out)
  have l3 := sizeV_le HA.out
  have l4 := sizeV_le HB.out
  have l5 := sizeV_le (compl_bd HA.out)
  have HE := hid (And.intro e1 (And.intro e2 (And.intro e3 (And.intro l1 (And.intro l2 (And.intro l3 (And.intro l4 l5)))))))
  clear hU e1 e2 e3 l1 l2 l3 l4 l5
  go_enter Tryd.func7, Tryd.ntmps7
  go_wp2_with fail
  refine (C).mono ?_
  rintro e w1 ⟨rfl, rfl⟩
  clear C
  go_wp2_with fail
  refine (union _ _ a b _ ha0.out hb0.out HA.out HB.out (by have := HF.out; omega) (by have := HF.out; omega)).mono ?_
  rintro e w2 ⟨v2, rfl, r2, b2⟩
  have Ha_2 := hid (rows_keep ha0.out b2)
  have Hb_2 := hid (rows_keep hb0.out b2)
  have Hu_2 := hid r2
  have B2 := b2
  clear b2 ha0 hb0 r2
  go_wp2_with fail
  refine (size _ (norm (a ++ b)) _ Hu_2.out (norm_bd (bd_append.2 ⟨HA.out, HB.out⟩)) (by have := norm_len (a ++ b); rw [List.length_append] at this; have := HF.out; omega)).mono ?_
  rintro e w3 ⟨rfl, b3⟩
  have Ha_3 := hid (rows_keep Ha_2.out b3)
  have Hb_3 := hid (rows_keep Hb_2.out b3)
  have Hu_3 := hid (rows_keep Hu_2.out b3)
  have B3 := then_ B2 b3
  clear b3 Ha_2 Hb_2 Hu_2 B2
  clear Hu_3
  go_wp2_with fail
  refine (intersect _ _ a b _ Ha_3.out Hb_3.out HA.out HB.out (by have := HF.out; omega) (by have := HF.out; omega)).mono ?_
  rintro e w4 ⟨v4, rfl, r4, b4⟩
  have Ha_4 := hid (rows_keep Ha_3.out b4)
  have Hb_4 := hid (rows_keep Hb_3.out b4)
  have Hi_4 := hid r4
  have B4 := then_ B3 b4
  clear b4 Ha_3 Hb_3 B3 r4
  go_wp2_with fail
  refine (size _ (inter a b) _ Hi_4.out (inter_bd HA.out) (by have := inter_len a b; have := HF.out; omega)).mono ?_
  rintro e w5 ⟨rfl, b5⟩
  have Ha_5 := hid (rows_keep Ha_4.out b5)
  have Hb_5 := hid (rows_keep Hb_4.out b5)
  have Hi_5 := hid (rows_keep Hi_4.out b5)
  have B5 := then_ B4 b5
  clear b5 Ha_4 Hb_4 Hi_4 B4
  clear Hi_5
  go_wp2_with fail
  refine (size _ a _ Ha_5.out HA.out (by have := HF.out; omega)).mono ?_
  rintro e w6 ⟨rfl, b6⟩
  have Ha_6 := hid (rows_keep Ha_5.out b6)
  have Hb_6 := hid (rows_keep Hb_5.out b6)
  have B6 := then_ B5 b6
  clear b6 Ha_5 Hb_5 B5
  go_wp2_with fail
  refine (size _ b _ Hb_6.out HB.out (by have := HF.out; omega)).mono ?_
  rintro e w7 ⟨rfl, b7⟩
  have Ha_7 := hid (rows_keep Ha_6.out b7)
  have Hb_7 := hid (rows_keep Hb_6.out b7)
  have B7 := then_ B6 b7
  clear b7 Ha_6 Hb_6 B6
  clear Hb_7
  have qA : IntKind.u64.wrap ((sizeV (norm (a ++ b)) : Int) + (sizeV (inter a b) : Int)) = IntKind.u64.wrap ((sizeV a : Int) + (sizeV b : Int)) := congrArg _ (by have := HE.out; omega)
  go_wp2_with fail
  clear qA
  refine (size _ a _ Ha_7.out HA.out (by have := HF.out; omega)).mono ?_
  rintro e w8 ⟨rfl, b8⟩
  have Ha_8 := hid (rows_keep Ha_7.out b8)
  have B8 := then_ B7 b8
  clear b8 Ha_7 B7
  go_wp2_with fail
  refine (complement _ a _ Ha_8.out HA.out (by have := HF.out; omega)).mono ?_
  rintro e w9 ⟨v9, rfl, r9, b9⟩
  have Ha_9 := hid (rows_keep Ha_8.out b9)
  have Hc_9 := hid r9
  have B9 := then_ B8 b9
  clear b9 Ha_8 B8 r9
  go_wp2_with fail
  refine (size _ (compl 4294967296 a) _ Hc_9.out (compl_bd HA.out) (by have := compl_len 4294967296 a; have := HF.out; omega)).mono ?_
  rintro e w10 ⟨rfl, b10⟩
  have Ha_10 := hid (rows_keep Ha_9.out b10)
  have Hc_10 := hid (rows_keep Hc_9.out b10)
  have B10 := then_ B9 b10
  clear b10 Ha_9 Hc_9 B9
  clear Hc_10
  have qB : IntKind.u64.wrap ((sizeV a : Int) + (sizeV (compl 4294967296 a) : Int)) = 4294967296 := (congrArg IntKind.u64.wrap (show ((sizeV a : Int) + (sizeV (compl 4294967296 a) : Int)) = 4294967296 by have := HE.out; omega)).trans (by decide +kernel)
  go_wp2_with fail
  clear qB
  refine (size _ a _ Ha_10.out HA.out (by have := HF.out; omega)).mono ?_
  rintro e w11 ⟨rfl, b11⟩
  have Ha_11 := hid (rows_keep Ha_10.out b11)
  have B11 := then_ B10 b11
  clear b11 Ha_10 B10
  go_wp2_with fail
  refine (normalize _ a _ Ha_11.out HA.out (by have := HF.out; omega)).mono ?_
  rintro e w12 ⟨v12, rfl, r12, b12⟩
  have Ha_12 := hid (rows_keep Ha_11.out b12)
  have Hn_12 := hid r12
  have B12 := then_ B11 b12
  clear b12 Ha_11 B11 r12
  clear Ha_12
  obtain ⟨pn, capn, rfl, -⟩ := rows_open Hn_12.out
  clear Hn_12
  generalize hz : sizeV a = z at *
  generalize hn : (norm a).length = n at *
  have h3 : z = 0 ↔ n = 0 := HE.out.2.2.1
  clear HE hz hn
  by_cases hz : z = 0
  case pos =>
    obtain rfl : n = 0 := h3.1 hz
    subst hz
    clear h3
    go_wp2_with fail
    refine (sane _ (HT.out.on B12) B12.size).mono ?_
    rintro e w13 ⟨rfl, b13⟩
    have B13 := then_ B12 b13
    clear b13 B12
    go_wp2_with fail
    go_ret
    exact ⟨rfl, B13⟩
  have q1 : ((z : Int) == 0) = false := by simp; omega
  have q2 : ((n : Int) == 0) = false := by simp; omega
  clear h3 hz
  go_wp2_with fail
  refine (sane _ (HT.out.on B12) B12.size).mono ?_
  rintro e w13 ⟨rfl, b13⟩
  have B13 := then_ B12 b13
  clear b13 B12
  go_wp2_with fail
  go_ret
  exact ⟨rfl, B13⟩
end Go.Proofs.YtmcoccfbbhnmfaaDoor.Iw
