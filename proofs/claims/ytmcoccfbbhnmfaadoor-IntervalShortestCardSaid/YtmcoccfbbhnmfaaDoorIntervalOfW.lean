/-
  IntervalOf: the walk.
-/
import Derived.Test.YtmcoccfbbhnmfaaDoorIvlW
import Derived.Test.YtmcoccfbbhnmfaaDoorIntervalPrefixesW
namespace Go.Proofs.YtmcoccfbbhnmfaaDoor.Iw
set_option linter.unusedSimpArgs false
set_option linter.unusedVariables false
open Go.RowKit Sm Ip Im Kt Am

theorem valid_ok {a : Nat} {n : Int} (h : validB a n = true) (ha : a < 4294967296) : ∃ k : Nat, n = (k : Int) ∧ OkP (a, k) := by
  obtain ⟨⟨h1, h2⟩, h3⟩ := valid_iff.1 h
  obtain ⟨k, rfl⟩ := Int.eq_ofNat_of_zero_le h1
  have hk : k ≤ 32 := by omega
  rw [cl_nat k hk] at h3
  refine ⟨k, rfl, hk, h3, ?_⟩
  have hd := blk_dvd_all k
  have bp := blk_pos k
  obtain ⟨q, hq⟩ := hd
  obtain ⟨r, rfl⟩ := Nat.dvd_of_mod_eq_zero h3
  have hlt : r < q := by rw [hq] at ha; exact Nat.lt_of_mul_lt_mul_left ha
  show blk k * r + blk k ≤ _
  rw [hq]
  calc blk k * r + blk k = blk k * (r + 1) := by rw [Nat.mul_succ]
    _ ≤ blk k * q := Nat.mul_le_mul_left _ hlt
set_option maxHeartbeats 4000000 in
set_option maxRecDepth 100000 in
theorem walkIntervalOf (a : Nat) (ha : a < 4294967296) (m : Int) (x : Nat) (hx : x < 4294967296) (W : World) (hT : Tab W.heap.size W) :
    Calls Tryd.prog 10 #[Ad.px a m, .int .u32 (x : Int)] W fun e w' => e = .returned (.bool true) ∧ Below W.heap.size W w' := by
  have HT := hid hT
  have HX := hid hx
  have C := fun w => Ad.refValid a m w ha
  have j0 := heap_new W (.cells #[.int .u32 (a : Int), .int .i64 m] 37 (0, 0))
  have B0 := al1 W (.cells #[.int .u32 (a : Int), .int .i64 m] 37)
  clear hT hx
  by_cases hv : validB a m = true
  case neg =>
    rw [Bool.not_eq_true] at hv
    rw [hv] at C
    clear hv
    go_enter Tryd.func10, Tryd.ntmps10
    go_wp2_with fail
    generalize W.alloc (.cells #[.int .u32 (a : Int), .int .i64 m] 37) = w0 at *
    refine (C _).mono ?_
    rintro e w1 ⟨rfl, b1⟩
    have B1 := then_ B0 b1
    have jb := blk_two (blk_keep j0 b1)
    have j1 := jb.1.1
    have j2 := jb.1.2
    go_wp2_with fail
    go_ret
    exact ⟨rfl, B1⟩
  rw [hv] at C
  obtain ⟨k, rfl, hok⟩ := valid_ok hv ha
  clear hv
  have HO := hid hok
  go_enter Tryd.func10, Tryd.ntmps10
  go_wp2_with fail
  generalize W.alloc (.cells #[.int .u32 (a : Int), .int .i64 (k : Int)] 37) = w0 at *
  refine (C _).mono ?_
  rintro e w1 ⟨rfl, b1⟩
  have J1 := blk_keep j0 b1
  have B1 := then_ B0 b1
  clear b1 j0 B0 C hok ha
  have j1a := (blk_two J1).1.1
  have j1b := (blk_two J1).1.2
  go_wp2_with fail
  clear j1a j1b
  refine (of_ (a, k) _ HO.out).mono ?_
  rintro e w2 ⟨v2, rfl, r2, b2⟩
  have J2 := hid (blk_keep J1 b2)
  have B2 := then_ B1 b2
  clear b2 J1 B1
  obtain ⟨S, hS⟩ : ∃ S : List Iv, S = [(a, a + blk k - 1)] := ⟨_, rfl⟩
  have hS1 : S.length = 1 := by rw [hS]; rfl
  have hbd : Bd 4294967296 S := by
    have := HO.out; obtain ⟨-, -, h3⟩ := this
    have := blk_pos k
    simp only at h3
    rw [hS]; refine bd_cons.2 ⟨⟨?_, ?_⟩, bd_nil _⟩ <;> simp only <;> omega
  have hpr : prefs S = [(a, k)] := by rw [hS]; exact prefs_one HO.out
  have hca : canB S = true := by rw [hS]; unfold canB; have := blk_pos k; exact decide_eq_true (by simp only; omega)
  have hha : hasB S x = (decide (a ≤ x) && decide (x < a + blk k)) := by
    have := blk_pos k
    rw [hS, has_cons, has_nil, Bool.or_false]; simp only; rw [Bool.eq_iff_iff]; simp; omega
  have hsz : sizeV S = blk k := by
    have := blk_pos k
    unfold sizeV; rw [norm_self (canB_iff.1 hca), hS, sizeL, sizeL]; simp only; omega
  have r2' : IsIv w2 v2 S := by rw [hS]; exact r2
  have HS1 := hid hS1
  have HBD := hid hbd
  have HPR := hid hpr
  have HCA := hid hca
  have HHA := hid hha
  have HSZ := hid hsz
  have R2 := hid r2'
  obtain ⟨p2, cap2, rfl, -⟩ := rows_open r2'
  clear r2 r2' hS hS1 hbd hpr hca hha hsz
  go_wp2_with fail
  refine (prefixes _ S _ R2.out HBD.out (by rw [HS1.out]; decide) (HT.out.on B2) B2.size).mono ?_
  rw [HPR.out]
  rintro e w3 ⟨v3, rfl, r3, b3⟩
  have J3 := hid (blk_keep J2.out b3)
  have R3 := hid (rows_keep R2.out b3)
  have B3 := hid (then_ B2 b3)
  have r3' : Im.Rows w3 v3 1 (px2 [(a, k)]) := rows_own r3
  obtain ⟨p3, cap3, rfl, hc⟩ := rows_open r3'
  obtain ⟨b, off, rfl, hbl, hc⟩ := hc (by decide)
  have c0 := hc 0 _ rfl
  have c1 := hc 1 _ rfl
  rw [Nat.add_zero] at c0
  clear hc r3 r3' b3 J2 R2 B2
  go_upto_region 5 with fail
  have e0 : ∀ u : Later w3.heap.size w3, u.w.cell? ⟨b, off, none⟩ = some (.int .u32 (a : Int)) := later_cell hbl c0
  have e1 : ∀ u : Later w3.heap.size w3, u.w.cell? ⟨b, off + 1, none⟩ = some (.int .i64 (k : Int)) := later_cell hbl c1
  have d0 := lat_0 J3.out
  have d1 := lat_1 J3.out
  have cV : ∀ u : Later w3.heap.size w3, Calls Tryd.prog 15 #[.slice p2 S.length cap2] u.w fun e w' => e = .returned (.bool true) ∧ Below u.w.heap.size u.w w' := by
    intro u
    have := valid _ S u.w (rows_keep R3.out u.h) HBD.out (by rw [HS1.out]; decide)
    rw [HCA.out] at this; exact this
  obtain ⟨g, hg⟩ : ∃ g, g = (decide (a ≤ x) && decide (x < a + blk k)) := ⟨_, rfl⟩
  have cH : ∀ u : Later w3.heap.size w3, Calls Tryd.prog 17 #[.slice p2 S.length cap2, .int .u32 (x : Int)] u.w fun e w' => e = .returned (.bool g) ∧ Below u.w.heap.size u.w w' := by
    intro u
    have := has _ S x u.w (rows_keep R3.out u.h) (by rw [HS1.out]; decide)
    rw [HHA.out, ← hg] at this; exact this
  have cC : ∀ u : Later w3.heap.size w3, Calls Tryd.prog 31 #[Ad.px a k, .int .u32 (x : Int)] u.w fun e w' => e = .returned (.bool g) ∧ Below u.w.heap.size u.w w' := by
    intro u
    have := Ad.refContains a k x u.w HX.out
    rw [cont_ok HO.out x, ← hg] at this; exact this
  have cS : ∀ u : Later w3.heap.size w3, Calls Tryd.prog 28 #[.slice p2 S.length cap2] u.w fun e w' => e = .returned (.int .u64 (blk k : Nat)) ∧ Below u.w.heap.size u.w w' := by
    intro u
    have := size _ S u.w (rows_keep R3.out u.h) HBD.out (by rw [HS1.out]; decide)
    rw [HSZ.out] at this; exact this
  have cQ : ∀ u : Later w3.heap.size w3, Calls Tryd.prog 19 #[] u.w fun e w' => e = .returned (.bool true) ∧ Below u.w.heap.size u.w w' := fun u =>
    sane u.w (HT.out.on (B3.out.trans (u.h.mono B3.out.size))) (Nat.le_trans B3.out.size u.h.size)
  clear c0 c1 hg
  have hk : k ≤ 32 := HO.out.1
  have hw : IntKind.u64.wrap (2 ^ (32 - k)) = ((blk k : Nat) : Int) := by
    have h2 : (2 : Int) ^ (32 - k) = ((blk k : Nat) : Int) := by unfold blk; exact (Int.natCast_pow 2 (32 - k)).symm
    have := blk_le k
    rw [h2]
    exact IntWalk.u64_in _ (by omega)
  cases g
  all_goals
    refine wp_region_later w3.heap.size (by kernel_rfl) (by kernel_rfl) ?_
    repeat (go_big_quiet_step (first | (go_at_call 15; exact later_of (Nat.le_refl _) (cV _)) | (go_at_call 17; exact later_of (Nat.le_refl _) (cH _)) | (go_at_call 31; exact later_of (Nat.le_refl _) (cC _)) | (go_at_call 28; exact later_of (Nat.le_refl _) (cS _)) | (go_at_call 19; exact later_of (Nat.le_refl _) (cQ _))))
    refine wpQuiet_nil ?_
    rintro _ ⟨u, rfl⟩
    have B4 := then_ B3.out u.h
    go_wp2_with fail
    go_ret
    exact ⟨rfl, B4⟩
end Go.Proofs.YtmcoccfbbhnmfaaDoor.Iw
