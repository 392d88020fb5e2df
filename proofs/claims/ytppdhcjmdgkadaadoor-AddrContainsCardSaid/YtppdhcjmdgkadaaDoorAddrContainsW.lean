/-
  THE WALK OF AddrContains.
-/
import Derived.Test.YtppdhcjmdgkadaaDoorAddrJ
import Derived.Test.YtppdhcjmdgkadaaDoorAddrQ
namespace Go.Proofs.YtppdhcjmdgkadaaDoor.Ad
set_option linter.unusedSimpArgs false
set_option linter.unusedVariables false
open Go.RowKit Sp Sc Am As Kt

set_option maxHeartbeats 4000000 in
theorem walkAddrContains (pa : Int) (hpa : (Lit.int .u32 pa).wf = true) (pn : Int) (hpn : (Lit.int .i64 pn).wf = true) (qa : Int) (hqa : (Lit.int .u32 qa).wf = true) (qn : Int) (hqn : (Lit.int .i64 qn).wf = true) (m : Int) (hm : (Lit.int .u32 m).wf = true) (w : World) (ht : Tab w.heap.size w) :
    Calls Tryd.prog 9 #[.agg #[.int .u32 pa, .int .i64 pn], .agg #[.int .u32 qa, .int .i64 qn], .int .u32 m] w fun e w' => e = .returned (.bool true) ∧ Below w.heap.size w w' := by
  obtain ⟨a, rfl, ha⟩ := u32_nat hpa
  obtain ⟨b, rfl, hb⟩ := u32_nat hqa
  obtain ⟨x, rfl, hx⟩ := u32_nat hm
  have h1 := fun wx => refValid a pn wx ha
  have h2 := fun wx => refValid b qn wx hb
  clear hpn hqn hpa hqa hm
  have j1 := two_h0 w (.int .u32 (a : Int)) (.int .i64 pn) (.int .u32 (b : Int)) (.int .i64 qn) 34 34
  have j2 := two_h1 w (.int .u32 (a : Int)) (.int .i64 pn) (.int .u32 (b : Int)) (.int .i64 qn) 34 34
  have B0 := al2 w (.cells #[.int .u32 (a : Int), .int .i64 pn] 34) (.cells #[.int .u32 (b : Int), .int .i64 qn] 34)
  cases hv1 : validB a pn with
  | false =>
    rw [hv1] at h1
    go_enter Tryd.func9, Tryd.ntmps9
    go_wp2_with (fail)
    refine (h1 _).mono ?_
    rintro e w1 ⟨rfl, b1⟩
    have B1 := then_ B0 b1
    clear h1 h2 j1 j2 b1 B0
    go_wp2_with (fail)
    go_ret
    exact ⟨rfl, B1⟩
  | true =>
    rw [hv1] at h1
    have C0 := if_0 j1
    have C1 := if_1 j1
    have C2 := if_0 j2
    have C3 := if_1 j2
    cases hv2 : validB b qn with
    | false =>
      rw [hv2] at h2
      go_enter Tryd.func9, Tryd.ntmps9
      go_wp2_with (fail)
      generalize (w.alloc (.cells #[.int .u32 (a : Int), .int .i64 pn] 34)).alloc (.cells #[.int .u32 (b : Int), .int .i64 qn] 34) = w0 at *
      refine (h1 _).mono ?_
      rintro e w1 ⟨rfl, b1⟩
      go_wp2_with (fail)
      refine (h2 _).mono ?_
      rintro e w2 ⟨rfl, b2⟩
      have B2 := then_ B0 (then_ b1 b2)
      clear C0 C1 C2 C3 b1 b2 j1 j2 B0
      go_wp2_with (fail)
      go_ret
      exact ⟨rfl, B2⟩
    | true =>
      rw [hv2] at h2
      have h3 := fun wx => contains a pn x wx hx
      have h4 := fun wx => contains b qn x wx hx
      have h5 := fun wx => refContains a pn x wx hx
      have h6 := fun wx => covers a pn b qn wx hb
      have h7 := fun wx => refCovers a pn b qn wx hb
      have h8 := fun wx => overlaps a pn b qn wx ha hb
      have h9 := fun wx => refOverlaps a pn b qn wx ha hb
      have F1 := hid (fun k l => cov_cont (a := a) (b := b) (x := x) (n := pn) (m := qn) k l)
      have F2 := hid (fun k l => both_ovl (a := a) (b := b) (x := x) (n := pn) (m := qn) k l)
      generalize contB a pn x = i at *
      generalize contB b qn x = j at *
      generalize covB a pn b qn = c at *
      generalize ovlB a pn b qn = o at *
      go_enter Tryd.func9, Tryd.ntmps9
      go_wp2_with (fail)
      generalize (w.alloc (.cells #[.int .u32 (a : Int), .int .i64 pn] 34)).alloc (.cells #[.int .u32 (b : Int), .int .i64 qn] 34) = w0 at *
      clear C0 C1 C2 C3
      refine (h1 _).mono ?_
      rintro e w1 ⟨rfl, b1⟩
      have j1_1 := blk_keep j1 b1
      have j2_1 := blk_keep j2 b1
      have B1 := then_ B0 b1
      clear b1  
      have j1_1a := (blk_two j1_1).1.1
      have j1_1b := (blk_two j1_1).1.2
      have j2_1a := (blk_two j2_1).1.1
      have j2_1b := (blk_two j2_1).1.2
      go_wp2_with (fail)
      clear j1_1a j1_1b
      clear j2_1a j2_1b
      refine (h2 _).mono ?_
      rintro e w2 ⟨rfl, b2⟩
      have j1_2 := blk_keep j1_1 b2
      have j2_2 := blk_keep j2_1 b2
      have B2 := then_ B1 b2
      clear b2 j1_1 j2_1 B1
      have j1_2a := (blk_two j1_2).1.1
      have j1_2b := (blk_two j1_2).1.2
      have j2_2a := (blk_two j2_2).1.1
      have j2_2b := (blk_two j2_2).1.2
      go_wp2_with (fail)
      clear j1_2a j1_2b
      clear j2_2a j2_2b
      have j1_2a := lat_0 j1_2
      have j1_2b := lat_1 j1_2
      have j2_2a := lat_0 j2_2
      have j2_2b := lat_1 j2_2
      refine wp_region_later (w2).heap.size (by kernel_rfl) (by kernel_rfl) ?_
      repeat (go_big_quiet_step (first | (go_at_call_of 26 (Value.int IntKind.u32 (a : Int)); exact later_of (Nat.le_refl _) (h3 _)) | (go_at_call_of 26 (Value.int IntKind.u32 (b : Int)); exact later_of (Nat.le_refl _) (h4 _)) | (go_at_call 33; exact later_of (Nat.le_refl _) (h5 _)) | (go_at_call 34; exact later_of (Nat.le_refl _) (h6 _)) | (go_at_call 35; exact later_of (Nat.le_refl _) (h7 _)) | (go_at_call 36; exact later_of (Nat.le_refl _) (h8 _)) | (go_at_call 37; exact later_of (Nat.le_refl _) (h9 _))))
      refine wpQuiet_nil ?_
      rintro _ ⟨u3, rfl⟩
      have j1_3 := blk_keep j1_2 u3.h
      have j2_3 := blk_keep j2_2 u3.h
      have B3 := then_ B2 u3.h
      clear j1_2a j1_2b j2_2a j2_2b j1_2 j2_2
      have j1_3a := (blk_two j1_3).1.1
      have j1_3b := (blk_two j1_3).1.2
      have j2_3a := (blk_two j2_3).1.1
      have j2_3b := (blk_two j2_3).1.2
      go_wp2_with (fail)
      clear j1_3a j1_3b
      clear j2_3a j2_3b
      have j1_3a := lat_0 j1_3
      have j1_3b := lat_1 j1_3
      have j2_3a := lat_0 j2_3
      have j2_3b := lat_1 j2_3
      refine wp_region_later (u3.w).heap.size (by kernel_rfl) (by kernel_rfl) ?_
      repeat (go_big_quiet_step (first | (go_at_call_of 26 (Value.int IntKind.u32 (a : Int)); exact later_of (Nat.le_refl _) (h3 _)) | (go_at_call_of 26 (Value.int IntKind.u32 (b : Int)); exact later_of (Nat.le_refl _) (h4 _)) | (go_at_call 33; exact later_of (Nat.le_refl _) (h5 _)) | (go_at_call 34; exact later_of (Nat.le_refl _) (h6 _)) | (go_at_call 35; exact later_of (Nat.le_refl _) (h7 _)) | (go_at_call 36; exact later_of (Nat.le_refl _) (h8 _)) | (go_at_call 37; exact later_of (Nat.le_refl _) (h9 _))))
      refine wpQuiet_nil ?_
      rintro _ ⟨u4, rfl⟩
      have j1_4 := blk_keep j1_3 u4.h
      have j2_4 := blk_keep j2_3 u4.h
      have B4 := then_ B3 u4.h
      clear j1_3a j1_3b j2_3a j2_3b j1_3 j2_3
      have j1_4a := (blk_two j1_4).1.1
      have j1_4b := (blk_two j1_4).1.2
      have j2_4a := (blk_two j2_4).1.1
      have j2_4b := (blk_two j2_4).1.2
      go_wp2_with (fail)
      clear j1_4a j1_4b
      clear j2_4a j2_4b
      have G1 := F1.out
      have G2 := F2.out
      clear F1 F2
      have j1_4a := if_0 j1_4
      have j1_4b := if_1 j1_4
      have j2_4a := if_0 j2_4
      have j2_4b := if_1 j2_4
      have R := Below.refl u4.w.heap.size u4.w
      cases i <;> cases j <;> cases c <;> cases o
      all_goals first | (exfalso; revert G1 G2; simp; done) | skip
      all_goals
        clear G1 G2
        go_wp2_with (first | (go_at_call 34; refine (h6 _).mono ?_; rintro e w' ⟨rfl, b⟩; have b' := then_ (w := u4.w) (by assumption) b; clear b) | (go_at_call 36; refine (h8 _).mono ?_; rintro e w' ⟨rfl, b⟩; have b' := then_ (w := u4.w) (by assumption) b; clear b) | (go_at_call 15; refine (sane _ (ht.on (B4.trans (Below.mono (by assumption) B4.size))) (Nat.le_trans B4.size (Below.size (w := u4.w) (by assumption)))).mono ?_; rintro e w' ⟨rfl, b⟩; have b' := then_ (w := u4.w) (by assumption) b; clear b))
        go_ret
        exact ⟨rfl, then_ B4 (by assumption)⟩
end Go.Proofs.YtppdhcjmdgkadaaDoor.Ad
