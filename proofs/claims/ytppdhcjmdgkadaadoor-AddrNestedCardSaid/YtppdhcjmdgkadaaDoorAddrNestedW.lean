/-
  THE WALK OF AddrNested.
-/
import Derived.Test.YtppdhcjmdgkadaaDoorAddrJ
import Derived.Test.YtppdhcjmdgkadaaDoorAddrQ
namespace Go.Proofs.YtppdhcjmdgkadaaDoor.Ad
set_option linter.unusedSimpArgs false
set_option linter.unusedVariables false
open Go.RowKit Sp Sc Am As Kt

set_option maxHeartbeats 4000000 in
theorem walkAddrNested (pa : Int) (hpa : (Lit.int .u32 pa).wf = true) (pn : Int) (hpn : (Lit.int .i64 pn).wf = true) (qa : Int) (hqa : (Lit.int .u32 qa).wf = true) (qn : Int) (hqn : (Lit.int .i64 qn).wf = true) (ra : Int) (hra : (Lit.int .u32 ra).wf = true) (rn : Int) (hrn : (Lit.int .i64 rn).wf = true) (w : World) (ht : Tab w.heap.size w) :
    Calls Tryd.prog 10 #[.agg #[.int .u32 pa, .int .i64 pn], .agg #[.int .u32 qa, .int .i64 qn], .agg #[.int .u32 ra, .int .i64 rn]] w fun e w' => e = .returned (.bool true) ∧ Below w.heap.size w w' := by
  obtain ⟨a, rfl, ha⟩ := u32_nat hpa
  obtain ⟨b, rfl, hb⟩ := u32_nat hqa
  obtain ⟨c, rfl, hc⟩ := u32_nat hra
  have h1 := fun wx => refValid a pn wx ha
  have h2 := fun wx => refValid b qn wx hb
  have h3 := fun wx => refValid c rn wx hc
  clear hpn hqn hrn hpa hqa hra
  have j1 : (((w.alloc (.cells #[.int .u32 (a : Int), .int .i64 pn] 34)).alloc (.cells #[.int .u32 (b : Int), .int .i64 qn] 34)).alloc (.cells #[.int .u32 (c : Int), .int .i64 rn] 34)).heap[w.heap.size]? = _ := three_b0 w _ _ _ _ _ _
  have j2 : (((w.alloc (.cells #[.int .u32 (a : Int), .int .i64 pn] 34)).alloc (.cells #[.int .u32 (b : Int), .int .i64 qn] 34)).alloc (.cells #[.int .u32 (c : Int), .int .i64 rn] 34)).heap[w.heap.size + 1]? = _ := three_b1 w _ _ _ _ _ _
  have j3 : (((w.alloc (.cells #[.int .u32 (a : Int), .int .i64 pn] 34)).alloc (.cells #[.int .u32 (b : Int), .int .i64 qn] 34)).alloc (.cells #[.int .u32 (c : Int), .int .i64 rn] 34)).heap[w.heap.size + 1 + 1]? = _ := three_b2 w _ _ _ _ _ _
  have B0 := al3 w (.cells #[.int .u32 (a : Int), .int .i64 pn] 34) (.cells #[.int .u32 (b : Int), .int .i64 qn] 34) (.cells #[.int .u32 (c : Int), .int .i64 rn] 34)
  have h4 := fun wx => overlaps a pn b qn wx ha hb
  have h5 := fun wx => covers a pn b qn wx hb
  have h6 := fun wx => covers b qn a pn wx ha
  have h7 := fun wx => covers b qn c rn wx hc
  have h8 := fun wx => covers a pn c rn wx hc
  have h9 := fun wx => covers a pn a pn wx ha
  have hov : ovlB a pn b qn = (covB a pn b qn || covB b qn a pn) := rfl
  rw [hov] at h4
  clear hov
  cases hv1 : validB a pn with
  | false =>
    rw [hv1] at h1
    go_enter Tryd.func10, Tryd.ntmps10
    go_wp2_with (fail)
    generalize ((w.alloc (.cells #[.int .u32 (a : Int), .int .i64 pn] 34)).alloc (.cells #[.int .u32 (b : Int), .int .i64 qn] 34)).alloc (.cells #[.int .u32 (c : Int), .int .i64 rn] 34) = w0 at *
    refine (h1 _).mono ?_
    rintro e w1 ⟨rfl, b1⟩
    have j1_1 := blk_keep j1 b1
    have j2_1 := blk_keep j2 b1
    have j3_1 := blk_keep j3 b1
    have B1 := then_ B0 b1
    clear b1  
    have j1_1a := (blk_two j1_1).1.1
    have j1_1b := (blk_two j1_1).1.2
    have j2_1a := (blk_two j2_1).1.1
    have j2_1b := (blk_two j2_1).1.2
    have j3_1a := (blk_two j3_1).1.1
    have j3_1b := (blk_two j3_1).1.2
    go_wp2_with (fail)
    clear j1_1a j1_1b
    clear j2_1a j2_1b
    clear j3_1a j3_1b
    go_ret
    exact ⟨rfl, B1⟩
  | true =>
    rw [hv1] at h1
    cases hv2 : validB b qn with
    | false =>
      rw [hv2] at h2
      go_enter Tryd.func10, Tryd.ntmps10
      go_wp2_with (fail)
      generalize ((w.alloc (.cells #[.int .u32 (a : Int), .int .i64 pn] 34)).alloc (.cells #[.int .u32 (b : Int), .int .i64 qn] 34)).alloc (.cells #[.int .u32 (c : Int), .int .i64 rn] 34) = w0 at *
      refine (h1 _).mono ?_
      rintro e w1 ⟨rfl, b1⟩
      have j1_1 := blk_keep j1 b1
      have j2_1 := blk_keep j2 b1
      have j3_1 := blk_keep j3 b1
      have B1 := then_ B0 b1
      clear b1  
      have j1_1a := (blk_two j1_1).1.1
      have j1_1b := (blk_two j1_1).1.2
      have j2_1a := (blk_two j2_1).1.1
      have j2_1b := (blk_two j2_1).1.2
      have j3_1a := (blk_two j3_1).1.1
      have j3_1b := (blk_two j3_1).1.2
      go_wp2_with (fail)
      clear j1_1a j1_1b
      clear j2_1a j2_1b
      clear j3_1a j3_1b
      refine (h2 _).mono ?_
      rintro e w2 ⟨rfl, b2⟩
      have j1_2 := blk_keep j1_1 b2
      have j2_2 := blk_keep j2_1 b2
      have j3_2 := blk_keep j3_1 b2
      have B2 := then_ B1 b2
      clear b2 j1_1 j2_1 j3_1 B1
      have j1_2a := (blk_two j1_2).1.1
      have j1_2b := (blk_two j1_2).1.2
      have j2_2a := (blk_two j2_2).1.1
      have j2_2b := (blk_two j2_2).1.2
      have j3_2a := (blk_two j3_2).1.1
      have j3_2b := (blk_two j3_2).1.2
      go_wp2_with (fail)
      clear j1_2a j1_2b
      clear j2_2a j2_2b
      clear j3_2a j3_2b
      go_ret
      exact ⟨rfl, B2⟩
    | true =>
      rw [hv2] at h2
      cases hv3 : validB c rn with
      | false =>
        rw [hv3] at h3
        go_enter Tryd.func10, Tryd.ntmps10
        go_wp2_with (fail)
        generalize ((w.alloc (.cells #[.int .u32 (a : Int), .int .i64 pn] 34)).alloc (.cells #[.int .u32 (b : Int), .int .i64 qn] 34)).alloc (.cells #[.int .u32 (c : Int), .int .i64 rn] 34) = w0 at *
        refine (h1 _).mono ?_
        rintro e w1 ⟨rfl, b1⟩
        have j1_1 := blk_keep j1 b1
        have j2_1 := blk_keep j2 b1
        have j3_1 := blk_keep j3 b1
        have B1 := then_ B0 b1
        clear b1  
        have j1_1a := (blk_two j1_1).1.1
        have j1_1b := (blk_two j1_1).1.2
        have j2_1a := (blk_two j2_1).1.1
        have j2_1b := (blk_two j2_1).1.2
        have j3_1a := (blk_two j3_1).1.1
        have j3_1b := (blk_two j3_1).1.2
        go_wp2_with (fail)
        clear j1_1a j1_1b
        clear j2_1a j2_1b
        clear j3_1a j3_1b
        refine (h2 _).mono ?_
        rintro e w2 ⟨rfl, b2⟩
        have j1_2 := blk_keep j1_1 b2
        have j2_2 := blk_keep j2_1 b2
        have j3_2 := blk_keep j3_1 b2
        have B2 := then_ B1 b2
        clear b2 j1_1 j2_1 j3_1 B1
        have j1_2a := (blk_two j1_2).1.1
        have j1_2b := (blk_two j1_2).1.2
        have j2_2a := (blk_two j2_2).1.1
        have j2_2b := (blk_two j2_2).1.2
        have j3_2a := (blk_two j3_2).1.1
        have j3_2b := (blk_two j3_2).1.2
        go_wp2_with (fail)
        clear j1_2a j1_2b
        clear j2_2a j2_2b
        clear j3_2a j3_2b
        refine (h3 _).mono ?_
        rintro e w3 ⟨rfl, b3⟩
        have j1_3 := blk_keep j1_2 b3
        have j2_3 := blk_keep j2_2 b3
        have j3_3 := blk_keep j3_2 b3
        have B3 := then_ B2 b3
        clear b3 j1_2 j2_2 j3_2 B2
        have j1_3a := (blk_two j1_3).1.1
        have j1_3b := (blk_two j1_3).1.2
        have j2_3a := (blk_two j2_3).1.1
        have j2_3b := (blk_two j2_3).1.2
        have j3_3a := (blk_two j3_3).1.1
        have j3_3b := (blk_two j3_3).1.2
        go_wp2_with (fail)
        clear j1_3a j1_3b
        clear j2_3a j2_3b
        clear j3_3a j3_3b
        go_ret
        exact ⟨rfl, B3⟩
      | true =>
        rw [hv3] at h3
        have G1 := fun k l => cov_anti (a := a) (b := b) (n := pn) (m := qn) hv2 k l
        have G2 := fun k l => cov_trans (a := a) (b := b) (c := c) (n := pn) (m := qn) (l := rn) k l
        rw [cov_self hv1] at h9
        clear hv1 hv2 hv3
        generalize hpq : covB a pn b qn = pq at *
        generalize hqp : covB b qn a pn = qp at *
        generalize hqr : covB b qn c rn = qr at *
        generalize hpr : covB a pn c rn = pr at *
        clear hpq hqp hqr hpr
        have hab : (pq = true ∧ qp = true ∧ a = b ∧ pn = qn) ∨ (pq = false ∨ qp = false) := by
          cases pq <;> cases qp <;> simp at *
          exact G1
        clear G1
        rcases hab with ⟨rfl, rfl, rfl, rfl⟩ | hab
        · cases qr <;> cases pr
          all_goals first | (exfalso; revert G2; simp; done) | skip
          all_goals
            clear G2
            go_enter Tryd.func10, Tryd.ntmps10
            go_wp2_with (fail)
            generalize ((w.alloc (.cells #[.int .u32 (a : Int), .int .i64 pn] 34)).alloc (.cells #[.int .u32 (a : Int), .int .i64 pn] 34)).alloc (.cells #[.int .u32 (c : Int), .int .i64 rn] 34) = w0 at *
            refine (h1 _).mono ?_
            rintro e w1 ⟨rfl, b1⟩
            have j1_1 := blk_keep j1 b1
            have j2_1 := blk_keep j2 b1
            have j3_1 := blk_keep j3 b1
            have B1 := then_ B0 b1
            clear b1  
            have j1_1a := (blk_two j1_1).1.1
            have j1_1b := (blk_two j1_1).1.2
            have j2_1a := (blk_two j2_1).1.1
            have j2_1b := (blk_two j2_1).1.2
            have j3_1a := (blk_two j3_1).1.1
            have j3_1b := (blk_two j3_1).1.2
            go_wp2_with (fail)
            clear j1_1a j1_1b
            clear j2_1a j2_1b
            clear j3_1a j3_1b
            refine (h2 _).mono ?_
            rintro e w2 ⟨rfl, b2⟩
            have j1_2 := blk_keep j1_1 b2
            have j2_2 := blk_keep j2_1 b2
            have j3_2 := blk_keep j3_1 b2
            have B2 := then_ B1 b2
            clear b2 j1_1 j2_1 j3_1 B1
            have j1_2a := (blk_two j1_2).1.1
            have j1_2b := (blk_two j1_2).1.2
            have j2_2a := (blk_two j2_2).1.1
            have j2_2b := (blk_two j2_2).1.2
            have j3_2a := (blk_two j3_2).1.1
            have j3_2b := (blk_two j3_2).1.2
            go_wp2_with (fail)
            clear j1_2a j1_2b
            clear j2_2a j2_2b
            clear j3_2a j3_2b
            refine (h3 _).mono ?_
            rintro e w3 ⟨rfl, b3⟩
            have j1_3 := blk_keep j1_2 b3
            have j2_3 := blk_keep j2_2 b3
            have j3_3 := blk_keep j3_2 b3
            have B3 := then_ B2 b3
            clear b3 j1_2 j2_2 j3_2 B2
            have j1_3a := (blk_two j1_3).1.1
            have j1_3b := (blk_two j1_3).1.2
            have j2_3a := (blk_two j2_3).1.1
            have j2_3b := (blk_two j2_3).1.2
            have j3_3a := (blk_two j3_3).1.1
            have j3_3b := (blk_two j3_3).1.2
            go_wp2_with (fail)
            clear j1_3a j1_3b
            clear j2_3a j2_3b
            clear j3_3a j3_3b
            have j1_3a := lat_0 j1_3
            have j1_3b := lat_1 j1_3
            have j2_3a := lat_0 j2_3
            have j2_3b := lat_1 j2_3
            have j3_3a := lat_0 j3_3
            have j3_3b := lat_1 j3_3
            refine wp_region_later (w3).heap.size (by kernel_rfl) (by kernel_rfl) ?_
            repeat (go_big_quiet_step (first | (go_at_call_of 36 (#[Value.agg #[Value.int IntKind.u32 (a : Int), Value.int IntKind.i64 pn], Value.agg #[Value.int IntKind.u32 (a : Int), Value.int IntKind.i64 pn]] : Array Value); exact later_of (Nat.le_refl _) (h4 _)) | (go_at_call_of 34 (#[Value.agg #[Value.int IntKind.u32 (a : Int), Value.int IntKind.i64 pn], Value.agg #[Value.int IntKind.u32 (a : Int), Value.int IntKind.i64 pn]] : Array Value); exact later_of (Nat.le_refl _) (h5 _)) | (go_at_call_of 34 (#[Value.agg #[Value.int IntKind.u32 (a : Int), Value.int IntKind.i64 pn], Value.agg #[Value.int IntKind.u32 (a : Int), Value.int IntKind.i64 pn]] : Array Value); exact later_of (Nat.le_refl _) (h6 _)) | (go_at_call_of 34 (#[Value.agg #[Value.int IntKind.u32 (a : Int), Value.int IntKind.i64 pn], Value.agg #[Value.int IntKind.u32 (c : Int), Value.int IntKind.i64 rn]] : Array Value); exact later_of (Nat.le_refl _) (h7 _)) | (go_at_call_of 34 (#[Value.agg #[Value.int IntKind.u32 (a : Int), Value.int IntKind.i64 pn], Value.agg #[Value.int IntKind.u32 (c : Int), Value.int IntKind.i64 rn]] : Array Value); exact later_of (Nat.le_refl _) (h8 _)) | (go_at_call_of 34 (#[Value.agg #[Value.int IntKind.u32 (a : Int), Value.int IntKind.i64 pn], Value.agg #[Value.int IntKind.u32 (a : Int), Value.int IntKind.i64 pn]] : Array Value); exact later_of (Nat.le_refl _) (h9 _))))
            refine wpQuiet_nil ?_
            rintro _ ⟨u4, rfl⟩
            have j1_4 := blk_keep j1_3 u4.h
            have j2_4 := blk_keep j2_3 u4.h
            have j3_4 := blk_keep j3_3 u4.h
            have B4 := then_ B3 u4.h
            clear j1_3a j1_3b j2_3a j2_3b j3_3a j3_3b j1_3 j2_3 j3_3
            have j1_4a := (blk_two j1_4).1.1
            have j1_4b := (blk_two j1_4).1.2
            have j2_4a := (blk_two j2_4).1.1
            have j2_4b := (blk_two j2_4).1.2
            have j3_4a := (blk_two j3_4).1.1
            have j3_4b := (blk_two j3_4).1.2
            go_wp2_with (fail)
            clear j1_4a j1_4b
            clear j2_4a j2_4b
            clear j3_4a j3_4b
            have j1_4a := if_0 j1_4
            have j1_4b := if_1 j1_4
            have j2_4a := if_0 j2_4
            have j2_4b := if_1 j2_4
            have j3_4a := if_0 j3_4
            have j3_4b := if_1 j3_4
            have R := Below.refl u4.w.heap.size u4.w
            go_wp2_with (first | (go_at_call_of 36 (#[Value.agg #[Value.int IntKind.u32 (a : Int), Value.int IntKind.i64 pn], Value.agg #[Value.int IntKind.u32 (a : Int), Value.int IntKind.i64 pn]] : Array Value); refine (h4 _).mono ?_; rintro e w' ⟨rfl, b⟩; have b' := then_ (w := u4.w) (by assumption) b; clear b) | (go_at_call_of 34 (#[Value.agg #[Value.int IntKind.u32 (a : Int), Value.int IntKind.i64 pn], Value.agg #[Value.int IntKind.u32 (c : Int), Value.int IntKind.i64 rn]] : Array Value); refine (h7 _).mono ?_; rintro e w' ⟨rfl, b⟩; have b' := then_ (w := u4.w) (by assumption) b; clear b) | (go_at_call_of 34 (#[Value.agg #[Value.int IntKind.u32 (a : Int), Value.int IntKind.i64 pn], Value.agg #[Value.int IntKind.u32 (c : Int), Value.int IntKind.i64 rn]] : Array Value); refine (h8 _).mono ?_; rintro e w' ⟨rfl, b⟩; have b' := then_ (w := u4.w) (by assumption) b; clear b) | (go_at_call_of 34 (#[Value.agg #[Value.int IntKind.u32 (a : Int), Value.int IntKind.i64 pn], Value.agg #[Value.int IntKind.u32 (a : Int), Value.int IntKind.i64 pn]] : Array Value); refine (h9 _).mono ?_; rintro e w' ⟨rfl, b⟩; have b' := then_ (w := u4.w) (by assumption) b; clear b) | (go_at_call 15; refine (sane _ (ht.on (B4.trans (Below.mono (by assumption) B4.size))) (Nat.le_trans B4.size (Below.size (w := u4.w) (by assumption)))).mono ?_; rintro e w' ⟨rfl, b⟩; have b' := then_ (w := u4.w) (by assumption) b; clear b))
            go_ret
            exact ⟨rfl, then_ B4 (by assumption)⟩
        · cases pq <;> cases qp <;> cases qr <;> cases pr
          all_goals first | (exfalso; revert G2 hab; simp; done) | skip
          all_goals
            clear G2 hab
            go_enter Tryd.func10, Tryd.ntmps10
            go_wp2_with (fail)
            generalize ((w.alloc (.cells #[.int .u32 (a : Int), .int .i64 pn] 34)).alloc (.cells #[.int .u32 (b : Int), .int .i64 qn] 34)).alloc (.cells #[.int .u32 (c : Int), .int .i64 rn] 34) = w0 at *
            refine (h1 _).mono ?_
            rintro e w1 ⟨rfl, b1⟩
            have j1_1 := blk_keep j1 b1
            have j2_1 := blk_keep j2 b1
            have j3_1 := blk_keep j3 b1
            have B1 := then_ B0 b1
            clear b1  
            have j1_1a := (blk_two j1_1).1.1
            have j1_1b := (blk_two j1_1).1.2
            have j2_1a := (blk_two j2_1).1.1
            have j2_1b := (blk_two j2_1).1.2
            have j3_1a := (blk_two j3_1).1.1
            have j3_1b := (blk_two j3_1).1.2
            go_wp2_with (fail)
            clear j1_1a j1_1b
            clear j2_1a j2_1b
            clear j3_1a j3_1b
            refine (h2 _).mono ?_
            rintro e w2 ⟨rfl, b2⟩
            have j1_2 := blk_keep j1_1 b2
            have j2_2 := blk_keep j2_1 b2
            have j3_2 := blk_keep j3_1 b2
            have B2 := then_ B1 b2
            clear b2 j1_1 j2_1 j3_1 B1
            have j1_2a := (blk_two j1_2).1.1
            have j1_2b := (blk_two j1_2).1.2
            have j2_2a := (blk_two j2_2).1.1
            have j2_2b := (blk_two j2_2).1.2
            have j3_2a := (blk_two j3_2).1.1
            have j3_2b := (blk_two j3_2).1.2
            go_wp2_with (fail)
            clear j1_2a j1_2b
            clear j2_2a j2_2b
            clear j3_2a j3_2b
            refine (h3 _).mono ?_
            rintro e w3 ⟨rfl, b3⟩
            have j1_3 := blk_keep j1_2 b3
            have j2_3 := blk_keep j2_2 b3
            have j3_3 := blk_keep j3_2 b3
            have B3 := then_ B2 b3
            clear b3 j1_2 j2_2 j3_2 B2
            have j1_3a := (blk_two j1_3).1.1
            have j1_3b := (blk_two j1_3).1.2
            have j2_3a := (blk_two j2_3).1.1
            have j2_3b := (blk_two j2_3).1.2
            have j3_3a := (blk_two j3_3).1.1
            have j3_3b := (blk_two j3_3).1.2
            go_wp2_with (fail)
            clear j1_3a j1_3b
            clear j2_3a j2_3b
            clear j3_3a j3_3b
            have j1_3a := lat_0 j1_3
            have j1_3b := lat_1 j1_3
            have j2_3a := lat_0 j2_3
            have j2_3b := lat_1 j2_3
            have j3_3a := lat_0 j3_3
            have j3_3b := lat_1 j3_3
            refine wp_region_later (w3).heap.size (by kernel_rfl) (by kernel_rfl) ?_
            repeat (go_big_quiet_step (first | (go_at_call_of 36 (#[Value.agg #[Value.int IntKind.u32 (a : Int), Value.int IntKind.i64 pn], Value.agg #[Value.int IntKind.u32 (b : Int), Value.int IntKind.i64 qn]] : Array Value); exact later_of (Nat.le_refl _) (h4 _)) | (go_at_call_of 34 (#[Value.agg #[Value.int IntKind.u32 (a : Int), Value.int IntKind.i64 pn], Value.agg #[Value.int IntKind.u32 (b : Int), Value.int IntKind.i64 qn]] : Array Value); exact later_of (Nat.le_refl _) (h5 _)) | (go_at_call_of 34 (#[Value.agg #[Value.int IntKind.u32 (b : Int), Value.int IntKind.i64 qn], Value.agg #[Value.int IntKind.u32 (a : Int), Value.int IntKind.i64 pn]] : Array Value); exact later_of (Nat.le_refl _) (h6 _)) | (go_at_call_of 34 (#[Value.agg #[Value.int IntKind.u32 (b : Int), Value.int IntKind.i64 qn], Value.agg #[Value.int IntKind.u32 (c : Int), Value.int IntKind.i64 rn]] : Array Value); exact later_of (Nat.le_refl _) (h7 _)) | (go_at_call_of 34 (#[Value.agg #[Value.int IntKind.u32 (a : Int), Value.int IntKind.i64 pn], Value.agg #[Value.int IntKind.u32 (c : Int), Value.int IntKind.i64 rn]] : Array Value); exact later_of (Nat.le_refl _) (h8 _)) | (go_at_call_of 34 (#[Value.agg #[Value.int IntKind.u32 (a : Int), Value.int IntKind.i64 pn], Value.agg #[Value.int IntKind.u32 (a : Int), Value.int IntKind.i64 pn]] : Array Value); exact later_of (Nat.le_refl _) (h9 _))))
            refine wpQuiet_nil ?_
            rintro _ ⟨u4, rfl⟩
            have j1_4 := blk_keep j1_3 u4.h
            have j2_4 := blk_keep j2_3 u4.h
            have j3_4 := blk_keep j3_3 u4.h
            have B4 := then_ B3 u4.h
            clear j1_3a j1_3b j2_3a j2_3b j3_3a j3_3b j1_3 j2_3 j3_3
            have j1_4a := (blk_two j1_4).1.1
            have j1_4b := (blk_two j1_4).1.2
            have j2_4a := (blk_two j2_4).1.1
            have j2_4b := (blk_two j2_4).1.2
            have j3_4a := (blk_two j3_4).1.1
            have j3_4b := (blk_two j3_4).1.2
            go_wp2_with (fail)
            clear j1_4a j1_4b
            clear j2_4a j2_4b
            clear j3_4a j3_4b
            have j1_4a := if_0 j1_4
            have j1_4b := if_1 j1_4
            have j2_4a := if_0 j2_4
            have j2_4b := if_1 j2_4
            have j3_4a := if_0 j3_4
            have j3_4b := if_1 j3_4
            have R := Below.refl u4.w.heap.size u4.w
            go_wp2_with (first | (go_at_call_of 36 (#[Value.agg #[Value.int IntKind.u32 (a : Int), Value.int IntKind.i64 pn], Value.agg #[Value.int IntKind.u32 (b : Int), Value.int IntKind.i64 qn]] : Array Value); refine (h4 _).mono ?_; rintro e w' ⟨rfl, b⟩; have b' := then_ (w := u4.w) (by assumption) b; clear b) | (go_at_call_of 34 (#[Value.agg #[Value.int IntKind.u32 (b : Int), Value.int IntKind.i64 qn], Value.agg #[Value.int IntKind.u32 (c : Int), Value.int IntKind.i64 rn]] : Array Value); refine (h7 _).mono ?_; rintro e w' ⟨rfl, b⟩; have b' := then_ (w := u4.w) (by assumption) b; clear b) | (go_at_call_of 34 (#[Value.agg #[Value.int IntKind.u32 (a : Int), Value.int IntKind.i64 pn], Value.agg #[Value.int IntKind.u32 (c : Int), Value.int IntKind.i64 rn]] : Array Value); refine (h8 _).mono ?_; rintro e w' ⟨rfl, b⟩; have b' := then_ (w := u4.w) (by assumption) b; clear b) | (go_at_call_of 34 (#[Value.agg #[Value.int IntKind.u32 (a : Int), Value.int IntKind.i64 pn], Value.agg #[Value.int IntKind.u32 (a : Int), Value.int IntKind.i64 pn]] : Array Value); refine (h9 _).mono ?_; rintro e w' ⟨rfl, b⟩; have b' := then_ (w := u4.w) (by assumption) b; clear b) | (go_at_call 15; refine (sane _ (ht.on (B4.trans (Below.mono (by assumption) B4.size))) (Nat.le_trans B4.size (Below.size (w := u4.w) (by assumption)))).mono ?_; rintro e w' ⟨rfl, b⟩; have b' := then_ (w := u4.w) (by assumption) b; clear b))
            go_ret
            exact ⟨rfl, then_ B4 (by assumption)⟩
end Go.Proofs.YtppdhcjmdgkadaaDoor.Ad
