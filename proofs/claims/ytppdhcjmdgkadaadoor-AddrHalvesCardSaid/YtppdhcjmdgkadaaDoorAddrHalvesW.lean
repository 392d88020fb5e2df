/-
  THE WALK OF AddrHalves.
-/
import Derived.Test.YtppdhcjmdgkadaaDoorAddrJ
import Derived.Test.YtppdhcjmdgkadaaDoorAddrH
import Derived.Test.YtppdhcjmdgkadaaDoorAddrQ
namespace Go.Proofs.YtppdhcjmdgkadaaDoor.Ad
set_option linter.unusedSimpArgs false
set_option linter.unusedVariables false
open Go.RowKit Sp Sc Am As Kt

set_option maxHeartbeats 4000000 in
theorem walkAddrHalves (pa : Int) (hpa : (Lit.int .u32 pa).wf = true) (n : Int) (hpn : (Lit.int .i64 n).wf = true) (m : Int) (hm : (Lit.int .u32 m).wf = true) (w : World) (ht : Tab w.heap.size w) :
    Calls Tryd.prog 11 #[.agg #[.int .u32 pa, .int .i64 n], .int .u32 m] w fun e w' => e = .returned (.bool true) ∧ Below w.heap.size w w' := by
  obtain ⟨a, rfl, ha⟩ := u32_nat hpa
  obtain ⟨x, rfl, hx⟩ := u32_nat hm
  have h1 := fun wx => refValid a n wx ha
  clear hpn hpa hm
  have j1 := heap_new w (.cells #[.int .u32 (a : Int), .int .i64 n] 34 (0, 0))
  have B0 := al1 w (.cells #[.int .u32 (a : Int), .int .i64 n] 34)
  cases hv : validB a n with
  | false =>
    rw [hv] at h1
    go_enter Tryd.func11, Tryd.ntmps11
    go_wp2_with (fail)
    generalize w.alloc (.cells #[.int .u32 (a : Int), .int .i64 n] 34) = w0 at *
    refine (h1 _).mono ?_
    rintro e w1 ⟨rfl, b1⟩
    have j1_1 := blk_keep j1 b1
    have B1 := then_ B0 b1
    clear b1  
    have j1_1a := (blk_two j1_1).1.1
    have j1_1b := (blk_two j1_1).1.2
    go_wp2_with (fail)
    clear j1_1a j1_1b
    go_ret
    exact ⟨rfl, B1⟩
  | true =>
    rw [hv] at h1
    have hn := (valid_iff.1 hv).1
    have h3 := fun wx => last a n wx ha
    have h4 := fun wx => refLast a n wx ha
    by_cases h32 : n = 32
    · subst h32
      have h2 := fun wx => halves_32 a wx ha hv
      rw [last_32 hv] at h3 h4
      clear hv hn
      go_enter Tryd.func11, Tryd.ntmps11
      go_wp2_with (fail)
      generalize w.alloc (.cells #[.int .u32 (a : Int), .int .i64 32] 34) = w0 at *
      refine (h1 _).mono ?_
      rintro e w1 ⟨rfl, b1⟩
      have j1_1 := blk_keep j1 b1
      have B1 := then_ B0 b1
      clear b1  
      have j1_1a := (blk_two j1_1).1.1
      have j1_1b := (blk_two j1_1).1.2
      go_wp2_with (fail)
      clear j1_1a j1_1b
      refine (h2 _).mono ?_
      rintro e w2 ⟨rfl, b2⟩
      have j1_2 := blk_keep j1_1 b2
      have B2 := then_ B1 b2
      clear b2 j1_1 B1
      have j1_2a := (blk_two j1_2).1.1
      have j1_2b := (blk_two j1_2).1.2
      go_wp2_with (fail)
      clear j1_2a j1_2b
      have j1_3 := blk_keep j1_2 (al2 w2 (.cells #[.int .u32 0, .int .i64 0] 34) (.cells #[.int .u32 0, .int .i64 0] 34))
      have ja_3 := two_h0 w2 (.int .u32 0) (.int .i64 0) (.int .u32 0) (.int .i64 0) 34 34
      have jb_3 := two_h1 w2 (.int .u32 0) (.int .i64 0) (.int .u32 0) (.int .i64 0) 34 34
      have B3 := then_ B2 (al2 w2 (.cells #[.int .u32 0, .int .i64 0] 34) (.cells #[.int .u32 0, .int .i64 0] 34))
      generalize (w2.alloc (.cells #[.int .u32 0, .int .i64 0] 34)).alloc (.cells #[.int .u32 0, .int .i64 0] 34) = w3 at *
      have j1_3a := lat_0 j1_3
      have j1_3b := lat_1 j1_3
      have ja_3a := lat_0 ja_3
      have ja_3b := lat_1 ja_3
      have jb_3a := lat_0 jb_3
      have jb_3b := lat_1 jb_3
      refine wp_region_later (w3).heap.size (by kernel_rfl) (by kernel_rfl) ?_
      repeat (go_big_quiet_step (first | (go_at_call 39; exact later_of (Nat.le_refl _) (h3 _)) | (go_at_call 40; exact later_of (Nat.le_refl _) (h4 _))))
      refine wpQuiet_nil ?_
      rintro _ ⟨u4, rfl⟩
      have j1_4 := blk_keep j1_3 u4.h
      have ja_4 := blk_keep ja_3 u4.h
      have jb_4 := blk_keep jb_3 u4.h
      have B4 := then_ B3 u4.h
      clear j1_3a j1_3b ja_3a ja_3b jb_3a jb_3b j1_3 ja_3 jb_3
      have j1_4a := (blk_two j1_4).1.1
      have j1_4b := (blk_two j1_4).1.2
      have ja_4a := (blk_two ja_4).1.1
      have ja_4b := (blk_two ja_4).1.2
      have jb_4a := (blk_two jb_4).1.1
      have jb_4b := (blk_two jb_4).1.2
      go_wp2_with (fail)
      clear j1_4a j1_4b
      clear ja_4a ja_4b
      clear jb_4a jb_4b
      have j1_4a := lat_0 j1_4
      have j1_4b := lat_1 j1_4
      have ja_4a := lat_0 ja_4
      have ja_4b := lat_1 ja_4
      have jb_4a := lat_0 jb_4
      have jb_4b := lat_1 jb_4
      refine wp_region_later (u4.w).heap.size (by kernel_rfl) (by kernel_rfl) ?_
      repeat (go_big_quiet_step (first | (go_at_call 39; exact later_of (Nat.le_refl _) (h3 _)) | (go_at_call 15; exact later_of (Nat.le_refl _) (sane _ (ht.on (B4.trans (Below.mono (Later.h _) B4.size))) (Nat.le_trans B4.size (Below.size (Later.h _)))))))
      refine wpQuiet_nil ?_
      rintro _ ⟨u5, rfl⟩
      have j1_5 := blk_keep j1_4 u5.h
      have ja_5 := blk_keep ja_4 u5.h
      have jb_5 := blk_keep jb_4 u5.h
      have B5 := then_ B4 u5.h
      clear j1_4a j1_4b ja_4a ja_4b jb_4a jb_4b j1_4 ja_4 jb_4
      have j1_5a := (blk_two j1_5).1.1
      have j1_5b := (blk_two j1_5).1.2
      have ja_5a := (blk_two ja_5).1.1
      have ja_5b := (blk_two ja_5).1.2
      have jb_5a := (blk_two jb_5).1.1
      have jb_5b := (blk_two jb_5).1.2
      go_wp2_with (fail)
      clear j1_5a j1_5b
      clear ja_5a ja_5b
      clear jb_5a jb_5b
      go_ret
      exact ⟨rfl, B5⟩
    · have hlt : n < 32 := by omega
      have h2 := fun wx => halves a n wx ha hn.1 hlt hv
      have hc : cl (n + 1) = cl n + 1 := by unfold cl; omega
      have hk : ((cl n + 1 : Nat) : Int) = n + 1 := by unfold cl; omega
      rw [low_half hv hlt, high_half hv hlt, hc, hk] at h2
      have g1 := valid_low hv hlt
      have g2 := valid_high hv hlt
      have g3 := halves_cont (x := x) hv hlt
      have g4 := halves_apart hv hlt
      have g5 := last_high hv hlt
      have g6 := last_low hv hlt
      have g7 := half_le hv hlt ha
      have g8 := blk_succ (cl n) (by unfold cl; omega)
      have g9 := blk_pos (cl n + 1)
      rw [hk] at g1 g2 g3 g4 g5 g6
      generalize blk (cl n + 1) = hb at *
      generalize hla : lastV a (n + 1) = la at *
      have hhi : a + hb = la + 1 := g6.symm
      rw [hhi] at h2 g2 g3 g4 g5
      have hla2 : la + 1 < 4294967296 := by omega
      have h5 := fun wx => valid a (n + 1) wx ha
      have h6 := fun wx => valid (la + 1) (n + 1) wx hla2
      have h7 := fun wx => last a (n + 1) wx ha
      have h8 := fun wx => last (la + 1) (n + 1) wx hla2
      have h9 := fun wx => contains a n x wx hx
      have h10 := fun wx => contains a (n + 1) x wx hx
      have h11 := fun wx => contains (la + 1) (n + 1) x wx hx
      have h12 := fun wx => overlaps a (n + 1) (la + 1) (n + 1) wx ha hla2
      rw [g1] at h5
      rw [g2] at h6
      rw [hla] at h7
      rw [g5] at h8
      rw [g3] at h9
      rw [g4] at h12
      generalize contB a (n + 1) x = i1 at *
      generalize contB (la + 1) (n + 1) x = i2 at *
      generalize lastV a n = l at *
      clear g1 g2 g3 g4 g5 g6 g7 g8 g9 hhi hla hv hc hk h32
      obtain ⟨n1, hn1⟩ : ∃ n1 : Int, n + 1 = n1 := ⟨_, rfl⟩
      obtain ⟨hi, hh⟩ : ∃ hi : Nat, la + 1 = hi := ⟨_, rfl⟩
      rw [hn1, hh] at h2 h6 h8 h11 h12
      rw [hn1] at h5 h7 h10
      have he : (la : Int) + 1 = (hi : Int) := by omega
      clear hh
      have hlt2 : decide (n < 32) = true := by simpa using hlt
      cases i1 <;> cases i2
      all_goals
        go_enter Tryd.func11, Tryd.ntmps11
        go_wp2_with (fail)
        generalize w.alloc (.cells #[.int .u32 (a : Int), .int .i64 n] 34) = w0 at *
        refine (h1 _).mono ?_
        rintro e w1 ⟨rfl, b1⟩
        have j1_1 := blk_keep j1 b1
        have B1 := then_ B0 b1
        clear b1  
        have j1_1a := (blk_two j1_1).1.1
        have j1_1b := (blk_two j1_1).1.2
        go_wp2_with (fail)
        clear j1_1a j1_1b
        refine (h2 _).mono ?_
        rintro e w2 ⟨rfl, b2⟩
        have j1_2 := blk_keep j1_1 b2
        have B2 := then_ B1 b2
        clear b2 j1_1 B1
        have j1_2a := (blk_two j1_2).1.1
        have j1_2b := (blk_two j1_2).1.2
        go_wp2_with (fail)
        clear j1_2a j1_2b
        have j1_3 := blk_keep j1_2 (al2 w2 (.cells #[.int .u32 (a : Int), .int .i64 n1] 34) (.cells #[.int .u32 (hi : Int), .int .i64 n1] 34))
        have ja_3 := two_h0 w2 (.int .u32 (a : Int)) (.int .i64 n1) (.int .u32 (hi : Int)) (.int .i64 n1) 34 34
        have jb_3 := two_h1 w2 (.int .u32 (a : Int)) (.int .i64 n1) (.int .u32 (hi : Int)) (.int .i64 n1) 34 34
        have B3 := then_ B2 (al2 w2 (.cells #[.int .u32 (a : Int), .int .i64 n1] 34) (.cells #[.int .u32 (hi : Int), .int .i64 n1] 34))
        generalize (w2.alloc (.cells #[.int .u32 (a : Int), .int .i64 n1] 34)).alloc (.cells #[.int .u32 (hi : Int), .int .i64 n1] 34) = w3 at *
        have j1_3a := lat_0 j1_3
        have j1_3b := lat_1 j1_3
        have ja_3a := lat_0 ja_3
        have ja_3b := lat_1 ja_3
        have jb_3a := lat_0 jb_3
        have jb_3b := lat_1 jb_3
        refine wp_region_later (w3).heap.size (by kernel_rfl) (by kernel_rfl) ?_
        repeat (go_big_quiet_step (first | (go_at_call 39; exact later_of (Nat.le_refl _) (h3 _)) | (go_at_call 40; exact later_of (Nat.le_refl _) (h4 _))))
        refine wpQuiet_nil ?_
        rintro _ ⟨u4, rfl⟩
        have j1_4 := blk_keep j1_3 u4.h
        have ja_4 := blk_keep ja_3 u4.h
        have jb_4 := blk_keep jb_3 u4.h
        have B4 := then_ B3 u4.h
        clear j1_3a j1_3b ja_3a ja_3b jb_3a jb_3b j1_3 ja_3 jb_3
        have j1_4a := (blk_two j1_4).1.1
        have j1_4b := (blk_two j1_4).1.2
        have ja_4a := (blk_two ja_4).1.1
        have ja_4b := (blk_two ja_4).1.2
        have jb_4a := (blk_two jb_4).1.1
        have jb_4b := (blk_two jb_4).1.2
        go_wp2_with (fail)
        clear j1_4a j1_4b
        clear ja_4a ja_4b
        clear jb_4a jb_4b
        have j1_4a := lat_0 j1_4
        have j1_4b := lat_1 j1_4
        have ja_4a := lat_0 ja_4
        have ja_4b := lat_1 ja_4
        have jb_4a := lat_0 jb_4
        have jb_4b := lat_1 jb_4
        simp only [List.append_eq, List.cons_append, List.nil_append]
        refine wp_region_later (u4.w).heap.size (by kernel_rfl) (by kernel_rfl) ?_
        repeat (go_big_quiet_step (first | (go_at_call_of 23 (Value.agg #[Value.int IntKind.u32 (a : Int), Value.int IntKind.i64 n1]); exact later_of (Nat.le_refl _) (h5 _)) | (go_at_call_of 23 (Value.agg #[Value.int IntKind.u32 (hi : Int), Value.int IntKind.i64 n1]); exact later_of (Nat.le_refl _) (h6 _)) | (go_at_call_of 39 (Value.agg #[Value.int IntKind.u32 (a : Int), Value.int IntKind.i64 n]); exact later_of (Nat.le_refl _) (h3 _)) | (go_at_call_of 39 (Value.agg #[Value.int IntKind.u32 (a : Int), Value.int IntKind.i64 n1]); exact later_of (Nat.le_refl _) (h7 _)) | (go_at_call_of 39 (Value.agg #[Value.int IntKind.u32 (hi : Int), Value.int IntKind.i64 n1]); exact later_of (Nat.le_refl _) (h8 _)) | (go_at_call_of 26 (Value.agg #[Value.int IntKind.u32 (a : Int), Value.int IntKind.i64 n]); exact later_of (Nat.le_refl _) (h9 _)) | (go_at_call_of 26 (Value.agg #[Value.int IntKind.u32 (a : Int), Value.int IntKind.i64 n1]); exact later_of (Nat.le_refl _) (h10 _)) | (go_at_call_of 26 (Value.agg #[Value.int IntKind.u32 (hi : Int), Value.int IntKind.i64 n1]); exact later_of (Nat.le_refl _) (h11 _)) | (go_at_call 36; exact later_of (Nat.le_refl _) (h12 _)) | (go_at_call 15; exact later_of (Nat.le_refl _) (sane _ (ht.on (B4.trans (Below.mono (Later.h _) B4.size))) (Nat.le_trans B4.size (Below.size (Later.h _)))))))
        refine wpQuiet_nil ?_
        rintro _ ⟨u5, rfl⟩
        have j1_5 := blk_keep j1_4 u5.h
        have ja_5 := blk_keep ja_4 u5.h
        have jb_5 := blk_keep jb_4 u5.h
        have B5 := then_ B4 u5.h
        clear j1_4a j1_4b ja_4a ja_4b jb_4a jb_4b j1_4 ja_4 jb_4
        have j1_5a := (blk_two j1_5).1.1
        have j1_5b := (blk_two j1_5).1.2
        have ja_5a := (blk_two ja_5).1.1
        have ja_5b := (blk_two ja_5).1.2
        have jb_5a := (blk_two jb_5).1.1
        have jb_5b := (blk_two jb_5).1.2
        go_wp2_with (fail)
        clear j1_5a j1_5b
        clear ja_5a ja_5b
        clear jb_5a jb_5b
        go_ret
        exact ⟨rfl, B5⟩
end Go.Proofs.YtppdhcjmdgkadaaDoor.Ad
