/-
  THE WALK OF AddrPrefixRoundTrip.
-/
import Derived.Test.YtppdhcjmdgkadaaDoorAddrJ
namespace Go.Proofs.YtppdhcjmdgkadaaDoor.As
set_option linter.unusedSimpArgs false
set_option linter.unusedVariables false
open Sp Am
theorem pre_back (a : Nat) (n : Int) (ha : a < 4294967296) : preB (fmtP a n) = validB a n ∧ (validB a n = true → preA (fmtP a n) = a ∧ ((preN (fmtP a n) : Nat) : Int) = n) := by
  cases hv : validB a n with
  | false =>
    have e : fmtP a n = [] := by unfold fmtP; rw [hv]; rfl
    rw [e]
    exact ⟨rfl, fun h => by cases h⟩
  | true =>
    have e : fmtP a n = fmtL a n := by unfold fmtP; rw [hv]; rfl
    have hr : 0 ≤ n ∧ n ≤ 32 := by
      unfold validB at hv
      simp only [Bool.and_eq_true, decide_eq_true_eq] at hv
      exact hv.1
    obtain ⟨b1, b2⟩ := fmt_back a n ha
    obtain ⟨b3, b4⟩ := b2 hr
    have hp : preB (fmtP a n) = true := by
      unfold preB; rw [e, b1, b3, b4, hv, decide_eq_true hr]; rfl
    refine ⟨hp, fun _ => ?_⟩
    obtain ⟨q1, q2⟩ := pre_yes hp
    rw [q1, q2, e]
    exact ⟨b3, b4⟩
end Go.Proofs.YtppdhcjmdgkadaaDoor.As
namespace Go.Proofs.YtppdhcjmdgkadaaDoor.Ad
set_option linter.unusedSimpArgs false
set_option linter.unusedVariables false
open Go.RowKit Sp Sc Am As Kt

theorem fmtP_len (a : Nat) (n : Int) : (fmtP a n).length ≤ 54 := by
  unfold fmtP
  split
  · exact fmtL_len a n
  · simp

set_option maxHeartbeats 4000000 in
theorem walkAddrPrefixRoundTrip (m : Int) (hm : (Lit.int .u32 m).wf = true) (n : Int) (hn : (Lit.int .i64 n).wf = true) (pa : Int) (hpa : (Lit.int .u32 pa).wf = true) (pn : Int) (hpn : (Lit.int .i64 pn).wf = true) (w : World) (ht : Tab w.heap.size w) :
    Calls Tryd.prog 8 #[.int .u32 m, .int .i64 n, .agg #[.int .u32 pa, .int .i64 pn]] w fun e w' => e = .returned (.bool true) ∧ Below w.heap.size w w' := by
  obtain ⟨a, rfl, ha⟩ := u32_nat hm
  obtain ⟨b, rfl, hb⟩ := u32_nat hpa
  have hz1 : (ByteArray.mk (fmtL a n).toArray).size ≤ maxLen := by rw [← len_data]; have := fmtL_len a n; unfold maxLen; simp; omega
  have hz2 : (ByteArray.mk (fmtP b pn).toArray).size ≤ maxLen := by rw [← len_data]; have := fmtP_len b pn; unfold maxLen; simp; omega
  have h1 := fun wx (h : Tab w.heap.size wx) (k : w.heap.size ≤ wx.heap.size) => formatHost a n wx ha (tab_up h k)
  have h2 := fun wx (h : Tab w.heap.size wx) (k : w.heap.size ≤ wx.heap.size) => formatPrefix b pn wx hb (tab_up h k)
  have h3 := fun wx => parseHost ⟨(fmtL a n).toArray⟩ wx hz1
  have h4 := fun wx => parsePrefix ⟨(fmtP b pn).toArray⟩ wx hz2
  have h5 := fun wx => valid b pn wx hb
  simp only [List.toList_toArray] at h3 h4
  obtain ⟨f1, f2⟩ := fmt_back a n ha
  obtain ⟨g1, g2⟩ := pre_back b pn hb
  rw [f1] at h3
  rw [g1] at h4
  have j1 := heap_new w (.cells #[.int .u32 (b : Int), .int .i64 pn] 34 (0, 0))
  have B0 := al1 w (.cells #[.int .u32 (b : Int), .int .i64 pn] 34)
  have hP : (validB b pn = true ∧ (∀ wx, Calls Tryd.prog 29 #[.string ⟨(fmtP b pn).toArray⟩] wx fun e w' => e = .returned (.tuple #[.agg #[.int .u32 (b : Int), .int .i64 pn], .bool true]) ∧ Below wx.heap.size wx w')) ∨
      (validB b pn = false ∧ fmtP b pn = [] ∧ (∃ x y : Int, ∀ wx, Calls Tryd.prog 29 #[.string ⟨#[]⟩] wx fun e w' => e = .returned (.tuple #[.agg #[.int .u32 x, .int .i64 y], .bool false]) ∧ Below wx.heap.size wx w')) := by
    cases hv : validB b pn with
    | true =>
      left
      obtain ⟨g3, g4⟩ := g2 hv
      rw [hv, g3, g4] at h4
      exact ⟨rfl, h4⟩
    | false =>
      right
      have e : fmtP b pn = [] := by unfold fmtP; rw [hv]; rfl
      rw [hv, e] at h4
      exact ⟨rfl, e, _, _, h4⟩
  have hH : ((0 ≤ n ∧ n ≤ 32) ∧ (∀ wx, Calls Tryd.prog 27 #[.string ⟨(fmtL a n).toArray⟩] wx fun e w' => e = .returned (.tuple #[.int .u32 (a : Int), .int .i64 n, .bool true]) ∧ Below wx.heap.size wx w')) ∨
      ((n < 0 ∨ 0 ≤ n ∧ 32 < n) ∧ fmtL a n = [] ∧ (∃ x y : Int, ∀ wx, Calls Tryd.prog 27 #[.string ⟨#[]⟩] wx fun e w' => e = .returned (.tuple #[.int .u32 x, .int .i64 y, .bool false]) ∧ Below wx.heap.size wx w')) := by
    by_cases hr : 0 ≤ n ∧ n ≤ 32
    · left
      obtain ⟨f3, f4⟩ := f2 hr
      rw [decide_eq_true hr, f3, f4] at h3
      exact ⟨hr, h3⟩
    · right
      have e := fmtL_no a n hr
      rw [decide_eq_false hr, e] at h3
      exact ⟨by omega, e, _, _, h3⟩
  clear h3 h4 f1 f2 g1 g2 hm hn hpa hpn hz1 hz2
  rcases hH with ⟨⟨r1, r2⟩, h3⟩ | ⟨hr, e, x, y, h3⟩
  · generalize (ByteArray.mk (fmtL a n).toArray) = s at *
    rcases hP with ⟨hv, h4⟩ | ⟨hv, e2, x2, y2, h4⟩
    · rw [hv] at h5
      generalize (ByteArray.mk (fmtP b pn).toArray) = t at *
      clear hv
      go_enter Tryd.func8, Tryd.ntmps8
      go_wp2_with (fail)
      generalize w.alloc (.cells #[.int .u32 (b : Int), .int .i64 pn] 34) = w0 at *
      have j1a := lat_0 j1
      have j1b := lat_1 j1
      refine wp_region_later (w0).heap.size (by kernel_rfl) (by kernel_rfl) ?_
      repeat (go_big_quiet_step (first | (go_at_call 31; exact later_of (Nat.le_refl _) (h1 _ (ht.on (B0.trans (Below.mono (Later.h _) B0.size))) (Nat.le_trans B0.size (Below.size (Later.h _))))) | (go_at_call 32; exact later_of (Nat.le_refl _) (h2 _ (ht.on (B0.trans (Below.mono (Later.h _) B0.size))) (Nat.le_trans B0.size (Below.size (Later.h _)))))))
      refine wpQuiet_nil ?_
      rintro _ ⟨u1, rfl⟩
      have j1_1 := blk_keep j1 u1.h
      have B1 := then_ B0 u1.h
      clear j1a j1b 
      have j1_1a := (blk_two j1_1).1.1
      have j1_1b := (blk_two j1_1).1.2
      go_wp2_with (fail)
      clear j1_1a j1_1b
      refine (h3 _).mono ?_
      rintro e w2 ⟨rfl, b2⟩
      have j1_2 := blk_keep j1_1 b2
      have B2 := then_ B1 b2
      clear b2 j1_1 B1
      have j1_2a := (blk_two j1_2).1.1
      have j1_2b := (blk_two j1_2).1.2
      go_wp2_with (fail)
      clear j1_2a j1_2b
      refine (h4 _).mono ?_
      rintro e w3 ⟨rfl, b3⟩
      have j1_3 := blk_keep j1_2 b3
      have B3 := then_ B2 b3
      have j1_4 := blk_keep j1_3 (al1 w3 (.cells #[.int .u32 (b : Int), .int .i64 pn] 34))
      have ja_4 := heap_new w3 (.cells #[.int .u32 (b : Int), .int .i64 pn] 34 (0, 0))
      have B4 := then_ B3 (al1 w3 (.cells #[.int .u32 (b : Int), .int .i64 pn] 34))
      have j1_4a := (blk_two j1_4).1.1
      have j1_4b := (blk_two j1_4).1.2
      have ja_4a := (blk_two ja_4).1.1
      have ja_4b := (blk_two ja_4).1.2
      go_wp2_with (fail)
      clear j1_4a j1_4b
      clear ja_4a ja_4b
      generalize w3.alloc (.cells #[.int .u32 (b : Int), .int .i64 pn] 34) = w9 at *
      have j1_4a := if_0 j1_4
      have j1_4b := if_1 j1_4
      have ja_4a := if_0 ja_4
      have ja_4b := if_1 ja_4
      have R := Below.refl w9.heap.size w9
      go_wp2_with (first | (go_at_call 23; refine (h5 _).mono ?_; rintro e w' ⟨rfl, b⟩; have b' := then_ (w := w9) (by assumption) b; clear b) | (go_at_call 15; refine (sane _ (ht.on (B4.trans (Below.mono (by assumption) B4.size))) (Nat.le_trans B4.size (Below.size (w := w9) (by assumption)))).mono ?_; rintro e w' ⟨rfl, b⟩; have b' := then_ (w := w9) (by assumption) b; clear b))
      go_ret
      exact ⟨rfl, then_ B4 (by assumption)⟩
    · rw [hv] at h5
      rw [e2] at h2
      clear hv e2
      go_enter Tryd.func8, Tryd.ntmps8
      go_wp2_with (fail)
      generalize w.alloc (.cells #[.int .u32 (b : Int), .int .i64 pn] 34) = w0 at *
      have j1a := lat_0 j1
      have j1b := lat_1 j1
      refine wp_region_later (w0).heap.size (by kernel_rfl) (by kernel_rfl) ?_
      repeat (go_big_quiet_step (first | (go_at_call 31; exact later_of (Nat.le_refl _) (h1 _ (ht.on (B0.trans (Below.mono (Later.h _) B0.size))) (Nat.le_trans B0.size (Below.size (Later.h _))))) | (go_at_call 32; exact later_of (Nat.le_refl _) (h2 _ (ht.on (B0.trans (Below.mono (Later.h _) B0.size))) (Nat.le_trans B0.size (Below.size (Later.h _)))))))
      refine wpQuiet_nil ?_
      rintro _ ⟨u1, rfl⟩
      have j1_1 := blk_keep j1 u1.h
      have B1 := then_ B0 u1.h
      clear j1a j1b 
      have j1_1a := (blk_two j1_1).1.1
      have j1_1b := (blk_two j1_1).1.2
      go_wp2_with (fail)
      clear j1_1a j1_1b
      refine (h3 _).mono ?_
      rintro e w2 ⟨rfl, b2⟩
      have j1_2 := blk_keep j1_1 b2
      have B2 := then_ B1 b2
      clear b2 j1_1 B1
      have j1_2a := (blk_two j1_2).1.1
      have j1_2b := (blk_two j1_2).1.2
      go_wp2_with (fail)
      clear j1_2a j1_2b
      refine (h4 _).mono ?_
      rintro e w3 ⟨rfl, b3⟩
      have j1_3 := blk_keep j1_2 b3
      have B3 := then_ B2 b3
      have j1_4 := blk_keep j1_3 (al1 w3 (.cells #[.int .u32 x2, .int .i64 y2] 34))
      have ja_4 := heap_new w3 (.cells #[.int .u32 x2, .int .i64 y2] 34 (0, 0))
      have B4 := then_ B3 (al1 w3 (.cells #[.int .u32 x2, .int .i64 y2] 34))
      have j1_4a := (blk_two j1_4).1.1
      have j1_4b := (blk_two j1_4).1.2
      have ja_4a := (blk_two ja_4).1.1
      have ja_4b := (blk_two ja_4).1.2
      go_wp2_with (fail)
      clear j1_4a j1_4b
      clear ja_4a ja_4b
      generalize w3.alloc (.cells #[.int .u32 x2, .int .i64 y2] 34) = w9 at *
      have j1_4a := if_0 j1_4
      have j1_4b := if_1 j1_4
      have ja_4a := if_0 ja_4
      have ja_4b := if_1 ja_4
      have R := Below.refl w9.heap.size w9
      go_wp2_with (first | (go_at_call 23; refine (h5 _).mono ?_; rintro e w' ⟨rfl, b⟩; have b' := then_ (w := w9) (by assumption) b; clear b) | (go_at_call 15; refine (sane _ (ht.on (B4.trans (Below.mono (by assumption) B4.size))) (Nat.le_trans B4.size (Below.size (w := w9) (by assumption)))).mono ?_; rintro e w' ⟨rfl, b⟩; have b' := then_ (w := w9) (by assumption) b; clear b))
      go_ret
      exact ⟨rfl, then_ B4 (by assumption)⟩
  · rw [e] at h1
    clear e
    have hr2 : (decide (0 ≤ n) = false) ∨ (decide (0 ≤ n) = true ∧ decide (n ≤ 32) = false) := by
      rcases hr with h | ⟨h, k⟩
      · left; simpa using h
      · right; exact ⟨by simpa using h, by simpa using k⟩
    clear hr
    rcases hP with ⟨hv, h4⟩ | ⟨hv, e2, x2, y2, h4⟩
    · rw [hv] at h5
      generalize (ByteArray.mk (fmtP b pn).toArray) = t at *
      clear hv
      rcases hr2 with r1 | ⟨r1, r2⟩
      all_goals
        go_enter Tryd.func8, Tryd.ntmps8
        go_wp2_with (fail)
        generalize w.alloc (.cells #[.int .u32 (b : Int), .int .i64 pn] 34) = w0 at *
        have j1a := lat_0 j1
        have j1b := lat_1 j1
        refine wp_region_later (w0).heap.size (by kernel_rfl) (by kernel_rfl) ?_
        repeat (go_big_quiet_step (first | (go_at_call 31; exact later_of (Nat.le_refl _) (h1 _ (ht.on (B0.trans (Below.mono (Later.h _) B0.size))) (Nat.le_trans B0.size (Below.size (Later.h _))))) | (go_at_call 32; exact later_of (Nat.le_refl _) (h2 _ (ht.on (B0.trans (Below.mono (Later.h _) B0.size))) (Nat.le_trans B0.size (Below.size (Later.h _)))))))
        refine wpQuiet_nil ?_
        rintro _ ⟨u1, rfl⟩
        have j1_1 := blk_keep j1 u1.h
        have B1 := then_ B0 u1.h
        clear j1a j1b 
        have j1_1a := (blk_two j1_1).1.1
        have j1_1b := (blk_two j1_1).1.2
        go_wp2_with (fail)
        clear j1_1a j1_1b
        refine (h3 _).mono ?_
        rintro e w2 ⟨rfl, b2⟩
        have j1_2 := blk_keep j1_1 b2
        have B2 := then_ B1 b2
        clear b2 j1_1 B1
        have j1_2a := (blk_two j1_2).1.1
        have j1_2b := (blk_two j1_2).1.2
        go_wp2_with (fail)
        clear j1_2a j1_2b
        refine (h4 _).mono ?_
        rintro e w3 ⟨rfl, b3⟩
        have j1_3 := blk_keep j1_2 b3
        have B3 := then_ B2 b3
        have j1_4 := blk_keep j1_3 (al1 w3 (.cells #[.int .u32 (b : Int), .int .i64 pn] 34))
        have ja_4 := heap_new w3 (.cells #[.int .u32 (b : Int), .int .i64 pn] 34 (0, 0))
        have B4 := then_ B3 (al1 w3 (.cells #[.int .u32 (b : Int), .int .i64 pn] 34))
        have j1_4a := (blk_two j1_4).1.1
        have j1_4b := (blk_two j1_4).1.2
        have ja_4a := (blk_two ja_4).1.1
        have ja_4b := (blk_two ja_4).1.2
        go_wp2_with (fail)
        clear j1_4a j1_4b
        clear ja_4a ja_4b
        generalize w3.alloc (.cells #[.int .u32 (b : Int), .int .i64 pn] 34) = w9 at *
        have j1_4a := if_0 j1_4
        have j1_4b := if_1 j1_4
        have ja_4a := if_0 ja_4
        have ja_4b := if_1 ja_4
        have R := Below.refl w9.heap.size w9
        go_wp2_with (first | (go_at_call 23; refine (h5 _).mono ?_; rintro e w' ⟨rfl, b⟩; have b' := then_ (w := w9) (by assumption) b; clear b) | (go_at_call 15; refine (sane _ (ht.on (B4.trans (Below.mono (by assumption) B4.size))) (Nat.le_trans B4.size (Below.size (w := w9) (by assumption)))).mono ?_; rintro e w' ⟨rfl, b⟩; have b' := then_ (w := w9) (by assumption) b; clear b))
        go_ret
        exact ⟨rfl, then_ B4 (by assumption)⟩
    · rw [hv] at h5
      rw [e2] at h2
      clear hv e2
      rcases hr2 with r1 | ⟨r1, r2⟩
      all_goals
        go_enter Tryd.func8, Tryd.ntmps8
        go_wp2_with (fail)
        generalize w.alloc (.cells #[.int .u32 (b : Int), .int .i64 pn] 34) = w0 at *
        have j1a := lat_0 j1
        have j1b := lat_1 j1
        refine wp_region_later (w0).heap.size (by kernel_rfl) (by kernel_rfl) ?_
        repeat (go_big_quiet_step (first | (go_at_call 31; exact later_of (Nat.le_refl _) (h1 _ (ht.on (B0.trans (Below.mono (Later.h _) B0.size))) (Nat.le_trans B0.size (Below.size (Later.h _))))) | (go_at_call 32; exact later_of (Nat.le_refl _) (h2 _ (ht.on (B0.trans (Below.mono (Later.h _) B0.size))) (Nat.le_trans B0.size (Below.size (Later.h _)))))))
        refine wpQuiet_nil ?_
        rintro _ ⟨u1, rfl⟩
        have j1_1 := blk_keep j1 u1.h
        have B1 := then_ B0 u1.h
        clear j1a j1b 
        have j1_1a := (blk_two j1_1).1.1
        have j1_1b := (blk_two j1_1).1.2
        go_wp2_with (fail)
        clear j1_1a j1_1b
        refine (h3 _).mono ?_
        rintro e w2 ⟨rfl, b2⟩
        have j1_2 := blk_keep j1_1 b2
        have B2 := then_ B1 b2
        clear b2 j1_1 B1
        have j1_2a := (blk_two j1_2).1.1
        have j1_2b := (blk_two j1_2).1.2
        go_wp2_with (fail)
        clear j1_2a j1_2b
        refine (h4 _).mono ?_
        rintro e w3 ⟨rfl, b3⟩
        have j1_3 := blk_keep j1_2 b3
        have B3 := then_ B2 b3
        have j1_4 := blk_keep j1_3 (al1 w3 (.cells #[.int .u32 x2, .int .i64 y2] 34))
        have ja_4 := heap_new w3 (.cells #[.int .u32 x2, .int .i64 y2] 34 (0, 0))
        have B4 := then_ B3 (al1 w3 (.cells #[.int .u32 x2, .int .i64 y2] 34))
        have j1_4a := (blk_two j1_4).1.1
        have j1_4b := (blk_two j1_4).1.2
        have ja_4a := (blk_two ja_4).1.1
        have ja_4b := (blk_two ja_4).1.2
        go_wp2_with (fail)
        clear j1_4a j1_4b
        clear ja_4a ja_4b
        generalize w3.alloc (.cells #[.int .u32 x2, .int .i64 y2] 34) = w9 at *
        have j1_4a := if_0 j1_4
        have j1_4b := if_1 j1_4
        have ja_4a := if_0 ja_4
        have ja_4b := if_1 ja_4
        have R := Below.refl w9.heap.size w9
        go_wp2_with (first | (go_at_call 23; refine (h5 _).mono ?_; rintro e w' ⟨rfl, b⟩; have b' := then_ (w := w9) (by assumption) b; clear b) | (go_at_call 15; refine (sane _ (ht.on (B4.trans (Below.mono (by assumption) B4.size))) (Nat.le_trans B4.size (Below.size (w := w9) (by assumption)))).mono ?_; rintro e w' ⟨rfl, b⟩; have b' := then_ (w := w9) (by assumption) b; clear b))
        go_ret
        exact ⟨rfl, then_ B4 (by assumption)⟩
end Go.Proofs.YtppdhcjmdgkadaaDoor.Ad
