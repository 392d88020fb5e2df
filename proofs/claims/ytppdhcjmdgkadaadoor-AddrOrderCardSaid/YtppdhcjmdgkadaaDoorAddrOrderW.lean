/-
  THE WALK OF AddrOrder.
-/
import Derived.Test.YtppdhcjmdgkadaaDoorAddrJ
import Derived.Test.YtppdhcjmdgkadaaDoorAddrC
namespace Go.Proofs.YtppdhcjmdgkadaaDoor.Ad
set_option linter.unusedSimpArgs false
set_option linter.unusedVariables false
open Go.RowKit Sp Sc Am As Kt

/-- The order of two prefixes, as a number. -/
def ordV (a : Nat) (n : Int) (b : Nat) (m : Int) : Int := orV (Lib.compareInt a b) (Lib.compareInt n m)
theorem cmp_cases (x y : Int) : (Lib.compareInt x y = -1 ∧ x < y) ∨ (Lib.compareInt x y = 0 ∧ x = y) ∨ (Lib.compareInt x y = 1 ∧ y < x) := by
  unfold Lib.compareInt
  split
  · left; exact ⟨rfl, by assumption⟩
  · split
    · right; right; exact ⟨rfl, by assumption⟩
    · right; left; exact ⟨rfl, by omega⟩
theorem ord_cases (a : Nat) (n : Int) (b : Nat) (m : Int) : (ordV a n b m = -1 ∧ (a < b ∨ a = b ∧ n < m)) ∨ (ordV a n b m = 0 ∧ a = b ∧ n = m) ∨ (ordV a n b m = 1 ∧ (b < a ∨ a = b ∧ m < n)) := by
  unfold ordV orV
  rcases cmp_cases (a : Int) (b : Int) with ⟨h, k⟩ | ⟨h, k⟩ | ⟨h, k⟩ <;> rw [h]
  · left; exact ⟨rfl, .inl (by omega)⟩
  · rcases cmp_cases n m with ⟨h2, k2⟩ | ⟨h2, k2⟩ | ⟨h2, k2⟩ <;> rw [h2]
    · left; exact ⟨rfl, .inr ⟨by omega, k2⟩⟩
    · right; left; exact ⟨rfl, by omega, k2⟩
    · right; right; exact ⟨rfl, .inr ⟨by omega, k2⟩⟩
  · right; right; exact ⟨rfl, .inl (by omega)⟩

set_option maxHeartbeats 4000000 in
theorem walkAddrOrder (pa : Int) (hpa : (Lit.int .u32 pa).wf = true) (pn : Int) (hpn : (Lit.int .i64 pn).wf = true) (qa : Int) (hqa : (Lit.int .u32 qa).wf = true) (qn : Int) (hqn : (Lit.int .i64 qn).wf = true) (ra : Int) (hra : (Lit.int .u32 ra).wf = true) (rn : Int) (hrn : (Lit.int .i64 rn).wf = true) (w : World) (ht : Tab w.heap.size w) :
    Calls Tryd.prog 12 #[.agg #[.int .u32 pa, .int .i64 pn], .agg #[.int .u32 qa, .int .i64 qn], .agg #[.int .u32 ra, .int .i64 rn]] w fun e w' => e = .returned (.bool true) ∧ Below w.heap.size w w' := by
  obtain ⟨a, rfl, ha⟩ := u32_nat hpa
  obtain ⟨b, rfl, hb⟩ := u32_nat hqa
  obtain ⟨c, rfl, hc⟩ := u32_nat hra
  clear hpn hqn hrn hpa hqa hra ha hb hc
  have j1 : (((w.alloc (.cells #[.int .u32 (a : Int), .int .i64 pn] 34)).alloc (.cells #[.int .u32 (b : Int), .int .i64 qn] 34)).alloc (.cells #[.int .u32 (c : Int), .int .i64 rn] 34)).heap[w.heap.size]? = _ := three_b0 w _ _ _ _ _ _
  have j2 : (((w.alloc (.cells #[.int .u32 (a : Int), .int .i64 pn] 34)).alloc (.cells #[.int .u32 (b : Int), .int .i64 qn] 34)).alloc (.cells #[.int .u32 (c : Int), .int .i64 rn] 34)).heap[w.heap.size + 1]? = _ := three_b1 w _ _ _ _ _ _
  have j3 : (((w.alloc (.cells #[.int .u32 (a : Int), .int .i64 pn] 34)).alloc (.cells #[.int .u32 (b : Int), .int .i64 qn] 34)).alloc (.cells #[.int .u32 (c : Int), .int .i64 rn] 34)).heap[w.heap.size + 1 + 1]? = _ := three_b2 w _ _ _ _ _ _
  have B0 := al3 w (.cells #[.int .u32 (a : Int), .int .i64 pn] 34) (.cells #[.int .u32 (b : Int), .int .i64 qn] 34) (.cells #[.int .u32 (c : Int), .int .i64 rn] 34)
  have h1 : ∀ wx, Calls Tryd.prog _ _ wx (fun e w' => e = .returned (.int .i64 (ordV a pn b qn)) ∧ _) := fun wx => compare a pn b qn wx
  have h2 : ∀ wx, Calls Tryd.prog _ _ wx (fun e w' => e = .returned (.int .i64 (ordV a pn b qn)) ∧ _) := fun wx => refCompare a pn b qn wx
  have h3 : ∀ wx, Calls Tryd.prog _ _ wx (fun e w' => e = .returned (.int .i64 (ordV b qn a pn)) ∧ _) := fun wx => compare b qn a pn wx
  have h4 : ∀ wx, Calls Tryd.prog _ _ wx (fun e w' => e = .returned (.int .i64 (ordV b qn c rn)) ∧ _) := fun wx => compare b qn c rn wx
  have h5 : ∀ wx, Calls Tryd.prog _ _ wx (fun e w' => e = .returned (.int .i64 (ordV a pn c rn)) ∧ _) := fun wx => compare a pn c rn wx
  rcases ord_cases a pn b qn with ⟨e1, k1⟩ | ⟨e1, k1, k2⟩ | ⟨e1, k1⟩
  · have e3 : ordV b qn a pn = 1 := by rcases ord_cases b qn a pn with ⟨_, k⟩ | ⟨_, k, _⟩ | ⟨k, _⟩ <;> first | exact k | (exfalso; omega)
    rw [e1] at h1 h2
    rw [e3] at h3
    have hne : (((a : Int) == (b : Int)) = false) ∨ (((a : Int) == (b : Int)) = true ∧ (pn == qn) = false) := by
      by_cases h : a = b
      · right; exact ⟨by simp [h], by simp; omega⟩
      · left; simp; omega
    have hd : (ordV b qn c rn ≤ 0 → ordV a pn c rn = -1) := fun hle => by
      rcases ord_cases b qn c rn with ⟨e, k⟩ | ⟨e, k, k'⟩ | ⟨e, k⟩ <;> rcases ord_cases a pn c rn with ⟨e', l⟩ | ⟨e', l, l'⟩ | ⟨e', l⟩ <;> first | exact e' | (exfalso; omega)
    have hd2 := ord_cases b qn c rn
    generalize ordV b qn c rn = d at *
    generalize ordV a pn c rn = f at *
    have hd3 : (d = -1 ∧ f = -1) ∨ (d = 0 ∧ f = -1) ∨ d = 1 := by omega
    clear k1 e1 e3 hd hd2
    rcases hne with hne | ⟨hne, hne2⟩
    all_goals
      rcases hd3 with ⟨rfl, rfl⟩ | ⟨rfl, rfl⟩ | rfl
      all_goals
        go_enter Tryd.func12, Tryd.ntmps12
        go_wp2_with (fail)
        generalize ((w.alloc (.cells #[.int .u32 (a : Int), .int .i64 pn] 34)).alloc (.cells #[.int .u32 (b : Int), .int .i64 qn] 34)).alloc (.cells #[.int .u32 (c : Int), .int .i64 rn] 34) = w0 at *
        refine (h1 _).mono ?_
        rintro e w1 ⟨rfl, b1⟩
        have j1_1 := blk_keep j1 b1
        have j2_1 := blk_keep j2 b1
        have j3_1 := blk_keep j3 b1
        have B1 := then_ B0 b1
        clear b1  
        have j1_1a := (blk_two j1_1).1.1
        have j1_1b := (blk_two j1_1).1.2
        have j2_1a := (blk_two j2_1).1.1
        have j2_1b := (blk_two j2_1).1.2
        have j3_1a := (blk_two j3_1).1.1
        have j3_1b := (blk_two j3_1).1.2
        go_wp2_with (fail)
        clear j1_1a j1_1b
        clear j2_1a j2_1b
        clear j3_1a j3_1b
        have j1_1a := if_0 j1_1
        have j1_1b := if_1 j1_1
        have j2_1a := if_0 j2_1
        have j2_1b := if_1 j2_1
        have j3_1a := if_0 j3_1
        have j3_1b := if_1 j3_1
        have R := Below.refl w1.heap.size w1
        go_wp2_with (first | (go_at_call_of 41 (#[Value.agg #[Value.int IntKind.u32 (a : Int), Value.int IntKind.i64 pn], Value.agg #[Value.int IntKind.u32 (b : Int), Value.int IntKind.i64 qn]] : Array Value); refine (h1 _).mono ?_; rintro e w' ⟨rfl, b⟩; have b' := then_ (w := w1) (by assumption) b; clear b) | (go_at_call 42; refine (h2 _).mono ?_; rintro e w' ⟨rfl, b⟩; have b' := then_ (w := w1) (by assumption) b; clear b) | (go_at_call_of 41 (#[Value.agg #[Value.int IntKind.u32 (b : Int), Value.int IntKind.i64 qn], Value.agg #[Value.int IntKind.u32 (a : Int), Value.int IntKind.i64 pn]] : Array Value); refine (h3 _).mono ?_; rintro e w' ⟨rfl, b⟩; have b' := then_ (w := w1) (by assumption) b; clear b) | (go_at_call_of 41 (#[Value.agg #[Value.int IntKind.u32 (b : Int), Value.int IntKind.i64 qn], Value.agg #[Value.int IntKind.u32 (c : Int), Value.int IntKind.i64 rn]] : Array Value); refine (h4 _).mono ?_; rintro e w' ⟨rfl, b⟩; have b' := then_ (w := w1) (by assumption) b; clear b) | (go_at_call_of 41 (#[Value.agg #[Value.int IntKind.u32 (a : Int), Value.int IntKind.i64 pn], Value.agg #[Value.int IntKind.u32 (c : Int), Value.int IntKind.i64 rn]] : Array Value); refine (h5 _).mono ?_; rintro e w' ⟨rfl, b⟩; have b' := then_ (w := w1) (by assumption) b; clear b) | (go_at_call 15; refine (sane _ (ht.on (B1.trans (Below.mono (by assumption) B1.size))) (Nat.le_trans B1.size (Below.size (w := w1) (by assumption)))).mono ?_; rintro e w' ⟨rfl, b⟩; have b' := then_ (w := w1) (by assumption) b; clear b))
        go_ret
        exact ⟨rfl, then_ B1 (by assumption)⟩
  · subst k1
    subst k2
    have e3 := e1
    rw [e1] at h1 h2
    rw [e3] at h3
    have hd2 := ord_cases a pn c rn
    generalize ordV a pn c rn = d at *
    have hd3 : d = -1 ∨ d = 0 ∨ d = 1 := by omega
    clear e1 e3 hd2 h5
    rcases hd3 with rfl | rfl | rfl
    all_goals
      go_enter Tryd.func12, Tryd.ntmps12
      go_wp2_with (fail)
      generalize ((w.alloc (.cells #[.int .u32 (a : Int), .int .i64 pn] 34)).alloc (.cells #[.int .u32 (a : Int), .int .i64 pn] 34)).alloc (.cells #[.int .u32 (c : Int), .int .i64 rn] 34) = w0 at *
      refine (h1 _).mono ?_
      rintro e w1 ⟨rfl, b1⟩
      have j1_1 := blk_keep j1 b1
      have j2_1 := blk_keep j2 b1
      have j3_1 := blk_keep j3 b1
      have B1 := then_ B0 b1
      clear b1  
      have j1_1a := (blk_two j1_1).1.1
      have j1_1b := (blk_two j1_1).1.2
      have j2_1a := (blk_two j2_1).1.1
      have j2_1b := (blk_two j2_1).1.2
      have j3_1a := (blk_two j3_1).1.1
      have j3_1b := (blk_two j3_1).1.2
      go_wp2_with (fail)
      clear j1_1a j1_1b
      clear j2_1a j2_1b
      clear j3_1a j3_1b
      have j1_1a := if_0 j1_1
      have j1_1b := if_1 j1_1
      have j2_1a := if_0 j2_1
      have j2_1b := if_1 j2_1
      have j3_1a := if_0 j3_1
      have j3_1b := if_1 j3_1
      have R := Below.refl w1.heap.size w1
      go_wp2_with (first | (go_at_call_of 41 (#[Value.agg #[Value.int IntKind.u32 (a : Int), Value.int IntKind.i64 pn], Value.agg #[Value.int IntKind.u32 (a : Int), Value.int IntKind.i64 pn]] : Array Value); refine (h1 _).mono ?_; rintro e w' ⟨rfl, b⟩; have b' := then_ (w := w1) (by assumption) b; clear b) | (go_at_call 42; refine (h2 _).mono ?_; rintro e w' ⟨rfl, b⟩; have b' := then_ (w := w1) (by assumption) b; clear b) | (go_at_call_of 41 (#[Value.agg #[Value.int IntKind.u32 (a : Int), Value.int IntKind.i64 pn], Value.agg #[Value.int IntKind.u32 (a : Int), Value.int IntKind.i64 pn]] : Array Value); refine (h3 _).mono ?_; rintro e w' ⟨rfl, b⟩; have b' := then_ (w := w1) (by assumption) b; clear b) | (go_at_call_of 41 (#[Value.agg #[Value.int IntKind.u32 (a : Int), Value.int IntKind.i64 pn], Value.agg #[Value.int IntKind.u32 (c : Int), Value.int IntKind.i64 rn]] : Array Value); refine (h4 _).mono ?_; rintro e w' ⟨rfl, b⟩; have b' := then_ (w := w1) (by assumption) b; clear b) | (go_at_call 15; refine (sane _ (ht.on (B1.trans (Below.mono (by assumption) B1.size))) (Nat.le_trans B1.size (Below.size (w := w1) (by assumption)))).mono ?_; rintro e w' ⟨rfl, b⟩; have b' := then_ (w := w1) (by assumption) b; clear b))
      go_ret
      exact ⟨rfl, then_ B1 (by assumption)⟩
  · have e3 : ordV b qn a pn = -1 := by rcases ord_cases b qn a pn with ⟨k, _⟩ | ⟨_, k, _⟩ | ⟨_, k⟩ <;> first | exact k | (exfalso; omega)
    rw [e1] at h1 h2
    rw [e3] at h3
    have hne : (((a : Int) == (b : Int)) = false) ∨ (((a : Int) == (b : Int)) = true ∧ (pn == qn) = false) := by
      by_cases h : a = b
      · right; exact ⟨by simp [h], by simp; omega⟩
      · left; simp; omega
    clear k1 e1 e3
    rcases hne with hne | ⟨hne, hne2⟩
    all_goals
      go_enter Tryd.func12, Tryd.ntmps12
      go_wp2_with (fail)
      generalize ((w.alloc (.cells #[.int .u32 (a : Int), .int .i64 pn] 34)).alloc (.cells #[.int .u32 (b : Int), .int .i64 qn] 34)).alloc (.cells #[.int .u32 (c : Int), .int .i64 rn] 34) = w0 at *
      refine (h1 _).mono ?_
      rintro e w1 ⟨rfl, b1⟩
      have j1_1 := blk_keep j1 b1
      have j2_1 := blk_keep j2 b1
      have j3_1 := blk_keep j3 b1
      have B1 := then_ B0 b1
      clear b1  
      have j1_1a := (blk_two j1_1).1.1
      have j1_1b := (blk_two j1_1).1.2
      have j2_1a := (blk_two j2_1).1.1
      have j2_1b := (blk_two j2_1).1.2
      have j3_1a := (blk_two j3_1).1.1
      have j3_1b := (blk_two j3_1).1.2
      go_wp2_with (fail)
      clear j1_1a j1_1b
      clear j2_1a j2_1b
      clear j3_1a j3_1b
      have j1_1a := if_0 j1_1
      have j1_1b := if_1 j1_1
      have j2_1a := if_0 j2_1
      have j2_1b := if_1 j2_1
      have j3_1a := if_0 j3_1
      have j3_1b := if_1 j3_1
      have R := Below.refl w1.heap.size w1
      go_wp2_with (first | (go_at_call_of 41 (#[Value.agg #[Value.int IntKind.u32 (a : Int), Value.int IntKind.i64 pn], Value.agg #[Value.int IntKind.u32 (b : Int), Value.int IntKind.i64 qn]] : Array Value); refine (h1 _).mono ?_; rintro e w' ⟨rfl, b⟩; have b' := then_ (w := w1) (by assumption) b; clear b) | (go_at_call 42; refine (h2 _).mono ?_; rintro e w' ⟨rfl, b⟩; have b' := then_ (w := w1) (by assumption) b; clear b) | (go_at_call_of 41 (#[Value.agg #[Value.int IntKind.u32 (b : Int), Value.int IntKind.i64 qn], Value.agg #[Value.int IntKind.u32 (a : Int), Value.int IntKind.i64 pn]] : Array Value); refine (h3 _).mono ?_; rintro e w' ⟨rfl, b⟩; have b' := then_ (w := w1) (by assumption) b; clear b) | (go_at_call_of 41 (#[Value.agg #[Value.int IntKind.u32 (b : Int), Value.int IntKind.i64 qn], Value.agg #[Value.int IntKind.u32 (c : Int), Value.int IntKind.i64 rn]] : Array Value); refine (h4 _).mono ?_; rintro e w' ⟨rfl, b⟩; have b' := then_ (w := w1) (by assumption) b; clear b) | (go_at_call_of 41 (#[Value.agg #[Value.int IntKind.u32 (a : Int), Value.int IntKind.i64 pn], Value.agg #[Value.int IntKind.u32 (c : Int), Value.int IntKind.i64 rn]] : Array Value); refine (h5 _).mono ?_; rintro e w' ⟨rfl, b⟩; have b' := then_ (w := w1) (by assumption) b; clear b) | (go_at_call 15; refine (sane _ (ht.on (B1.trans (Below.mono (by assumption) B1.size))) (Nat.le_trans B1.size (Below.size (w := w1) (by assumption)))).mono ?_; rintro e w' ⟨rfl, b⟩; have b' := then_ (w := w1) (by assumption) b; clear b))
      go_ret
      exact ⟨rfl, then_ B1 (by assumption)⟩
end Go.Proofs.YtppdhcjmdgkadaaDoor.Ad
