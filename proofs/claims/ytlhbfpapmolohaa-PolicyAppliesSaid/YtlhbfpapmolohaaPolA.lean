/-
  THE CONTRACTS OF policy.Matches, policy.Covers, policy.replaced AND OF THE REFERENCE's MatchesPrefix.
-/
import Derived.Test.YtlhbfpapmolohaaPolP
import Derived.Test.YtlhbfpapmolohaaModB
import Derived.Test.YtlhbfpapmolohaaModR
import Derived.WalkKit
import Derived.WalkSpells
import Derived.IntWalk
import Derived.Handy
namespace Go.Proofs.Ytlhbfpapmolohaa.Mw
set_option linter.unusedSimpArgs false
set_option linter.unusedVariables false
open Go.RowKit Kt Mm Mp Am

set_option maxHeartbeats 1000000 in
theorem plMatches (x : PRule) (p : Pfx) (w : World) (ha : low p.addr) :
    Calls Try.prog 11 #[.agg (ePRule x).toArray, .agg (ePfx p).toArray] w fun e w' => e = .returned (.bool (mtB x p)) ∧ Below w.heap.size w w' := by
  have hC : ∀ wx, Calls Try.prog 31 #[.agg #[.int .u32 (x.pfx.addr : Int), .int .i64 x.pfx.len], .agg #[.int .u32 (p.addr : Int), .int .i64 p.len]] wx fun e w' => e = .returned (.bool (covB x.pfx.addr x.pfx.len p.addr p.len)) ∧ Below wx.heap.size wx w' := fun wx => Ad.covers x.pfx.addr x.pfx.len p.addr p.len wx ha
  obtain ⟨o, ho⟩ : ∃ o, o = covB x.pfx.addr x.pfx.len p.addr p.len := ⟨_, rfl⟩
  have R := hid (show mtB x p = (o && decide (x.mn ≤ p.len) && decide (p.len ≤ x.mx)) by rw [ho]; rfl)
  rw [← ho] at hC
  clear ho ha
  obtain ⟨X, hX⟩ : ∃ X, X = (ePRule x).toArray := ⟨_, rfl⟩
  obtain ⟨Y, hY⟩ : ∃ Y, Y = (ePfx p).toArray := ⟨_, rfl⟩
  obtain ⟨w2, hw2⟩ : ∃ w2, (w.alloc (.cells X 31)).alloc (.cells Y 27) = w2 := ⟨_, rfl⟩
  have hhX : w2.heap[w.heap.size]? = some (.cells X 31 (0, 0)) := by rw [← hw2, Below.heap_alloc _ _ _ (by simp), heap_new]
  have hhY : w2.heap[w.heap.size + 1]? = some (.cells Y 27 (0, 0)) := by rw [← hw2]; have h := heap_new (w.alloc (.cells X 31)) (.cells Y 27 (0, 0)); rwa [new_size] at h
  have FX1 : ∀ v : World, Below w2.heap.size w2 v → v.cell? ⟨w.heap.size, 1, none⟩ = some (.int .u32 (x.pfx.addr : Int)) := fun v h => box_at (blk_keep hhX h) (by rw [hX]; rfl)
  have FX2 : ∀ v : World, Below w2.heap.size w2 v → v.cell? ⟨w.heap.size, 2, none⟩ = some (.int .i64 x.pfx.len) := fun v h => box_at (blk_keep hhX h) (by rw [hX]; rfl)
  have FX3 : ∀ v : World, Below w2.heap.size w2 v → v.cell? ⟨w.heap.size, 3, none⟩ = some (.int .i64 x.mn) := fun v h => box_at (blk_keep hhX h) (by rw [hX]; rfl)
  have FX4 : ∀ v : World, Below w2.heap.size w2 v → v.cell? ⟨w.heap.size, 4, none⟩ = some (.int .i64 x.mx) := fun v h => box_at (blk_keep hhX h) (by rw [hX]; rfl)
  have FY0 : ∀ v : World, Below w2.heap.size w2 v → v.cell? ⟨w.heap.size + 1, 0, none⟩ = some (.int .u32 (p.addr : Int)) := fun v h => box_at (blk_keep hhY h) (by rw [hY]; rfl)
  have FY1 : ∀ v : World, Below w2.heap.size w2 v → v.cell? ⟨w.heap.size + 1, 1, none⟩ = some (.int .i64 p.len) := fun v h => box_at (blk_keep hhY h) (by rw [hY]; rfl)
  have Gw2 : Below w2.heap.size w2 w2 := Below.refl _ _
  have Hw2 := hid (show Below w.heap.size w w2 by rw [← hw2]; exact al2 _ _ _)
  have hX' := hid hX
  have hY' := hid hY
  try rw [← hX]
  try rw [← hY]
  clear hX hY hhX hhY
  cases o
  all_goals
    go_enter Try.func11, Try.ntmps11
    repeat' (first | (go_at_call 31; with_reducible refine (hC _).mono ?_; rintro e w' ⟨rfl, b⟩; have b' := then_ (w := w2) (by assumption) b; clear b; try dsimp only) | go_skip | go_guarded | go_step | go_upon)
    all_goals go_ret
    all_goals exact ⟨ret_bool (by rw [R.out]; first | (simp_all; done) | (simp_all; omega)), then_ Hw2.out (by assumption)⟩

set_option maxHeartbeats 1000000 in
theorem rfMatches (x : PRule) (p : Pfx) (w : World) (ha : low p.addr) :
    Calls Try.prog 12 #[.agg (ePRule x).toArray, .agg (ePfx p).toArray] w fun e w' => e = .returned (.bool (mtB x p)) ∧ Below w.heap.size w w' := by
  have hC : ∀ wx, Calls Try.prog 32 #[.agg #[.int .u32 (x.pfx.addr : Int), .int .i64 x.pfx.len], .agg #[.int .u32 (p.addr : Int), .int .i64 p.len]] wx fun e w' => e = .returned (.bool (covB x.pfx.addr x.pfx.len p.addr p.len)) ∧ Below wx.heap.size wx w' := fun wx => Ad.refCovers x.pfx.addr x.pfx.len p.addr p.len wx ha
  obtain ⟨o, ho⟩ : ∃ o, o = covB x.pfx.addr x.pfx.len p.addr p.len := ⟨_, rfl⟩
  have R := hid (show mtB x p = (o && decide (x.mn ≤ p.len) && decide (p.len ≤ x.mx)) by rw [ho]; rfl)
  rw [← ho] at hC
  clear ho ha
  obtain ⟨X, hX⟩ : ∃ X, X = (ePRule x).toArray := ⟨_, rfl⟩
  obtain ⟨Y, hY⟩ : ∃ Y, Y = (ePfx p).toArray := ⟨_, rfl⟩
  obtain ⟨w2, hw2⟩ : ∃ w2, (w.alloc (.cells X 31)).alloc (.cells Y 27) = w2 := ⟨_, rfl⟩
  have hhX : w2.heap[w.heap.size]? = some (.cells X 31 (0, 0)) := by rw [← hw2, Below.heap_alloc _ _ _ (by simp), heap_new]
  have hhY : w2.heap[w.heap.size + 1]? = some (.cells Y 27 (0, 0)) := by rw [← hw2]; have h := heap_new (w.alloc (.cells X 31)) (.cells Y 27 (0, 0)); rwa [new_size] at h
  have FX1 : ∀ v : World, Below w2.heap.size w2 v → v.cell? ⟨w.heap.size, 1, none⟩ = some (.int .u32 (x.pfx.addr : Int)) := fun v h => box_at (blk_keep hhX h) (by rw [hX]; rfl)
  have FX2 : ∀ v : World, Below w2.heap.size w2 v → v.cell? ⟨w.heap.size, 2, none⟩ = some (.int .i64 x.pfx.len) := fun v h => box_at (blk_keep hhX h) (by rw [hX]; rfl)
  have FX3 : ∀ v : World, Below w2.heap.size w2 v → v.cell? ⟨w.heap.size, 3, none⟩ = some (.int .i64 x.mn) := fun v h => box_at (blk_keep hhX h) (by rw [hX]; rfl)
  have FX4 : ∀ v : World, Below w2.heap.size w2 v → v.cell? ⟨w.heap.size, 4, none⟩ = some (.int .i64 x.mx) := fun v h => box_at (blk_keep hhX h) (by rw [hX]; rfl)
  have FY0 : ∀ v : World, Below w2.heap.size w2 v → v.cell? ⟨w.heap.size + 1, 0, none⟩ = some (.int .u32 (p.addr : Int)) := fun v h => box_at (blk_keep hhY h) (by rw [hY]; rfl)
  have FY1 : ∀ v : World, Below w2.heap.size w2 v → v.cell? ⟨w.heap.size + 1, 1, none⟩ = some (.int .i64 p.len) := fun v h => box_at (blk_keep hhY h) (by rw [hY]; rfl)
  have Gw2 : Below w2.heap.size w2 w2 := Below.refl _ _
  have Hw2 := hid (show Below w.heap.size w w2 by rw [← hw2]; exact al2 _ _ _)
  have hX' := hid hX
  have hY' := hid hY
  try rw [← hX]
  try rw [← hY]
  clear hX hY hhX hhY
  cases o
  all_goals
    go_enter Try.func12, Try.ntmps12
    repeat' (first | (go_at_call 32; with_reducible refine (hC _).mono ?_; rintro e w' ⟨rfl, b⟩; have b' := then_ (w := w2) (by assumption) b; clear b; try dsimp only) | go_skip | go_guarded | go_step | go_upon)
    all_goals go_ret
    all_goals exact ⟨ret_bool (by rw [R.out]; first | (simp_all; done) | (simp_all; omega)), then_ Hw2.out (by assumption)⟩

set_option maxHeartbeats 1000000 in
theorem plCovers (x y : PRule) (w : World) (ha : low y.pfx.addr) :
    Calls Try.prog 27 #[.agg (ePRule x).toArray, .agg (ePRule y).toArray] w fun e w' => e = .returned (.bool (cvB x y)) ∧ Below w.heap.size w w' := by
  have hC : ∀ wx, Calls Try.prog 31 #[.agg #[.int .u32 (x.pfx.addr : Int), .int .i64 x.pfx.len], .agg #[.int .u32 (y.pfx.addr : Int), .int .i64 y.pfx.len]] wx fun e w' => e = .returned (.bool (covB x.pfx.addr x.pfx.len y.pfx.addr y.pfx.len)) ∧ Below wx.heap.size wx w' := fun wx => Ad.covers x.pfx.addr x.pfx.len y.pfx.addr y.pfx.len wx ha
  obtain ⟨o, ho⟩ : ∃ o, o = covB x.pfx.addr x.pfx.len y.pfx.addr y.pfx.len := ⟨_, rfl⟩
  have R := hid (show cvB x y = (o && decide (x.mn ≤ y.mn) && decide (y.mx ≤ x.mx)) by rw [ho]; rfl)
  rw [← ho] at hC
  clear ho ha
  obtain ⟨X, hX⟩ : ∃ X, X = (ePRule x).toArray := ⟨_, rfl⟩
  obtain ⟨Y, hY⟩ : ∃ Y, Y = (ePRule y).toArray := ⟨_, rfl⟩
  obtain ⟨w2, hw2⟩ : ∃ w2, (w.alloc (.cells X 31)).alloc (.cells Y 31) = w2 := ⟨_, rfl⟩
  have hhX : w2.heap[w.heap.size]? = some (.cells X 31 (0, 0)) := by rw [← hw2, Below.heap_alloc _ _ _ (by simp), heap_new]
  have hhY : w2.heap[w.heap.size + 1]? = some (.cells Y 31 (0, 0)) := by rw [← hw2]; have h := heap_new (w.alloc (.cells X 31)) (.cells Y 31 (0, 0)); rwa [new_size] at h
  have FX1 : ∀ v : World, Below w2.heap.size w2 v → v.cell? ⟨w.heap.size, 1, none⟩ = some (.int .u32 (x.pfx.addr : Int)) := fun v h => box_at (blk_keep hhX h) (by rw [hX]; rfl)
  have FX2 : ∀ v : World, Below w2.heap.size w2 v → v.cell? ⟨w.heap.size, 2, none⟩ = some (.int .i64 x.pfx.len) := fun v h => box_at (blk_keep hhX h) (by rw [hX]; rfl)
  have FX3 : ∀ v : World, Below w2.heap.size w2 v → v.cell? ⟨w.heap.size, 3, none⟩ = some (.int .i64 x.mn) := fun v h => box_at (blk_keep hhX h) (by rw [hX]; rfl)
  have FX4 : ∀ v : World, Below w2.heap.size w2 v → v.cell? ⟨w.heap.size, 4, none⟩ = some (.int .i64 x.mx) := fun v h => box_at (blk_keep hhX h) (by rw [hX]; rfl)
  have FY1 : ∀ v : World, Below w2.heap.size w2 v → v.cell? ⟨w.heap.size + 1, 1, none⟩ = some (.int .u32 (y.pfx.addr : Int)) := fun v h => box_at (blk_keep hhY h) (by rw [hY]; rfl)
  have FY2 : ∀ v : World, Below w2.heap.size w2 v → v.cell? ⟨w.heap.size + 1, 2, none⟩ = some (.int .i64 y.pfx.len) := fun v h => box_at (blk_keep hhY h) (by rw [hY]; rfl)
  have FY3 : ∀ v : World, Below w2.heap.size w2 v → v.cell? ⟨w.heap.size + 1, 3, none⟩ = some (.int .i64 y.mn) := fun v h => box_at (blk_keep hhY h) (by rw [hY]; rfl)
  have FY4 : ∀ v : World, Below w2.heap.size w2 v → v.cell? ⟨w.heap.size + 1, 4, none⟩ = some (.int .i64 y.mx) := fun v h => box_at (blk_keep hhY h) (by rw [hY]; rfl)
  have Gw2 : Below w2.heap.size w2 w2 := Below.refl _ _
  have Hw2 := hid (show Below w.heap.size w w2 by rw [← hw2]; exact al2 _ _ _)
  have hX' := hid hX
  have hY' := hid hY
  try rw [← hX]
  try rw [← hY]
  clear hX hY hhX hhY
  cases o
  all_goals
    go_enter Try.func27, Try.ntmps27
    repeat' (first | (go_at_call 31; with_reducible refine (hC _).mono ?_; rintro e w' ⟨rfl, b⟩; have b' := then_ (w := w2) (by assumption) b; clear b; try dsimp only) | go_skip | go_guarded | go_step | go_upon)
    all_goals go_ret
    all_goals exact ⟨ret_bool (by rw [R.out]; first | (simp_all; done) | (simp_all; omega)), then_ Hw2.out (by assumption)⟩

set_option maxHeartbeats 1000000 in
theorem plReplaced (a b : Int) (w : World) :
    Calls Try.prog 38 #[.int .i64 a, .int .i64 b] w fun e w' => e = .returned (.int .i64 (repI a b)) ∧ w = w' := by
  by_cases h : b = -1
  · subst h
    go_enter Try.func38, Try.ntmps38
    repeat' (first | go_skip | go_guarded | go_step | go_upon)
    go_ret
    exact ⟨rfl, rfl⟩
  · have hb : (b == -1) = false := by simpa using h
    have R := hid (show repI a b = b by unfold repI; rw [if_neg h])
    go_enter Try.func38, Try.ntmps38
    repeat' (first | go_skip | go_guarded | go_step | go_upon)
    go_ret
    exact ⟨ret_int R.out.symm, rfl⟩
end Go.Proofs.Ytlhbfpapmolohaa.Mw
