/-
  THE CONTRACTS OF netverifyref8's SMALL FUNCTIONS.
-/
import Derived.Test.YtlhbfpapmolohaaModS
import Derived.Test.YtlhbfpapmolohaaModC
namespace Go.Proofs.Ytlhbfpapmolohaa.Mw
set_option linter.unusedSimpArgs false
set_option linter.unusedVariables false
open Go.RowKit Kt Mm Mp

set_option maxHeartbeats 1000000 in
theorem rWithin (n a b : Int) (w : World) :
    Calls Try.prog 45 #[.int .i64 n, .int .i64 a, .int .i64 b] w fun e w' => e = .returned (.bool (wi n a b)) ∧ w = w' := by
  go_enter Try.func45, Try.ntmps45
  repeat' (first | go_skip | go_guarded | go_step | go_upon)
  all_goals go_ret
  all_goals exact ⟨ret_bool (by unfold wi; rw [Bool.eq_iff_iff]; simp; try omega), rfl⟩

def rpOk (x : Ports) : Bool := decide (0 ≤ x.lo) && decide (x.lo ≤ x.hi) && decide (x.hi ≤ 65535)
set_option maxHeartbeats 1000000 in
theorem rPorts (x : Ports) (w : World) :
    Calls Try.prog 74 #[.agg #[.int .i64 x.lo, .int .i64 x.hi]] w fun e w' => e = .returned (.bool (rpOk x)) ∧ Below w.heap.size w w' := by
  have c0 := new_cell w #[.int .i64 x.lo, .int .i64 x.hi] 114 0
  have c1 := new_cell w #[.int .i64 x.lo, .int .i64 x.hi] 114 1
  simp at c0 c1
  go_enter Try.func74, Try.ntmps74
  repeat' (first | go_skip | go_guarded | go_step | go_upon)
  all_goals go_ret
  all_goals exact ⟨ret_bool (by unfold rpOk; simp_all <;> omega), al1 w _⟩

set_option maxHeartbeats 1000000 in
theorem rAll (x : Ports) (w : World) :
    Calls Try.prog 75 #[.agg #[.int .i64 x.lo, .int .i64 x.hi]] w fun e w' => e = .returned (.bool (decide (x.lo = 0) && decide (x.hi = 65535))) ∧ Below w.heap.size w w' := by
  have c0 := new_cell w #[.int .i64 x.lo, .int .i64 x.hi] 114 0
  have c1 := new_cell w #[.int .i64 x.lo, .int .i64 x.hi] 114 1
  simp at c0 c1
  have heq := fun wx => eqInPorts 9998 x ⟨0, 65535⟩ wx
  simp only [Nat.reduceAdd] at heq
  have R := hid (show (decide (x.lo = 0) && decide (x.hi = 65535)) = decide (x = ⟨0, 65535⟩) by cases x; simp)
  go_enter Try.func75, Try.ntmps75
  repeat' (first | go_skip | go_guarded | go_step | go_upon)
  all_goals go_ret
  all_goals exact ⟨ret_bool R.out.symm, al1 w _⟩

set_option maxHeartbeats 1000000 in
theorem rPRule (x : PRule) (w : World) (ha : x.pfx.addr < 4294967296) :
    Calls Try.prog 10 #[.agg (ePRule x).toArray] w fun e w' => e = .returned (.bool (pruleOk x)) ∧ Below w.heap.size w w' := by
  obtain ⟨X, hX⟩ : ∃ X, X = (ePRule x).toArray := ⟨_, rfl⟩
  obtain ⟨w1, hw1⟩ : ∃ w1, w.alloc (.cells X 31) = w1 := ⟨_, rfl⟩
  have hhX : w1.heap[w.heap.size]? = some (.cells X 31 (0, 0)) := by rw [← hw1, heap_new]
  have FX1 : ∀ v : World, Below w1.heap.size w1 v → v.cell? ⟨w.heap.size, 1, none⟩ = some (.int .u32 (x.pfx.addr : Int)) := fun v h => box_at (blk_keep hhX h) (by rw [hX]; rfl)
  have FX2 : ∀ v : World, Below w1.heap.size w1 v → v.cell? ⟨w.heap.size, 2, none⟩ = some (.int .i64 x.pfx.len) := fun v h => box_at (blk_keep hhX h) (by rw [hX]; rfl)
  have FX3 : ∀ v : World, Below w1.heap.size w1 v → v.cell? ⟨w.heap.size, 3, none⟩ = some (.int .i64 x.mn) := fun v h => box_at (blk_keep hhX h) (by rw [hX]; rfl)
  have FX4 : ∀ v : World, Below w1.heap.size w1 v → v.cell? ⟨w.heap.size, 4, none⟩ = some (.int .i64 x.mx) := fun v h => box_at (blk_keep hhX h) (by rw [hX]; rfl)
  have GX : Below w1.heap.size w1 w1 := Below.refl _ _
  have HX := hid (show Below w.heap.size w w1 by rw [← hw1]; exact new_below _ _)
  have hX' := hid hX
  try rw [← hX]
  clear hX hhX
  have hV : ∀ wx, Calls Try.prog 9 #[.agg #[.int .u32 (x.pfx.addr : Int), .int .i64 x.pfx.len]] wx fun e w' => e = .returned (.bool (vPf x.pfx)) ∧ Below wx.heap.size wx w' := fun wx => Ad.refValid x.pfx.addr x.pfx.len wx ha
  obtain ⟨o, ho⟩ : ∃ o, o = vPf x.pfx := ⟨_, rfl⟩
  have R := hid (show pruleOk x = (o && decide (x.pfx.len ≤ x.mn) && decide (x.mn ≤ x.mx) && decide (x.mx ≤ 32)) by rw [ho]; rfl)
  rw [← ho] at hV
  clear ho ha
  cases o
  all_goals
    go_enter Try.func10, Try.ntmps10
    repeat' (first | (go_at_call 9; with_reducible refine (hV _).mono ?_; rintro e w' ⟨rfl, b⟩; have b' := then_ (w := w1) (by assumption) b; clear b; try dsimp only) | go_skip | go_guarded | go_step | go_upon)
    all_goals go_ret
    all_goals exact ⟨ret_bool (by rw [R.out]; first | (simp_all; done) | (simp_all; omega)), then_ HX.out (by assumption)⟩
end Go.Proofs.Ytlhbfpapmolohaa.Mw
