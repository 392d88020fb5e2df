/-
  THE CONTRACTS OF model's FUNCTIONS THAT LOOK FOR AN EARLIER ELEMENT (overlapsAny, isRepeated and the closures that slices.ContainsFunc is handed).
-/
import Derived.Test.YtlhbfpapmolohaaGreatModU
import Derived.Test.YtlhbfpapmolohaaGreatModF
import Derived.BigQuiet
import Derived.Deep.QuietTactic
namespace Go.Proofs.YtlhbfpapmolohaaGreat.Mw
set_option linter.unusedSimpArgs false
set_option linter.unusedVariables false
open Go.RowKit Kt Mm Mp

theorem eqPfx10 (x y : Pfx) (w : World) : (Op.equalIn 10000 56 (.agg #[.int .u32 (x.addr : Int), .int .i64 x.len]) (.agg #[.int .u32 (y.addr : Int), .int .i64 y.len])).run Tryz.prog w = .ok (decide (x = y)) w := eqInPfx 9998 x y w
theorem gdPfx (op : BinOp) (a b : Operand) (X Y : Array Value) (w : World) : (eqGuard op 56 a b (.agg X) (.agg Y)).run Tryz.prog w = .ok () w := run_eqGuard_agg w op _ a b X Y (by kernel_rfl)
theorem ne_int {a b : Int} (h : ¬ a = b) : (a == b) = false := by simpa using h
theorem eq_int {a b : Int} (h : a = b) : (a == b) = true := by simpa using h


set_option maxHeartbeats 1000000 in
theorem clRep (y s : Stc) (B : Nat) (w : World) (hB : w.heap[B]? = some (.cells (eStc s).toArray 58 (0, 0))) :
    Calls Tryz.prog 153 #[.agg (eStc y).toArray, .pointer (some ⟨B, 0, none⟩)] w fun e w' => e = .returned (.bool (decide (y.pfx = s.pfx) && decide (y.admin = s.admin))) ∧ Below w.heap.size w w' := by
  obtain ⟨X, hX⟩ : ∃ X, X = (eStc y).toArray := ⟨_, rfl⟩
  obtain ⟨w1, hw1⟩ : ∃ w1, w.alloc (.cells X 58) = w1 := ⟨_, rfl⟩
  have hhX : w1.heap[w.heap.size]? = some (.cells X 58 (0, 0)) := by rw [← hw1, heap_new]
  have FX0 : ∀ v : World, Below w1.heap.size w1 v → v.cell? ⟨w.heap.size, 0, none⟩ = some (.int .u32 (y.pfx.addr : Int)) := fun v h => box_at (blk_keep hhX h) (by rw [hX]; rfl)
  have FX1 : ∀ v : World, Below w1.heap.size w1 v → v.cell? ⟨w.heap.size, 1, none⟩ = some (.int .i64 y.pfx.len) := fun v h => box_at (blk_keep hhX h) (by rw [hX]; rfl)
  have FX5 : ∀ v : World, Below w1.heap.size w1 v → v.cell? ⟨w.heap.size, 5, none⟩ = some (.int .i64 y.admin) := fun v h => box_at (blk_keep hhX h) (by rw [hX]; rfl)
  have GX : Below w1.heap.size w1 w1 := Below.refl _ _
  have HX := hid (show Below w.heap.size w w1 by rw [← hw1]; exact new_below _ _)
  have hX' := hid hX
  try rw [← hX]
  clear hX hhX
  have KS : ∀ v : World, Below w1.heap.size w1 v → v.heap[B]? = some (.cells (eStc s).toArray 58 (0, 0)) := fun v h => by rw [← hB]; exact (Below.block h _ (Nat.lt_of_lt_of_le (blk_lt hB) HX.out.size)).trans (HX.out.block _ (blk_lt hB))
  have S0 : ∀ v : World, Below w1.heap.size w1 v → v.cell? ⟨B, 0, none⟩ = some (.int .u32 (s.pfx.addr : Int)) := fun v h => box_at (KS v h) (by rfl)
  have S1 : ∀ v : World, Below w1.heap.size w1 v → v.cell? ⟨B, 1, none⟩ = some (.int .i64 s.pfx.len) := fun v h => box_at (KS v h) (by rfl)
  have S5 : ∀ v : World, Below w1.heap.size w1 v → v.cell? ⟨B, 5, none⟩ = some (.int .i64 s.admin) := fun v h => box_at (KS v h) (by rfl)
  clear KS
  clear hB
  have he := fun wx => eqPfx10 y.pfx s.pfx wx
  have hg := gdPfx
  by_cases h1 : y.pfx = s.pfx
  · rw [decide_eq_true h1] at he ⊢
    clear h1
    by_cases h2 : y.admin = s.admin
    · have R := hid (show (true && decide (y.admin = s.admin)) = true by rw [decide_eq_true h2]; rfl)
      have T := eq_int h2
      clear h2
      go_enter Tryz.func153, Tryz.ntmps153
      repeat' (first | go_skip | go_guarded | go_step | go_upon)
      go_ret
      exact ⟨ret_bool R.out.symm, HX.out⟩
    · have R := hid (show (true && decide (y.admin = s.admin)) = false by rw [decide_eq_false h2]; rfl)
      have T := ne_int h2
      go_enter Tryz.func153, Tryz.ntmps153
      repeat' (first | go_skip | go_guarded | go_step | go_upon)
      go_ret
      exact ⟨ret_bool R.out.symm, HX.out⟩
  · have R := hid (show (decide (y.pfx = s.pfx) && decide (y.admin = s.admin)) = false by rw [decide_eq_false h1]; rfl)
    rw [decide_eq_false h1] at he
    clear h1
    go_enter Tryz.func153, Tryz.ntmps153
    repeat' (first | go_skip | go_guarded | go_step | go_upon)
    go_ret
    exact ⟨ret_bool R.out.symm, HX.out⟩

set_option maxHeartbeats 1000000 in
theorem clNbr2 (y s : Nbr) (B : Nat) (w : World) (hB : w.heap[B]? = some (.cells (eNbr s).toArray 156 (0, 0))) :
    Calls Tryz.prog 165 #[.agg (eNbr y).toArray, .pointer (some ⟨B, 0, none⟩)] w fun e w' => e = .returned (.bool (decide (y.addr = s.addr))) ∧ Below w.heap.size w w' := by
  obtain ⟨X, hX⟩ : ∃ X, X = (eNbr y).toArray := ⟨_, rfl⟩
  obtain ⟨w1, hw1⟩ : ∃ w1, w.alloc (.cells X 156) = w1 := ⟨_, rfl⟩
  have hhX : w1.heap[w.heap.size]? = some (.cells X 156 (0, 0)) := by rw [← hw1, heap_new]
  have FX0 : ∀ v : World, Below w1.heap.size w1 v → v.cell? ⟨w.heap.size, 0, none⟩ = some (.int .u32 (y.addr : Int)) := fun v h => box_at (blk_keep hhX h) (by rw [hX]; rfl)
  have GX : Below w1.heap.size w1 w1 := Below.refl _ _
  have HX := hid (show Below w.heap.size w w1 by rw [← hw1]; exact new_below _ _)
  have hX' := hid hX
  try rw [← hX]
  clear hX hhX
  have KS : ∀ v : World, Below w1.heap.size w1 v → v.heap[B]? = some (.cells (eNbr s).toArray 156 (0, 0)) := fun v h => by rw [← hB]; exact (Below.block h _ (Nat.lt_of_lt_of_le (blk_lt hB) HX.out.size)).trans (HX.out.block _ (blk_lt hB))
  have S0 : ∀ v : World, Below w1.heap.size w1 v → v.cell? ⟨B, 0, none⟩ = some (.int .u32 (s.addr : Int)) := fun v h => box_at (KS v h) (by rfl)
  clear KS
  clear hB
  have R := hid (show decide (y.addr = s.addr) = ((y.addr : Int) == (s.addr : Int)) by rw [Bool.eq_iff_iff]; simp; omega)
  rw [R.out]
  go_enter Tryz.func165, Tryz.ntmps165
  repeat' (first | go_skip | go_guarded | go_step | go_upon)
  go_ret
  exact ⟨rfl, HX.out⟩

set_option maxHeartbeats 1000000 in
theorem clRed2 (y s : Red) (B : Nat) (w : World) (hB : w.heap[B]? = some (.cells (eRed s).toArray 154 (0, 0))) :
    Calls Tryz.prog 160 #[.agg (eRed y).toArray, .pointer (some ⟨B, 0, none⟩)] w fun e w' => e = .returned (.bool (decide (y.frm = s.frm))) ∧ Below w.heap.size w w' := by
  obtain ⟨X, hX⟩ : ∃ X, X = (eRed y).toArray := ⟨_, rfl⟩
  obtain ⟨w1, hw1⟩ : ∃ w1, w.alloc (.cells X 154) = w1 := ⟨_, rfl⟩
  have hhX : w1.heap[w.heap.size]? = some (.cells X 154 (0, 0)) := by rw [← hw1, heap_new]
  have FX0 : ∀ v : World, Below w1.heap.size w1 v → v.cell? ⟨w.heap.size, 0, none⟩ = some (.int .i64 y.frm) := fun v h => box_at (blk_keep hhX h) (by rw [hX]; rfl)
  have GX : Below w1.heap.size w1 w1 := Below.refl _ _
  have HX := hid (show Below w.heap.size w w1 by rw [← hw1]; exact new_below _ _)
  have hX' := hid hX
  try rw [← hX]
  clear hX hhX
  have KS : ∀ v : World, Below w1.heap.size w1 v → v.heap[B]? = some (.cells (eRed s).toArray 154 (0, 0)) := fun v h => by rw [← hB]; exact (Below.block h _ (Nat.lt_of_lt_of_le (blk_lt hB) HX.out.size)).trans (HX.out.block _ (blk_lt hB))
  have S0 : ∀ v : World, Below w1.heap.size w1 v → v.cell? ⟨B, 0, none⟩ = some (.int .i64 s.frm) := fun v h => box_at (KS v h) (by rfl)
  clear KS
  clear hB
  have R := hid (show decide (y.frm = s.frm) = (y.frm == s.frm) by rw [Bool.eq_iff_iff]; simp)
  rw [R.out]
  go_enter Tryz.func160, Tryz.ntmps160
  repeat' (first | go_skip | go_guarded | go_step | go_upon)
  go_ret
  exact ⟨rfl, HX.out⟩

set_option maxHeartbeats 1000000 in
theorem clAgg2 (y s : Aggr) (B : Nat) (w : World) (hB : w.heap[B]? = some (.cells (eAggr s).toArray 163 (0, 0))) :
    Calls Tryz.prog 172 #[.agg (eAggr y).toArray, .pointer (some ⟨B, 0, none⟩)] w fun e w' => e = .returned (.bool (decide (y.pfx = s.pfx))) ∧ Below w.heap.size w w' := by
  obtain ⟨X, hX⟩ : ∃ X, X = (eAggr y).toArray := ⟨_, rfl⟩
  obtain ⟨w1, hw1⟩ : ∃ w1, w.alloc (.cells X 163) = w1 := ⟨_, rfl⟩
  have hhX : w1.heap[w.heap.size]? = some (.cells X 163 (0, 0)) := by rw [← hw1, heap_new]
  have FX0 : ∀ v : World, Below w1.heap.size w1 v → v.cell? ⟨w.heap.size, 0, none⟩ = some (.int .u32 (y.pfx.addr : Int)) := fun v h => box_at (blk_keep hhX h) (by rw [hX]; rfl)
  have FX1 : ∀ v : World, Below w1.heap.size w1 v → v.cell? ⟨w.heap.size, 1, none⟩ = some (.int .i64 y.pfx.len) := fun v h => box_at (blk_keep hhX h) (by rw [hX]; rfl)
  have GX : Below w1.heap.size w1 w1 := Below.refl _ _
  have HX := hid (show Below w.heap.size w w1 by rw [← hw1]; exact new_below _ _)
  have hX' := hid hX
  try rw [← hX]
  clear hX hhX
  have KS : ∀ v : World, Below w1.heap.size w1 v → v.heap[B]? = some (.cells (eAggr s).toArray 163 (0, 0)) := fun v h => by rw [← hB]; exact (Below.block h _ (Nat.lt_of_lt_of_le (blk_lt hB) HX.out.size)).trans (HX.out.block _ (blk_lt hB))
  have S0 : ∀ v : World, Below w1.heap.size w1 v → v.cell? ⟨B, 0, none⟩ = some (.int .u32 (s.pfx.addr : Int)) := fun v h => box_at (KS v h) (by rfl)
  have S1 : ∀ v : World, Below w1.heap.size w1 v → v.cell? ⟨B, 1, none⟩ = some (.int .i64 s.pfx.len) := fun v h => box_at (KS v h) (by rfl)
  clear KS
  clear hB
  have he := fun wx => eqPfx10 y.pfx s.pfx wx
  have hg := gdPfx
  obtain ⟨q, hq⟩ : ∃ q, decide (y.pfx = s.pfx) = q := ⟨_, rfl⟩
  rw [hq] at he ⊢
  clear hq
  go_enter Tryz.func172, Tryz.ntmps172
  repeat' (first | go_skip | go_guarded | go_step | go_upon)
  go_ret
  exact ⟨rfl, HX.out⟩

set_option maxHeartbeats 1000000 in
theorem clCnd2 (y s : Cnd) (B : Nat) (w : World) (hB : w.heap[B]? = some (.cells (eCnd s).toArray 165 (0, 0))) :
    Calls Tryz.prog 176 #[.agg (eCnd y).toArray, .pointer (some ⟨B, 0, none⟩)] w fun e w' => e = .returned (.bool (decide (y.pfx = s.pfx))) ∧ Below w.heap.size w w' := by
  obtain ⟨X, hX⟩ : ∃ X, X = (eCnd y).toArray := ⟨_, rfl⟩
  obtain ⟨w1, hw1⟩ : ∃ w1, w.alloc (.cells X 165) = w1 := ⟨_, rfl⟩
  have hhX : w1.heap[w.heap.size]? = some (.cells X 165 (0, 0)) := by rw [← hw1, heap_new]
  have FX0 : ∀ v : World, Below w1.heap.size w1 v → v.cell? ⟨w.heap.size, 0, none⟩ = some (.int .u32 (y.pfx.addr : Int)) := fun v h => box_at (blk_keep hhX h) (by rw [hX]; rfl)
  have FX1 : ∀ v : World, Below w1.heap.size w1 v → v.cell? ⟨w.heap.size, 1, none⟩ = some (.int .i64 y.pfx.len) := fun v h => box_at (blk_keep hhX h) (by rw [hX]; rfl)
  have GX : Below w1.heap.size w1 w1 := Below.refl _ _
  have HX := hid (show Below w.heap.size w w1 by rw [← hw1]; exact new_below _ _)
  have hX' := hid hX
  try rw [← hX]
  clear hX hhX
  have KS : ∀ v : World, Below w1.heap.size w1 v → v.heap[B]? = some (.cells (eCnd s).toArray 165 (0, 0)) := fun v h => by rw [← hB]; exact (Below.block h _ (Nat.lt_of_lt_of_le (blk_lt hB) HX.out.size)).trans (HX.out.block _ (blk_lt hB))
  have S0 : ∀ v : World, Below w1.heap.size w1 v → v.cell? ⟨B, 0, none⟩ = some (.int .u32 (s.pfx.addr : Int)) := fun v h => box_at (KS v h) (by rfl)
  have S1 : ∀ v : World, Below w1.heap.size w1 v → v.cell? ⟨B, 1, none⟩ = some (.int .i64 s.pfx.len) := fun v h => box_at (KS v h) (by rfl)
  clear KS
  clear hB
  have he := fun wx => eqPfx10 y.pfx s.pfx wx
  have hg := gdPfx
  obtain ⟨q, hq⟩ : ∃ q, decide (y.pfx = s.pfx) = q := ⟨_, rfl⟩
  rw [hq] at he ⊢
  clear hq
  go_enter Tryz.func176, Tryz.ntmps176
  repeat' (first | go_skip | go_guarded | go_step | go_upon)
  go_ret
  exact ⟨rfl, HX.out⟩

set_option maxHeartbeats 1000000 in
theorem clRng2 (y s : Rng) (B : Nat) (w : World) (hB : w.heap[B]? = some (.cells (eRng s).toArray 150 (0, 0))) (hy : y.pfx.addr < 4294967296) (hs : s.pfx.addr < 4294967296) :
    Calls Tryz.prog 156 #[.agg (eRng y).toArray, .pointer (some ⟨B, 0, none⟩)] w fun e w' => e = .returned (.bool (decide (y.area = s.area) && ovP y.pfx s.pfx)) ∧ Below w.heap.size w w' := by
  obtain ⟨X, hX⟩ : ∃ X, X = (eRng y).toArray := ⟨_, rfl⟩
  obtain ⟨w1, hw1⟩ : ∃ w1, w.alloc (.cells X 150) = w1 := ⟨_, rfl⟩
  have hhX : w1.heap[w.heap.size]? = some (.cells X 150 (0, 0)) := by rw [← hw1, heap_new]
  have FX0 : ∀ v : World, Below w1.heap.size w1 v → v.cell? ⟨w.heap.size, 0, none⟩ = some (.int .i64 y.area) := fun v h => box_at (blk_keep hhX h) (by rw [hX]; rfl)
  have FX1 : ∀ v : World, Below w1.heap.size w1 v → v.cell? ⟨w.heap.size, 1, none⟩ = some (.int .u32 (y.pfx.addr : Int)) := fun v h => box_at (blk_keep hhX h) (by rw [hX]; rfl)
  have FX2 : ∀ v : World, Below w1.heap.size w1 v → v.cell? ⟨w.heap.size, 2, none⟩ = some (.int .i64 y.pfx.len) := fun v h => box_at (blk_keep hhX h) (by rw [hX]; rfl)
  have GX : Below w1.heap.size w1 w1 := Below.refl _ _
  have HX := hid (show Below w.heap.size w w1 by rw [← hw1]; exact new_below _ _)
  have hX' := hid hX
  try rw [← hX]
  clear hX hhX
  have KS : ∀ v : World, Below w1.heap.size w1 v → v.heap[B]? = some (.cells (eRng s).toArray 150 (0, 0)) := fun v h => by rw [← hB]; exact (Below.block h _ (Nat.lt_of_lt_of_le (blk_lt hB) HX.out.size)).trans (HX.out.block _ (blk_lt hB))
  have S0 : ∀ v : World, Below w1.heap.size w1 v → v.cell? ⟨B, 0, none⟩ = some (.int .i64 s.area) := fun v h => box_at (KS v h) (by rfl)
  have S1 : ∀ v : World, Below w1.heap.size w1 v → v.cell? ⟨B, 1, none⟩ = some (.int .u32 (s.pfx.addr : Int)) := fun v h => box_at (KS v h) (by rfl)
  have S2 : ∀ v : World, Below w1.heap.size w1 v → v.cell? ⟨B, 2, none⟩ = some (.int .i64 s.pfx.len) := fun v h => box_at (KS v h) (by rfl)
  clear KS
  clear hB
  have hO := fun wx => Ad.overlaps y.pfx.addr y.pfx.len s.pfx.addr s.pfx.len wx hy hs
  by_cases h1 : y.area = s.area
  · have R := hid (show (decide (y.area = s.area) && ovP y.pfx s.pfx) = Am.ovlB y.pfx.addr y.pfx.len s.pfx.addr s.pfx.len by rw [decide_eq_true h1]; rfl)
    have T := eq_int h1
    clear h1
    go_enter Tryz.func156, Tryz.ntmps156
    repeat' (first | (go_at_call 139; with_reducible refine (hO _).mono ?_; rintro e w' ⟨rfl, b⟩; have b' := then_ (w := w1) (by assumption) b; clear b; try dsimp only) | go_skip | go_guarded | go_step | go_upon)
    go_ret
    exact ⟨ret_bool R.out.symm, then_ HX.out (by assumption)⟩
  · have R := hid (show (decide (y.area = s.area) && ovP y.pfx s.pfx) = false by rw [decide_eq_false h1]; rfl)
    have T := ne_int h1
    go_enter Tryz.func156, Tryz.ntmps156
    repeat' (first | go_skip | go_guarded | go_step | go_upon)
    go_ret
    exact ⟨ret_bool R.out.symm, HX.out⟩

set_option maxHeartbeats 1000000 in
theorem clOvl2 (y s : Ifc) (B : Nat) (w : World) (hB : w.heap[B]? = some (.cells (eIfc s).toArray 53 (0, 0))) (hy : y.addr < 4294967296) (hs : s.addr < 4294967296) :
    Calls Tryz.prog 138 #[.agg (eIfc y).toArray, .pointer (some ⟨B, 0, none⟩)] w fun e w' => e = .returned (.bool (!decide (y.len = 0) && ovP (netP s) (netP y))) ∧ Below w.heap.size w w' := by
  obtain ⟨X, hX⟩ : ∃ X, X = (eIfc y).toArray := ⟨_, rfl⟩
  obtain ⟨w1, hw1⟩ : ∃ w1, w.alloc (.cells X 53) = w1 := ⟨_, rfl⟩
  have hhX : w1.heap[w.heap.size]? = some (.cells X 53 (0, 0)) := by rw [← hw1, heap_new]
  have FX1 : ∀ v : World, Below w1.heap.size w1 v → v.cell? ⟨w.heap.size, 1, none⟩ = some (.int .u32 (y.addr : Int)) := fun v h => box_at (blk_keep hhX h) (by rw [hX]; rfl)
  have FX2 : ∀ v : World, Below w1.heap.size w1 v → v.cell? ⟨w.heap.size, 2, none⟩ = some (.int .i64 y.len) := fun v h => box_at (blk_keep hhX h) (by rw [hX]; rfl)
  have GX : Below w1.heap.size w1 w1 := Below.refl _ _
  have HX := hid (show Below w.heap.size w w1 by rw [← hw1]; exact new_below _ _)
  have hX' := hid hX
  try rw [← hX]
  clear hX hhX
  have KS : ∀ v : World, Below w1.heap.size w1 v → v.heap[B]? = some (.cells (eIfc s).toArray 53 (0, 0)) := fun v h => by rw [← hB]; exact (Below.block h _ (Nat.lt_of_lt_of_le (blk_lt hB) HX.out.size)).trans (HX.out.block _ (blk_lt hB))
  have S1 : ∀ v : World, Below w1.heap.size w1 v → v.cell? ⟨B, 1, none⟩ = some (.int .u32 (s.addr : Int)) := fun v h => box_at (KS v h) (by rfl)
  have S2 : ∀ v : World, Below w1.heap.size w1 v → v.cell? ⟨B, 2, none⟩ = some (.int .i64 s.len) := fun v h => box_at (KS v h) (by rfl)
  clear KS
  clear hB
  have hN1 := fun wx => Ad.network s.addr s.len wx hs
  have hN2 := fun wx => Ad.network y.addr y.len wx hy
  have hO := fun wx => Ad.overlaps (Am.net s.addr s.len) (Am.cl s.len : Nat) (Am.net y.addr y.len) (Am.cl y.len : Nat) wx (Am.net_lt _ hs) (Am.net_lt _ hy)
  clear hs hy
  by_cases h1 : y.len = 0
  · have R := hid (show (!decide (y.len = 0) && ovP (netP s) (netP y)) = false by rw [decide_eq_true h1]; rfl)
    have uFX1 := fun u : Later w1.heap.size w1 => FX1 u.w u.h
    have uFX2 := fun u : Later w1.heap.size w1 => FX2 u.w u.h
    have uS1 := fun u : Later w1.heap.size w1 => S1 u.w u.h
    have uS2 := fun u : Later w1.heap.size w1 => S2 u.w u.h
    have T : (y.len != 0) = false := by simpa using h1
    go_enter Tryz.func138, Tryz.ntmps138
    repeat' (first | go_skip | go_guarded | go_step | go_upon)
    refine wp_region_later w1.heap.size (by kernel_rfl) (by kernel_rfl) ?_
    repeat (go_big_quiet_step (first | fail))
    refine wpQuiet_nil ?_
    rintro _ ⟨u, rfl⟩
    repeat' (first | go_skip | go_guarded | go_step | go_upon)
    go_ret
    exact ⟨ret_bool R.out.symm, then_ HX.out u.h⟩
  · have R := hid (show (!decide (y.len = 0) && ovP (netP s) (netP y)) = Am.ovlB (Am.net s.addr s.len) (Am.cl s.len : Nat) (Am.net y.addr y.len) (Am.cl y.len : Nat) by rw [decide_eq_false h1]; rfl)
    have T : (y.len != 0) = true := by simpa using h1
    go_enter Tryz.func138, Tryz.ntmps138
    have uFX1 := fun u : Later w1.heap.size w1 => FX1 u.w u.h
    have uFX2 := fun u : Later w1.heap.size w1 => FX2 u.w u.h
    have uS1 := fun u : Later w1.heap.size w1 => S1 u.w u.h
    have uS2 := fun u : Later w1.heap.size w1 => S2 u.w u.h
    repeat' (first | go_skip | go_guarded | go_step | go_upon)
    refine wp_region_later w1.heap.size (by kernel_rfl) (by kernel_rfl) ?_
    repeat (go_big_quiet_step (first | (go_at_call 139; with_reducible exact later_of (Nat.le_refl _) (hO _)) | (go_at_call 140; with_reducible exact later_of (Nat.le_refl _) (hN1 _)) | (go_at_call 140; with_reducible exact later_of (Nat.le_refl _) (hN2 _))))
    refine wpQuiet_nil ?_
    rintro _ ⟨u, rfl⟩
    repeat' (first | go_skip | go_guarded | go_step | go_upon)
    go_ret
    exact ⟨ret_bool R.out.symm, then_ HX.out u.h⟩

set_option maxHeartbeats 1000000 in
theorem overlapsAny (v : Value) (l : List Ifc) (s : Ifc) (w : World) (hrow : IsRow eIfc 12 w v l) (hl : l.length ≤ 9223372036854775807) (hb : ∀ y ∈ l, y.addr < 4294967296) (hs : s.addr < 4294967296) :
    Calls Tryz.prog 68 #[v, .agg (eIfc s).toArray] w fun e w' => e = .returned (.bool (ovAny l s)) ∧ Below w.heap.size w w' := by
  by_cases h1 : s.len = 0
  · have R := hid (show ovAny l s = false by unfold ovAny; rw [decide_eq_true h1]; rfl)
    obtain ⟨X, hX⟩ : ∃ X, X = (eIfc s).toArray := ⟨_, rfl⟩
    obtain ⟨w1, hw1⟩ : ∃ w1, w.alloc (.cells X 53) = w1 := ⟨_, rfl⟩
    have hhX : w1.heap[w.heap.size]? = some (.cells X 53 (0, 0)) := by rw [← hw1, heap_new]
    have FX2 : ∀ v : World, Below w1.heap.size w1 v → v.cell? ⟨w.heap.size, 2, none⟩ = some (.int .i64 s.len) := fun v h => box_at (blk_keep hhX h) (by rw [hX]; rfl)
    have GX : Below w1.heap.size w1 w1 := Below.refl _ _
    have HX := hid (show Below w.heap.size w w1 by rw [← hw1]; exact new_below _ _)
    have hX' := hid hX
    try rw [← hX]
    clear hX hhX
    clear hrow hb
    go_enter Tryz.func68, Tryz.ntmps68
    repeat' (first | go_skip | go_guarded | go_step | go_upon)
    go_ret
    exact ⟨ret_bool R.out.symm, HX.out⟩
  · have R := hid (show ovAny l s = l.any (fun y => !decide (y.len = 0) && ovP (netP s) (netP y)) by unfold ovAny; rw [decide_eq_false h1]; rfl)
    have T : (s.len != 0) = true := by simpa using h1
    have hB : (w.alloc (.cells (eIfc s).toArray 53)).heap[w.heap.size]? = some (.cells (eIfc s).toArray 53 (0, 0)) := heap_new _ _
    have hc := cfIfc v l (fun y => !decide (y.len = 0) && ovP (netP s) (netP y)) 138 #[.pointer (some ⟨w.heap.size, 0, none⟩)] (enters_of Tryz.func138 (by kernel_rfl) rfl) (w.alloc (.cells (eIfc s).toArray 53)) (rows_keep hrow (new_below _ _)) hl
      (fun W x hx hbw => clOvl2 x s w.heap.size W (blk_keep hB hbw) (hb x hx) hs)
    obtain ⟨X, hX⟩ : ∃ X, X = (eIfc s).toArray := ⟨_, rfl⟩
    obtain ⟨w1, hw1⟩ : ∃ w1, w.alloc (.cells X 53) = w1 := ⟨_, rfl⟩
    have hhX : w1.heap[w.heap.size]? = some (.cells X 53 (0, 0)) := by rw [← hw1, heap_new]
    have FX2 : ∀ v : World, Below w1.heap.size w1 v → v.cell? ⟨w.heap.size, 2, none⟩ = some (.int .i64 s.len) := fun v h => box_at (blk_keep hhX h) (by rw [hX]; rfl)
    have GX : Below w1.heap.size w1 w1 := Below.refl _ _
    have HX := hid (show Below w.heap.size w w1 by rw [← hw1]; exact new_below _ _)
    have hX' := hid hX
    try rw [← hX]
    clear hX hhX
    rw [← hX'.out, hw1] at hc
    clear hB hrow hb hX'
    go_enter Tryz.func68, Tryz.ntmps68
    repeat' (first | (go_at_call 120; with_reducible refine (hc).mono ?_; rintro e w' ⟨rfl, b⟩; have b' := then_ (w := w1) (by assumption) b; clear b; try dsimp only) | go_skip | go_guarded | go_step | go_upon)
    go_ret
    exact ⟨ret_bool R.out.symm, then_ HX.out (by assumption)⟩

set_option maxHeartbeats 1000000 in
theorem isRepeated (v : Value) (l : List Stc) (s : Stc) (w : World) (hrow : IsRow eStc 7 w v l) (hl : l.length ≤ 9223372036854775807) :
    Calls Tryz.prog 96 #[v, .agg (eStc s).toArray] w fun e w' => e = .returned (.bool (l.any fun y => decide (y.pfx = s.pfx) && decide (y.admin = s.admin))) ∧ Below w.heap.size w w' := by
  have hB : (w.alloc (.cells (eStc s).toArray 58)).heap[w.heap.size]? = some (.cells (eStc s).toArray 58 (0, 0)) := heap_new _ _
  have hc := cfStc v l (fun y => decide (y.pfx = s.pfx) && decide (y.admin = s.admin)) 153 #[.pointer (some ⟨w.heap.size, 0, none⟩)] (enters_of Tryz.func153 (by kernel_rfl) rfl) (w.alloc (.cells (eStc s).toArray 58)) (rows_keep hrow (new_below _ _)) hl
    (fun W x hx hbw => clRep x s w.heap.size W (blk_keep hB hbw))
  obtain ⟨X, hX⟩ : ∃ X, X = (eStc s).toArray := ⟨_, rfl⟩
  obtain ⟨w1, hw1⟩ : ∃ w1, w.alloc (.cells X 58) = w1 := ⟨_, rfl⟩
  have hhX : w1.heap[w.heap.size]? = some (.cells X 58 (0, 0)) := by rw [← hw1, heap_new]
  have FX6 : ∀ v : World, Below w1.heap.size w1 v → v.cell? ⟨w.heap.size, 6, none⟩ = some (.int .i64 s.tag) := fun v h => box_at (blk_keep hhX h) (by rw [hX]; rfl)
  have GX : Below w1.heap.size w1 w1 := Below.refl _ _
  have HX := hid (show Below w.heap.size w w1 by rw [← hw1]; exact new_below _ _)
  have hX' := hid hX
  try rw [← hX]
  clear hX hhX
  rw [← hX'.out, hw1] at hc
  clear hB hrow hX'
  go_enter Tryz.func96, Tryz.ntmps96
  repeat' (first | (go_at_call 152; with_reducible refine (hc).mono ?_; rintro e w' ⟨rfl, b⟩; have b' := then_ (w := w1) (by assumption) b; clear b; try dsimp only) | go_skip | go_guarded | go_step | go_upon)
  go_ret
  exact ⟨rfl, then_ HX.out (by assumption)⟩
end Go.Proofs.YtlhbfpapmolohaaGreat.Mw
