/-
  THE CONTRACTS OF model's SMALL FUNCTIONS.
-/
import Derived.Test.YtlhbfpapmolohaaGreatModE
import Derived.Test.YtlhbfpapmolohaaGreatModM
import Derived.Test.YtlhbfpapmolohaaGreatModA
import Derived.Test.YtlhbfpapmolohaaGreatModB
import Derived.WalkKit
import Derived.WalkSpells
import Derived.IntWalk
import Derived.Handy
namespace Go.Proofs.YtlhbfpapmolohaaGreat.Mw
set_option linter.unusedSimpArgs false
set_option linter.unusedVariables false
open Go.RowKit Kt Mm Mp

set_option maxHeartbeats 1000000 in
theorem within (n a b : Int) (w : World) :
    Calls Tryz.prog 64 #[.int .i64 n, .int .i64 a, .int .i64 b] w fun e w' => e = .returned (.bool (wi n a b)) ∧ w = w' := by
  go_enter Tryz.func64, Tryz.ntmps64
  repeat' (first | go_skip | go_guarded | go_step | go_upon)
  all_goals go_ret
  all_goals exact ⟨ret_bool (by unfold wi; rw [Bool.eq_iff_iff]; simp; try omega), rfl⟩

set_option maxHeartbeats 1000000 in
theorem hasPorts (p : Int) (w : World) :
    Calls Tryz.prog 151 #[.int .i64 p] w fun e w' => e = .returned (.bool (portOk p)) ∧ w = w' := by
  go_enter Tryz.func151, Tryz.ntmps151
  repeat' (first | go_skip | go_guarded | go_step | go_upon)
  all_goals go_ret
  all_goals exact ⟨ret_bool (by unfold portOk; rw [Bool.eq_iff_iff]; simp; try omega), rfl⟩

theorem and_nat (a b : Nat) (ha : a < 4294967296) (hb : b < 4294967296) : bits .and .u32 (a : Int) (b : Int) = ((a &&& b : Nat) : Int) := u32_and_nat a b ha hb

set_option maxHeartbeats 1000000 in
theorem fitsWildcard (x : Wild) (w : World) (ha : x.addr < 4294967296) (hm : x.mask < 4294967296) :
    Calls Tryz.prog 149 #[.agg #[.int .u32 (x.addr : Int), .int .u32 (x.mask : Int)]] w fun e w' => e = .returned (.bool (wildOk x)) ∧ Below w.heap.size w w' := by
  have c0 := new_cell w #[.int .u32 (x.addr : Int), .int .u32 (x.mask : Int)] 122 0
  have c1 := new_cell w #[.int .u32 (x.addr : Int), .int .u32 (x.mask : Int)] 122 1
  have R := and_nat x.addr x.mask ha hm
  simp at c0 c1
  go_enter Tryz.func149, Tryz.ntmps149
  repeat' (first | go_skip | go_guarded | go_step | go_upon)
  go_ret
  exact ⟨ret_bool (by unfold wildOk; rw [Bool.eq_iff_iff]; simp; try omega), al1 w _⟩

set_option maxHeartbeats 1000000 in
theorem fitsPorts (x : Ports) (p : Int) (w : World) :
    Calls Tryz.prog 150 #[.agg #[.int .i64 x.lo, .int .i64 x.hi], .int .i64 p] w fun e w' => e = .returned (.bool (portsOk x p)) ∧ Below w.heap.size w w' := by
  have c0 := new_cell w #[.int .i64 x.lo, .int .i64 x.hi] 124 0
  have c1 := new_cell w #[.int .i64 x.lo, .int .i64 x.hi] 124 1
  simp at c0 c1
  have hP := fun wx => hasPorts p wx
  have heq := fun wx => eqInPorts 9998 x ⟨0, 65535⟩ wx
  simp only [Nat.reduceAdd] at heq
  cases hp : portOk p with
  | true =>
    rw [hp] at hP
    have R := hid (show portsOk x p = (wi x.lo 0 x.hi && decide (x.hi ≤ 65535)) by unfold portsOk; rw [if_pos hp])
    go_enter Tryz.func150, Tryz.ntmps150
    repeat' (first | (go_at_call 151; with_reducible refine (hP _).mono ?_; rintro e w' ⟨rfl, rfl⟩; try dsimp only) | (go_at_call 64; with_reducible refine (within _ _ _ _).mono ?_; rintro e w' ⟨rfl, rfl⟩; try dsimp only) | go_skip | go_guarded | go_step | go_upon)
    all_goals go_ret
    all_goals exact ⟨ret_bool (by first | (rw [R.out]; simp_all; done) | (rw [R.out, Bool.eq_iff_iff]; simp_all; done)), al1 w _⟩
  | false =>
    rw [hp] at hP
    have R := hid (show portsOk x p = decide (x = ⟨0, 65535⟩) by unfold portsOk; rw [if_neg (by rw [hp]; simp)]; cases x; simp)
    go_enter Tryz.func150, Tryz.ntmps150
    repeat' (first | (go_at_call 151; with_reducible refine (hP _).mono ?_; rintro e w' ⟨rfl, rfl⟩; try dsimp only) | go_skip | go_guarded | go_step | go_upon)
    all_goals go_ret
    all_goals exact ⟨ret_bool R.out.symm, al1 w _⟩

set_option maxHeartbeats 1000000 in
theorem fitsArea (x : Ifc) (w : World) :
    Calls Tryz.prog 137 #[.agg (eIfc x).toArray] w fun e w' => e = .returned (.bool (areaOk x)) ∧ Below w.heap.size w w' := by
  obtain ⟨X, hX⟩ : ∃ X, X = (eIfc x).toArray := ⟨_, rfl⟩
  obtain ⟨w1, hw1⟩ : ∃ w1, w.alloc (.cells X 53) = w1 := ⟨_, rfl⟩
  have hhX : w1.heap[w.heap.size]? = some (.cells X 53 (0, 0)) := by rw [← hw1, heap_new]
  have FX5 : ∀ v : World, Below w1.heap.size w1 v → v.cell? ⟨w.heap.size, 5, none⟩ = some (.bool x.ls) := fun v h => box_at (blk_keep hhX h) (by rw [hX]; rfl)
  have FX6 : ∀ v : World, Below w1.heap.size w1 v → v.cell? ⟨w.heap.size, 6, none⟩ = some (.int .i64 x.area) := fun v h => box_at (blk_keep hhX h) (by rw [hX]; rfl)
  have FX7 : ∀ v : World, Below w1.heap.size w1 v → v.cell? ⟨w.heap.size, 7, none⟩ = some (.int .i64 x.cost) := fun v h => box_at (blk_keep hhX h) (by rw [hX]; rfl)
  have GX : Below w1.heap.size w1 w1 := Below.refl _ _
  have HX := hid (show Below w.heap.size w w1 by rw [← hw1]; exact new_below _ _)
  have hX' := hid hX
  try rw [← hX]
  clear hX hhX
  cases hls : x.ls with
  | true =>
    have R := hid (show areaOk x = (wi x.area 0 255 && wi x.cost 1 65535) by unfold areaOk; rw [if_pos hls])
    rw [hls] at FX5
    clear hls
    go_enter Tryz.func137, Tryz.ntmps137
    repeat' (first | (go_at_call 64; with_reducible refine (within _ _ _ _).mono ?_; rintro e w' ⟨rfl, rfl⟩; try dsimp only) | go_skip | go_guarded | go_step | go_upon)
    all_goals go_ret
    all_goals exact ⟨ret_bool (by first | (rw [R.out]; simp_all; done) | (rw [R.out, Bool.eq_iff_iff]; simp_all; done)), HX.out⟩
  | false =>
    have R := hid (show areaOk x = (decide (x.area = 0) && decide (x.cost = 0)) by unfold areaOk; rw [if_neg (by rw [hls]; simp)])
    rw [hls] at FX5
    clear hls
    go_enter Tryz.func137, Tryz.ntmps137
    repeat' (first | go_skip | go_guarded | go_step | go_upon)
    all_goals go_ret
    all_goals exact ⟨ret_bool (by first | (rw [R.out]; simp_all; done) | (rw [R.out, Bool.eq_iff_iff]; simp_all; done)), HX.out⟩

set_option maxHeartbeats 1000000 in
theorem fitsClause (x : Cla) (w : World) :
    Calls Tryz.prog 82 #[.agg (eCla x).toArray] w fun e w' => e = .returned (.bool (claOk x)) ∧ Below w.heap.size w w' := by
  obtain ⟨X, hX⟩ : ∃ X, X = (eCla x).toArray := ⟨_, rfl⟩
  obtain ⟨w1, hw1⟩ : ∃ w1, w.alloc (.cells X 114) = w1 := ⟨_, rfl⟩
  have hhX : w1.heap[w.heap.size]? = some (.cells X 114 (0, 0)) := by rw [← hw1, heap_new]
  have FX2 : ∀ v : World, Below w1.heap.size w1 v → v.cell? ⟨w.heap.size, 2, none⟩ = some (.int .i64 x.tag) := fun v h => box_at (blk_keep hhX h) (by rw [hX]; rfl)
  have FX3 : ∀ v : World, Below w1.heap.size w1 v → v.cell? ⟨w.heap.size, 3, none⟩ = some (.int .i64 x.setMetric) := fun v h => box_at (blk_keep hhX h) (by rw [hX]; rfl)
  have FX4 : ∀ v : World, Below w1.heap.size w1 v → v.cell? ⟨w.heap.size, 4, none⟩ = some (.int .i64 x.setTag) := fun v h => box_at (blk_keep hhX h) (by rw [hX]; rfl)
  have FX5 : ∀ v : World, Below w1.heap.size w1 v → v.cell? ⟨w.heap.size, 5, none⟩ = some (.int .i64 x.setPref) := fun v h => box_at (blk_keep hhX h) (by rw [hX]; rfl)
  have FX6 : ∀ v : World, Below w1.heap.size w1 v → v.cell? ⟨w.heap.size, 6, none⟩ = some (.int .i64 x.prepend) := fun v h => box_at (blk_keep hhX h) (by rw [hX]; rfl)
  have GX : Below w1.heap.size w1 w1 := Below.refl _ _
  have HX := hid (show Below w.heap.size w w1 by rw [← hw1]; exact new_below _ _)
  have hX' := hid hX
  try rw [← hX]
  clear hX hhX
  go_enter Tryz.func82, Tryz.ntmps82
  repeat' (first | (go_at_call 64; with_reducible refine (within _ _ _ _).mono ?_; rintro e w' ⟨rfl, rfl⟩; try dsimp only) | go_skip | go_guarded | go_step | go_upon)
  all_goals go_ret
  all_goals exact ⟨ret_bool (by unfold claOk; simp_all), HX.out⟩

set_option maxHeartbeats 1000000 in
set_option maxRecDepth 100000 in
theorem fitsRule (x : Rule) (w : World) (h1 : x.src.addr < 4294967296) (h2 : x.src.mask < 4294967296) (h3 : x.dst.addr < 4294967296) (h4 : x.dst.mask < 4294967296) :
    Calls Tryz.prog 88 #[.agg (eRule x).toArray] w fun e w' => e = .returned (.bool (ruleOk x)) ∧ Below w.heap.size w w' := by
  obtain ⟨X, hX⟩ : ∃ X, X = (eRule x).toArray := ⟨_, rfl⟩
  obtain ⟨w1, hw1⟩ : ∃ w1, w.alloc (.cells X 126) = w1 := ⟨_, rfl⟩
  have hhX : w1.heap[w.heap.size]? = some (.cells X 126 (0, 0)) := by rw [← hw1, heap_new]
  have FX1 : ∀ v : World, Below w1.heap.size w1 v → v.cell? ⟨w.heap.size, 1, none⟩ = some (.int .i64 x.proto) := fun v h => box_at (blk_keep hhX h) (by rw [hX]; rfl)
  have FX2 : ∀ v : World, Below w1.heap.size w1 v → v.cell? ⟨w.heap.size, 2, none⟩ = some (.int .u32 (x.src.addr : Int)) := fun v h => box_at (blk_keep hhX h) (by rw [hX]; rfl)
  have FX3 : ∀ v : World, Below w1.heap.size w1 v → v.cell? ⟨w.heap.size, 3, none⟩ = some (.int .u32 (x.src.mask : Int)) := fun v h => box_at (blk_keep hhX h) (by rw [hX]; rfl)
  have FX4 : ∀ v : World, Below w1.heap.size w1 v → v.cell? ⟨w.heap.size, 4, none⟩ = some (.int .u32 (x.dst.addr : Int)) := fun v h => box_at (blk_keep hhX h) (by rw [hX]; rfl)
  have FX5 : ∀ v : World, Below w1.heap.size w1 v → v.cell? ⟨w.heap.size, 5, none⟩ = some (.int .u32 (x.dst.mask : Int)) := fun v h => box_at (blk_keep hhX h) (by rw [hX]; rfl)
  have FX6 : ∀ v : World, Below w1.heap.size w1 v → v.cell? ⟨w.heap.size, 6, none⟩ = some (.int .i64 x.sp.lo) := fun v h => box_at (blk_keep hhX h) (by rw [hX]; rfl)
  have FX7 : ∀ v : World, Below w1.heap.size w1 v → v.cell? ⟨w.heap.size, 7, none⟩ = some (.int .i64 x.sp.hi) := fun v h => box_at (blk_keep hhX h) (by rw [hX]; rfl)
  have FX8 : ∀ v : World, Below w1.heap.size w1 v → v.cell? ⟨w.heap.size, 8, none⟩ = some (.int .i64 x.dp.lo) := fun v h => box_at (blk_keep hhX h) (by rw [hX]; rfl)
  have FX9 : ∀ v : World, Below w1.heap.size w1 v → v.cell? ⟨w.heap.size, 9, none⟩ = some (.int .i64 x.dp.hi) := fun v h => box_at (blk_keep hhX h) (by rw [hX]; rfl)
  have GX : Below w1.heap.size w1 w1 := Below.refl _ _
  have HX := hid (show Below w.heap.size w w1 by rw [← hw1]; exact new_below _ _)
  have hX' := hid hX
  try rw [← hX]
  clear hX hhX
  have hS := fun wx => fitsWildcard x.src wx h1 h2
  have hD := fun wx => fitsWildcard x.dst wx h3 h4
  have hE := fun wx => fitsPorts x.sp x.proto wx
  have hF := fun wx => fitsPorts x.dp x.proto wx
  clear h1 h2 h3 h4
  go_enter Tryz.func88, Tryz.ntmps88
  repeat' (first | (go_at_call 64; with_reducible refine (within _ _ _ _).mono ?_; rintro e w' ⟨rfl, rfl⟩; try dsimp only) | (go_at_call 149; with_reducible refine (hS _).mono ?_; rintro e w' ⟨rfl, b⟩; have b' := then_ (w := w1) (by assumption) b; clear b; try dsimp only) | (go_at_call 149; with_reducible refine (hD _).mono ?_; rintro e w' ⟨rfl, b⟩; have b' := then_ (w := w1) (by assumption) b; clear b; try dsimp only) | (go_at_call 150; with_reducible refine (hE _).mono ?_; rintro e w' ⟨rfl, b⟩; have b' := then_ (w := w1) (by assumption) b; clear b; try dsimp only) | (go_at_call 150; with_reducible refine (hF _).mono ?_; rintro e w' ⟨rfl, b⟩; have b' := then_ (w := w1) (by assumption) b; clear b; try dsimp only) | go_skip | go_guarded | go_step | go_upon)
  all_goals go_ret
  all_goals exact ⟨ret_bool (by unfold ruleOk; simp_all), then_ HX.out (by assumption)⟩

set_option maxHeartbeats 1000000 in
theorem checkList (s : ByteArray) (t : Bool) (n : Nat) (w : World) (hs : s.size ≤ maxLen) :
    Calls Tryz.prog 71 #[.string s, .bool t, .int .i64 (n : Int)] w fun e w' => e = .returned (.int .i64 (headE s t n)) ∧ w = w' := by
  have hN := fun wx => Sc.name s wx hs
  have hN : ∀ wx, Calls Tryz.prog 63 #[.string s] wx fun e w' => e = .returned (.bool (nmB s)) ∧ wx = w' := hN
  cases hq : nmB s <;> rw [hq] at hN <;> cases t <;> by_cases h0 : (n : Int) = 0
  all_goals
    have Q := hid hq
    have h0' := hid (show (n = 0) = ((n : Int) = 0) by simp)
    clear hs hq
    go_enter Tryz.func71, Tryz.ntmps71
    repeat' (first | (go_at_call 63; with_reducible refine (hN _).mono ?_; rintro e w' ⟨rfl, rfl⟩; try dsimp only) | go_skip | go_guarded | go_step | go_upon)
    all_goals go_ret
    all_goals exact ⟨ret_int (by unfold headE; rw [Q.out]; simp only [h0'.out]; simp_all), rfl⟩
end Go.Proofs.YtlhbfpapmolohaaGreat.Mw
