/-
  THE CONTRACT OF addr.Halves at valid prefixes.
-/
import Derived.Test.YtppdhcjmdgkadaaDoorAddrB
import Derived.Deep.RegionHeld3
namespace Go.Proofs.YtppdhcjmdgkadaaDoor.Ad
set_option linter.unusedSimpArgs false
set_option linter.unusedVariables false
open Go.RowKit Sp Sc Am Kt

/-- What the worlds inside a call of Halves keep: the parameter's block and the two results' blocks. -/
def Kept3 (w : World) (a : Nat) (n : Int) (v : World) : Prop :=
  Below (w.heap.size + 3) (three w #[.int .u32 (a : Int), .int .i64 n] #[.int .u32 0, .int .i64 0] #[.int .u32 0, .int .i64 0] 34 34 34) v
theorem kept3_start (w : World) (a : Nat) (n : Int) : Kept3 w a n (three w #[.int .u32 (a : Int), .int .i64 n] #[.int .u32 0, .int .i64 0] #[.int .u32 0, .int .i64 0] 34 34 34) := Below.refl _ _
theorem kept3_drew {w : World} {a : Nat} {n : Int} {v : World} (h : Kept3 w a n v) : Kept3 w a n v.drew := Below.drew h
theorem kept3_next {w : World} {a : Nat} {n : Int} {v v' : World} (h : Kept3 w a n v) (b : Below v.heap.size v v') : Kept3 w a n v' :=
  Below.trans h (b.mono (by have := Below.size h; rw [three_size] at this; exact this))
theorem kept3_below {w : World} {a : Nat} {n : Int} {v : World} (h : Kept3 w a n v) : Below w.heap.size w v := (al3 w _ _ _).trans (Below.mono h (by omega))
theorem kept3_cells {w : World} {a : Nat} {n : Int} {v : World} (h : Kept3 w a n v) :
    (v.cell? ⟨w.heap.size, 0, none⟩ = some (.int .u32 (a : Int)) ∧ v.cell? ⟨w.heap.size, 1, none⟩ = some (.int .i64 n)) ∧
    ((v.cell? ⟨w.heap.size + 1, 0, none⟩ = some (.int .u32 0) ∧ v.cell? ⟨w.heap.size + 1, 1, none⟩ = some (.int .i64 0)) ∧ (v.frozen? ⟨w.heap.size + 1, 0, none⟩ = false ∧ v.frozen? ⟨w.heap.size + 1, 1, none⟩ = false)) ∧
    ((v.cell? ⟨w.heap.size + 1 + 1, 0, none⟩ = some (.int .u32 0) ∧ v.cell? ⟨w.heap.size + 1 + 1, 1, none⟩ = some (.int .i64 0)) ∧ (v.frozen? ⟨w.heap.size + 1 + 1, 0, none⟩ = false ∧ v.frozen? ⟨w.heap.size + 1 + 1, 1, none⟩ = false)) := by
  have b0 := (Below.block h w.heap.size (by omega)).trans (three_b0 w _ _ _ _ _ _)
  have b1 := (Below.block h (w.heap.size + 1) (by omega)).trans (three_b1 w _ _ _ _ _ _)
  have b2 := (Below.block h (w.heap.size + 1 + 1) (by omega)).trans (three_b2 w _ _ _ _ _ _)
  exact ⟨⟨blk_cell b0 0, blk_cell b0 1⟩, ⟨⟨blk_cell b1 0, blk_cell b1 1⟩, blk_frozen b1 0, blk_frozen b1 1⟩, ⟨blk_cell b2 0, blk_cell b2 1⟩, blk_frozen b2 0, blk_frozen b2 1⟩

set_option maxHeartbeats 1000000 in
theorem halves_32 (a : Nat) (w : World) (ha : a < 4294967296) (hv : validB a 32 = true) :
    Calls Tryd.prog 38 #[px a 32] w fun e w' => e = .returned (.tuple #[px 0 0, px 0 0, .bool false]) ∧ Below w.heap.size w w' := by
  have hV := fun wx => valid a 32 wx ha
  rw [hv] at hV
  clear hv
  go_enter Tryd.func38, Tryd.ntmps38
  go_wp2_with (fail)
  refine (hV _).mono ?_
  rintro e w1 ⟨rfl, b1⟩
  have k1 := kept3_next (kept3_start w a 32) b1
  have H := hid (kept3_below k1)
  obtain ⟨⟨c0, c1⟩, ⟨⟨c2, c3⟩, f2, f3⟩, ⟨c4, c5⟩, f4, f5⟩ := kept3_cells k1
  clear b1 k1
  go_wp2_with (fail)
  (try simp only [Exit.inBlock, Exit.then])
  refine bodyPost_ret (by simp [results, Tryd.results38, go_sem, c2, c3, c4, c5]; rfl) rfl ?_
  exact ⟨rfl, (((H.out.setCell (p := ⟨w.heap.size + 1, 0, none⟩) (by simp) _).setCell (p := ⟨w.heap.size + 1, 1, none⟩) (by simp) _).setCell (p := ⟨w.heap.size + 1 + 1, 0, none⟩) (by simp; omega) _).setCell (p := ⟨w.heap.size + 1 + 1, 1, none⟩) (by simp; omega) _⟩
set_option maxHeartbeats 1000000 in
theorem halves (a : Nat) (n : Int) (w : World) (ha : a < 4294967296) (hn0 : 0 ≤ n) (hn : n < 32) (hv : validB a n = true) :
    Calls Tryd.prog 38 #[px a n] w fun e w' => e = .returned (.tuple #[px (net a (n + 1)) (cl (n + 1) : Nat), px (net (lastV a n) (n + 1)) (cl (n + 1) : Nat), .bool true]) ∧ Below w.heap.size w w' := by
  have hV := fun wx => valid a n wx ha
  rw [hv] at hV
  have hL := fun wx => last a n wx ha
  have hN1 := fun wx => network a (n + 1) wx ha
  have hN2 := fun wx => network (lastV a n) (n + 1) wx (lastV_lt n ha)
  clear hv
  go_enter Tryd.func38, Tryd.ntmps38
  go_wp2_with (fail)
  refine (hV _).mono ?_
  rintro e w1 ⟨rfl, b1⟩
  have k1 := kept3_next (kept3_start w a n) b1
  have C := fun v (h : Kept3 w a n v) => kept3_cells h
  have c0 := fun v h => (C v h).1.1
  have c1 := fun v h => (C v h).1.2
  have c2 := fun v h => (C v h).2.1.1.1
  have c3 := fun v h => (C v h).2.1.1.2
  have f2 := fun v h => (C v h).2.1.2.1
  have f3 := fun v h => (C v h).2.1.2.2
  have c4 := fun v h => (C v h).2.2.1.1
  have c5 := fun v h => (C v h).2.2.1.2
  have f4 := fun v h => (C v h).2.2.2.1
  have f5 := fun v h => (C v h).2.2.2.2
  clear C b1
  have hn32 : (n == 32) = false := by simp; omega
  go_wp2_with (fail)
  have k1d := kept3_drew k1
  go_region_with (first | (go_at_call 39; refine (hL _).mono ?_; rintro e w' ⟨rfl, b⟩; have k := kept3_next (by assumption) b; clear b) | (go_at_call_of 22 (Value.int IntKind.u32 ((lastV a n : Nat) : Int)); refine (hN2 _).mono ?_; rintro e w' ⟨rfl, b⟩; have k := kept3_next (by assumption) b; clear b) | (go_at_call_of 22 (Value.int IntKind.u32 (a : Int)); refine (hN1 _).mono ?_; rintro e w' ⟨rfl, b⟩; have k := kept3_next (by assumption) b; clear b))
  all_goals
    have H := hid (kept3_below k)
    have d2 := c2 _ k
    have d3 := c3 _ k
    have d4 := c4 _ k
    have d5 := c5 _ k
    clear c0 c1 c2 c3 c4 c5 f2 f3 f4 f5
    go_wp2_with (fail)
    (try simp only [Exit.inBlock, Exit.then])
    refine bodyPost_ret (by simp [results, Tryd.results38, go_sem, d2, d3, d4, d5]; rfl) rfl ?_
    exact ⟨rfl, (((H.out.setCell (p := ⟨w.heap.size + 1, 0, none⟩) (by simp) _).setCell (p := ⟨w.heap.size + 1, 1, none⟩) (by simp) _).setCell (p := ⟨w.heap.size + 1 + 1, 0, none⟩) (by simp; omega) _).setCell (p := ⟨w.heap.size + 1 + 1, 1, none⟩) (by simp; omega) _⟩
end Go.Proofs.YtppdhcjmdgkadaaDoor.Ad
