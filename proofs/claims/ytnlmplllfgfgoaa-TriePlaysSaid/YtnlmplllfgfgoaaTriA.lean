/-
  THE CONTRACTS OF addr's FUNCTIONS THAT A TABLE CALLS: clampLen, isLen, Mask, Network, Last, Valid, Halves; bit.
-/
import Derived.Test.YtnlmplllfgfgoaaRows
import Derived.Test.YtnlmplllfgfgoaaPfxK
import Derived.WalkSpells
import Derived.IntWalk
import Derived.Test.YtnlmplllfgfgoaaTriT
import Derived.Deep.RegionHeld3
namespace Go.Proofs.Ytnlmplllfgfgoaa.Ad
set_option linter.unusedSimpArgs false
set_option linter.unusedVariables false
open Go.RowKit Am Kt Tp

set_option maxHeartbeats 1000000 in
theorem clampLen (n : Int) (w : World) :
    Calls Try.prog 41 #[.int .i64 n] w fun e w' => e = .returned (.int .i64 (cl n : Nat)) ∧ w = w' := by
  go_enter Try.func41, Try.ntmps41
  go_wp2
  all_goals go_ret
  all_goals exact ⟨ret_int (by unfold cl; omega), rfl⟩

set_option maxHeartbeats 1000000 in
theorem mask (n : Int) (w : World) :
    Calls Try.prog 40 #[.int .i64 n] w fun e w' => e = .returned (.int .u32 (mk (cl n) : Nat)) ∧ w = w' := by
  obtain ⟨k, hk⟩ : ∃ k, k = cl n := ⟨_, rfl⟩
  have hC := fun wx => clampLen n wx
  rw [← hk] at hC ⊢
  have h32 : k ≤ 32 := by rw [hk]; exact cl_le n
  clear hk
  go_enter Try.func40, Try.ntmps40
  go_wp2_with (go_at_call 41; refine (hC _).mono ?_; rintro e w' ⟨rfl, rfl⟩)
  go_ret
  exact ⟨ret_int (mk_shift' k h32), rfl⟩

set_option maxHeartbeats 1000000 in
theorem network (a : Nat) (n : Int) (w : World) (ha : a < 4294967296) :
    Calls Try.prog 32 #[.int .u32 (a : Int), .int .i64 n] w fun e w' => e = .returned (px (net a n) (cl n : Nat)) ∧ Below w.heap.size w w' := by
  have hI := hid (and_int a n ha)
  go_enter Try.func32, Try.ntmps32
  go_wp2_with (first | (go_at_call 40; refine (mask _ _).mono ?_; rintro e w' ⟨rfl, rfl⟩) | (go_at_call 41; refine (clampLen _ _).mono ?_; rintro e w' ⟨rfl, rfl⟩))
  rw [hI.out]
  go_returns
  exact ⟨rfl, al1 w _⟩

set_option maxHeartbeats 1000000 in
theorem last (a : Nat) (n : Int) (w : World) (ha : a < 4294967296) :
    Calls Try.prog 44 #[px a n] w fun e w' => e = .returned (.int .u32 (lastV a n : Nat)) ∧ Below w.heap.size w w' := by
  have c0 := box_0 w (.int .u32 (a : Int)) (.int .i64 n) 31
  have c1 := box_1 w (.int .u32 (a : Int)) (.int .i64 n) 31
  have hu : IntKind.u32.signed = false := rfl
  go_enter Try.func44, Try.ntmps44
  go_wp2_with (fail)
  refine wp_region_later (w.heap.size + 1) (by kernel_rfl) (by kernel_rfl) ?_
  repeat (go_big_quiet_step ((go_at_call 40; exact later_same (mask _ _))))
  refine wpQuiet_nil ?_
  rintro _ ⟨u, rfl⟩
  go_wp2
  go_ret
  exact ⟨ret_int (or_int a n ha), box_below w _ _ _ u⟩

set_option maxHeartbeats 1000000 in
theorem isLen (n : Int) (w : World) :
    Calls Try.prog 42 #[.int .i64 n] w fun e w' => e = .returned (.bool (decide (0 ≤ n ∧ n ≤ 32))) ∧ w = w' := by
  go_enter Try.func42, Try.ntmps42
  go_wp2
  all_goals go_ret
  all_goals exact ⟨ret_bool (by rw [Bool.eq_iff_iff]; simp; omega), rfl⟩

set_option maxHeartbeats 1000000 in
theorem valid (a : Nat) (n : Int) (w : World) (ha : a < 4294967296) :
    Calls Try.prog 33 #[px a n] w fun e w' => e = .returned (.bool (validB a n)) ∧ Below w.heap.size w w' := by
  have c0 := box_0 w (.int .u32 (a : Int)) (.int .i64 n) 31
  have c1 := box_1 w (.int .u32 (a : Int)) (.int .i64 n) 31
  have hI := fun wx => isLen n wx
  by_cases hn : 0 ≤ n ∧ n ≤ 32
  · have hv : Hid (validB a n = decide (a % blk (cl n) = 0)) := by show _ = _; unfold validB; simp [hn]
    rw [decide_eq_true hn] at hI
    obtain ⟨h0, h1⟩ := hn
    go_enter Try.func33, Try.ntmps33
    go_wp2_with (fail)
    refine wp_region_later (w.heap.size + 1) (by kernel_rfl) (by kernel_rfl) ?_
    repeat (go_big_quiet_step (first | (go_at_call 42; exact later_same (hI _)) | (go_at_call 40; exact later_same (mask _ _))))
    refine wpQuiet_nil ?_
    rintro _ ⟨u, rfl⟩
    go_wp2
    go_ret
    exact ⟨ret_bool (by rw [hv.out, andNot_int a n ha, Bool.eq_iff_iff]; simp; omega), box_below w _ _ _ u⟩
  · have hv : Hid (validB a n = false) := by show _ = _; unfold validB; rw [decide_eq_false hn]; rfl
    rw [decide_eq_false hn] at hI
    go_enter Try.func33, Try.ntmps33
    go_wp2_with (fail)
    refine wp_region_later (w.heap.size + 1) (by kernel_rfl) (by kernel_rfl) ?_
    repeat (go_big_quiet_step (first | (go_at_call 42; exact later_same (hI _)) | (go_at_call 40; exact later_same (mask _ _))))
    refine wpQuiet_nil ?_
    rintro _ ⟨u, rfl⟩
    go_wp2
    go_ret
    exact ⟨ret_bool hv.out.symm, box_below w _ _ _ u⟩

/-- What the worlds inside a call of Halves keep: the parameter's block and the two results' blocks. -/
def Kept3 (w : World) (a : Nat) (n : Int) (v : World) : Prop :=
  Below (w.heap.size + 3) (three w #[.int .u32 (a : Int), .int .i64 n] #[.int .u32 0, .int .i64 0] #[.int .u32 0, .int .i64 0] 31 31 31) v

theorem kept3_start (w : World) (a : Nat) (n : Int) : Kept3 w a n (three w #[.int .u32 (a : Int), .int .i64 n] #[.int .u32 0, .int .i64 0] #[.int .u32 0, .int .i64 0] 31 31 31) := Below.refl _ _

theorem kept3_drew {w : World} {a : Nat} {n : Int} {v : World} (h : Kept3 w a n v) : Kept3 w a n v.drew := Below.drew h

theorem kept3_next {w : World} {a : Nat} {n : Int} {v v' : World} (h : Kept3 w a n v) (b : Below v.heap.size v v') : Kept3 w a n v' :=
  Below.trans h (b.mono (by have := Below.size h; rw [three_size] at this; exact this))

theorem kept3_below {w : World} {a : Nat} {n : Int} {v : World} (h : Kept3 w a n v) : Below w.heap.size w v := (al3 w _ _ _).trans (Below.mono h (by omega))

theorem kept3_cells {w : World} {a : Nat} {n : Int} {v : World} (h : Kept3 w a n v) :
    (v.cell? ⟨w.heap.size, 0, none⟩ = some (.int .u32 (a : Int)) ∧ v.cell? ⟨w.heap.size, 1, none⟩ = some (.int .i64 n)) ∧
    ((v.cell? ⟨w.heap.size + 1, 0, none⟩ = some (.int .u32 0) ∧ v.cell? ⟨w.heap.size + 1, 1, none⟩ = some (.int .i64 0)) ∧ (v.frozen? ⟨w.heap.size + 1, 0, none⟩ = false ∧ v.frozen? ⟨w.heap.size + 1, 1, none⟩ = false)) ∧
    ((v.cell? ⟨w.heap.size + 1 + 1, 0, none⟩ = some (.int .u32 0) ∧ v.cell? ⟨w.heap.size + 1 + 1, 1, none⟩ = some (.int .i64 0)) ∧ (v.frozen? ⟨w.heap.size + 1 + 1, 0, none⟩ = false ∧ v.frozen? ⟨w.heap.size + 1 + 1, 1, none⟩ = false)) := by
  have b0 := (Below.block h w.heap.size (by omega)).trans (three_b0 w _ _ _ _ _ _)
  have b1 := (Below.block h (w.heap.size + 1) (by omega)).trans (three_b1 w _ _ _ _ _ _)
  have b2 := (Below.block h (w.heap.size + 1 + 1) (by omega)).trans (three_b2 w _ _ _ _ _ _)
  exact ⟨⟨blk_cell b0 0, blk_cell b0 1⟩, ⟨⟨blk_cell b1 0, blk_cell b1 1⟩, blk_frozen b1 0, blk_frozen b1 1⟩, ⟨blk_cell b2 0, blk_cell b2 1⟩, blk_frozen b2 0, blk_frozen b2 1⟩

set_option maxHeartbeats 1000000 in
theorem halves_32 (a : Nat) (w : World) (ha : a < 4294967296) (hv : validB a 32 = true) :
    Calls Try.prog 43 #[px a 32] w fun e w' => e = .returned (.tuple #[px 0 0, px 0 0, .bool false]) ∧ Below w.heap.size w w' := by
  have hV := fun wx => valid a 32 wx ha
  rw [hv] at hV
  clear hv
  go_enter Try.func43, Try.ntmps43
  go_wp2_with (fail)
  refine (hV _).mono ?_
  rintro e w1 ⟨rfl, b1⟩
  have k1 := kept3_next (kept3_start w a 32) b1
  have H := hid (kept3_below k1)
  obtain ⟨⟨c0, c1⟩, ⟨⟨c2, c3⟩, f2, f3⟩, ⟨c4, c5⟩, f4, f5⟩ := kept3_cells k1
  clear b1 k1
  go_wp2_with (fail)
  (try simp only [Exit.inBlock, Exit.then])
  refine bodyPost_ret (by simp [results, Try.results43, go_sem, c2, c3, c4, c5]; rfl) rfl ?_
  exact ⟨rfl, (((H.out.setCell (p := ⟨w.heap.size + 1, 0, none⟩) (by simp) _).setCell (p := ⟨w.heap.size + 1, 1, none⟩) (by simp) _).setCell (p := ⟨w.heap.size + 1 + 1, 0, none⟩) (by simp; omega) _).setCell (p := ⟨w.heap.size + 1 + 1, 1, none⟩) (by simp; omega) _⟩

set_option maxHeartbeats 1000000 in
theorem halves (a : Nat) (n : Int) (w : World) (ha : a < 4294967296) (hn0 : 0 ≤ n) (hn : n < 32) (hv : validB a n = true) :
    Calls Try.prog 43 #[px a n] w fun e w' => e = .returned (.tuple #[px (net a (n + 1)) (cl (n + 1) : Nat), px (net (lastV a n) (n + 1)) (cl (n + 1) : Nat), .bool true]) ∧ Below w.heap.size w w' := by
  have hV := fun wx => valid a n wx ha
  rw [hv] at hV
  have hL := fun wx => last a n wx ha
  have hN1 := fun wx => network a (n + 1) wx ha
  have hN2 := fun wx => network (lastV a n) (n + 1) wx (lastV_lt n ha)
  clear hv
  go_enter Try.func43, Try.ntmps43
  go_wp2_with (fail)
  refine (hV _).mono ?_
  rintro e w1 ⟨rfl, b1⟩
  have k1 := kept3_next (kept3_start w a n) b1
  have C := fun v (h : Kept3 w a n v) => kept3_cells h
  have c0 := fun v h => (C v h).1.1
  have c1 := fun v h => (C v h).1.2
  have c2 := fun v h => (C v h).2.1.1.1
  have c3 := fun v h => (C v h).2.1.1.2
  have f2 := fun v h => (C v h).2.1.2.1
  have f3 := fun v h => (C v h).2.1.2.2
  have c4 := fun v h => (C v h).2.2.1.1
  have c5 := fun v h => (C v h).2.2.1.2
  have f4 := fun v h => (C v h).2.2.2.1
  have f5 := fun v h => (C v h).2.2.2.2
  clear C b1
  have hn32 : (n == 32) = false := by simp; omega
  go_wp2_with (fail)
  have k1d := kept3_drew k1
  go_region_with (first | (go_at_call 44; refine (hL _).mono ?_; rintro e w' ⟨rfl, b⟩; have k := kept3_next (by assumption) b; clear b) | (go_at_call_of 32 (Value.int IntKind.u32 ((lastV a n : Nat) : Int)); refine (hN2 _).mono ?_; rintro e w' ⟨rfl, b⟩; have k := kept3_next (by assumption) b; clear b) | (go_at_call_of 32 (Value.int IntKind.u32 (a : Int)); refine (hN1 _).mono ?_; rintro e w' ⟨rfl, b⟩; have k := kept3_next (by assumption) b; clear b))
  all_goals
    have H := hid (kept3_below k)
    have d2 := c2 _ k
    have d3 := c3 _ k
    have d4 := c4 _ k
    have d5 := c5 _ k
    clear c0 c1 c2 c3 c4 c5 f2 f3 f4 f5
    go_wp2_with (fail)
    (try simp only [Exit.inBlock, Exit.then])
    refine bodyPost_ret (by simp [results, Try.results43, go_sem, d2, d3, d4, d5]; rfl) rfl ?_
    exact ⟨rfl, (((H.out.setCell (p := ⟨w.heap.size + 1, 0, none⟩) (by simp) _).setCell (p := ⟨w.heap.size + 1, 1, none⟩) (by simp) _).setCell (p := ⟨w.heap.size + 1 + 1, 0, none⟩) (by simp; omega) _).setCell (p := ⟨w.heap.size + 1 + 1, 1, none⟩) (by simp; omega) _⟩

theorem bit_int (a k : Nat) (ha : a < 4294967296) (hk : k < 32) : bits .and .u32 ((a : Int) / 2 ^ (31 - k)) 1 = ((bitN a k : Nat) : Int) := by
  have e1 : ((a : Int) / 2 ^ (31 - k)) = ((a / 2 ^ (31 - k) : Nat) : Int) := by simp
  have hlt : a / 2 ^ (31 - k) < 4294967296 := Nat.lt_of_le_of_lt (Nat.div_le_self _ _) ha
  rw [e1, show (1 : Int) = ((1 : Nat) : Int) by rfl, u32_and_nat _ _ hlt (by decide)]
  congr 1
  unfold bitN blk
  rw [show 32 - (k + 1) = 31 - k by omega, Nat.and_one_is_mod]

set_option maxHeartbeats 1000000 in
theorem bit (a k : Nat) (w : World) (ha : a < 4294967296) (hk : k < 32) :
    Calls Try.prog 38 #[.int .u32 (a : Int), .int .i64 (k : Int)] w fun e w' => e = .returned (.int .u32 ((bitN a k : Nat) : Int)) ∧ w = w' := by
  have HB := hid (bit_int a k ha hk)
  have h0 : (0 : Int) ≤ 31 - (k : Int) := by omega
  have h1 : (31 - (k : Int)).toNat = 31 - k := by omega
  go_enter Try.func38, Try.ntmps38
  go_wp2_with fail
  go_ret
  exact ⟨ret_int HB.out, rfl⟩
end Go.Proofs.Ytnlmplllfgfgoaa.Ad
