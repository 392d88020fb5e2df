/-
  THE CONTRACTS OF addr's FUNCTIONS ON PREFIXES AND OF THE REFERENCE's: Valid, Network, Contains, Covers, Overlaps, Last, Halves.
-/
import Derived.Test.YtppdhcjmdgkadaaDoorAddrA
import Derived.Test.YtppdhcjmdgkadaaDoorLater
import Derived.Handy
namespace Go.Proofs.YtppdhcjmdgkadaaDoor.Am
set_option linter.unusedSimpArgs false
set_option linter.unusedVariables false

def net (a : Nat) (n : Int) : Nat := a / blk (cl n) * blk (cl n)
def validB (a : Nat) (n : Int) : Bool := decide (0 ≤ n ∧ n ≤ 32) && decide (a % blk (cl n) = 0)
def contB (a : Nat) (n : Int) (x : Nat) : Bool := decide (net x n = a)
def covB (a : Nat) (n : Int) (b : Nat) (m : Int) : Bool := decide (n ≤ m) && contB a n b
def ovlB (a : Nat) (n : Int) (b : Nat) (m : Int) : Bool := covB a n b m || covB b m a n
def lastV (a : Nat) (n : Int) : Nat := a / blk (cl n) * blk (cl n) + (blk (cl n) - 1)
theorem net_le (a : Nat) (n : Int) : net a n ≤ a := Nat.div_mul_le_self _ _
theorem net_lt {a : Nat} (n : Int) (h : a < 4294967296) : net a n < 4294967296 := Nat.lt_of_le_of_lt (net_le a n) h
theorem lastV_lt {a : Nat} (n : Int) (h : a < 4294967296) : lastV a n < 4294967296 := by
  have h1 := blk_dvd_all (cl n)
  obtain ⟨q, hq⟩ := h1
  have hp := blk_pos (cl n)
  unfold lastV
  have hd : a / blk (cl n) < q := Nat.div_lt_of_lt_mul (by rw [← hq]; exact h)
  have : (a / blk (cl n) + 1) * blk (cl n) ≤ q * blk (cl n) := Nat.mul_le_mul_right _ hd
  rw [Nat.add_mul, Nat.one_mul, Nat.mul_comm q, ← hq] at this
  omega
theorem and_int (x : Nat) (n : Int) (h : x < 4294967296) : bits .and .u32 (x : Int) (mk (cl n) : Nat) = (net x n : Nat) := by
  rw [u32_and_nat x _ h (mk_lt _), and_mk x _ h (cl_le n)]; rfl
theorem andNot_int (x : Nat) (n : Int) (h : x < 4294967296) : bits .andNot .u32 (x : Int) (mk (cl n) : Nat) = (x % blk (cl n) : Nat) := by
  rw [u32_andNot_nat x _ h (mk_lt _), andNot_mk x _ h (cl_le n)]
theorem or_int (x : Nat) (n : Int) (h : x < 4294967296) : bits .or .u32 (x : Int) (bits .xor .u32 IntKind.u32.max (mk (cl n) : Nat)) = (lastV x n : Nat) := by
  have h1 := blk_pos (cl n)
  have h2 := blk_le (cl n)
  rw [not_u32 _ (mk_lt _), u32_or_nat x _ h (by omega)]
  have e : 4294967295 - mk (cl n) = blk (cl n) - 1 := by unfold mk; omega
  rw [e, or_low]; rfl
end Go.Proofs.YtppdhcjmdgkadaaDoor.Am

namespace Go.Proofs.YtppdhcjmdgkadaaDoor.Ad
set_option linter.unusedSimpArgs false
set_option linter.unusedVariables false
open Go.RowKit Sp Sc Am Kt

/-- A prefix as the program holds it. -/
abbrev px (a : Nat) (n : Int) : Value := .agg #[.int .u32 (a : Int), .int .i64 n]

set_option maxHeartbeats 1000000 in
theorem contains (a : Nat) (n : Int) (x : Nat) (w : World) (hx : x < 4294967296) :
    Calls Tryd.prog 26 #[px a n, .int .u32 (x : Int)] w fun e w' => e = .returned (.bool (contB a n x)) ∧ Below w.heap.size w w' := by
  have c0 := box_0 w (.int .u32 (a : Int)) (.int .i64 n) 34
  have c1 := box_1 w (.int .u32 (a : Int)) (.int .i64 n) 34
  go_enter Tryd.func26, Tryd.ntmps26
  go_wp2
  refine wp_region_later (w.heap.size + 1) (by kernel_rfl) (by kernel_rfl) ?_
  repeat (go_big_quiet_step ((go_at_call 20; exact later_same (mask _ _))))
  refine wpQuiet_nil ?_
  rintro _ ⟨u, rfl⟩
  go_wp2
  go_ret
  exact ⟨ret_bool (by rw [and_int x n hx, Bool.eq_iff_iff]; unfold contB; simp; omega), box_below w _ _ _ u⟩

set_option maxHeartbeats 1000000 in
theorem refContains (a : Nat) (n : Int) (x : Nat) (w : World) (hx : x < 4294967296) :
    Calls Tryd.prog 33 #[px a n, .int .u32 (x : Int)] w fun e w' => e = .returned (.bool (contB a n x)) ∧ Below w.heap.size w w' := by
  have c0 := box_0 w (.int .u32 (a : Int)) (.int .i64 n) 34
  have c1 := box_1 w (.int .u32 (a : Int)) (.int .i64 n) 34
  go_enter Tryd.func33, Tryd.ntmps33
  go_wp2
  refine wp_region_later (w.heap.size + 1) (by kernel_rfl) (by kernel_rfl) ?_
  repeat (go_big_quiet_step ((go_at_call 21; exact later_same (refMask _ _))))
  refine wpQuiet_nil ?_
  rintro _ ⟨u, rfl⟩
  go_wp2
  go_ret
  exact ⟨ret_bool (by rw [and_int x n hx, Bool.eq_iff_iff]; unfold contB; simp; omega), box_below w _ _ _ u⟩

set_option maxHeartbeats 1000000 in
theorem covers (a : Nat) (n : Int) (b : Nat) (m : Int) (w : World) (hb : b < 4294967296) :
    Calls Tryd.prog 34 #[px a n, px b m] w fun e w' => e = .returned (.bool (covB a n b m)) ∧ Below w.heap.size w w' := by
  have hC := fun wx => contains a n b wx hb
  by_cases hnm : n ≤ m
  · have hv : Hid (covB a n b m = contB a n b) := by show _ = _; unfold covB; simp [hnm]
    go_enter Tryd.func34, Tryd.ntmps34
    go_wp2_with (go_at_call 26; refine (hC _).mono ?_; rintro e w1 ⟨rfl, b1⟩)
    go_ret
    exact ⟨ret_bool hv.out.symm, then_ (al2 w _ _) b1⟩
  · have hv : Hid (covB a n b m = false) := by show _ = _; unfold covB; simp [hnm]
    go_enter Tryd.func34, Tryd.ntmps34
    go_wp2_with (fail)
    go_ret
    exact ⟨ret_bool hv.out.symm, al2 w _ _⟩

set_option maxHeartbeats 1000000 in
theorem refCovers (a : Nat) (n : Int) (b : Nat) (m : Int) (w : World) (hb : b < 4294967296) :
    Calls Tryd.prog 35 #[px a n, px b m] w fun e w' => e = .returned (.bool (covB a n b m)) ∧ Below w.heap.size w w' := by
  have hC := fun wx => refContains a n b wx hb
  by_cases hnm : n ≤ m
  · have hv : Hid (covB a n b m = contB a n b) := by show _ = _; unfold covB; simp [hnm]
    go_enter Tryd.func35, Tryd.ntmps35
    go_wp2_with (go_at_call 33; refine (hC _).mono ?_; rintro e w1 ⟨rfl, b1⟩)
    go_ret
    exact ⟨ret_bool hv.out.symm, then_ (al2 w _ _) b1⟩
  · have hv : Hid (covB a n b m = false) := by show _ = _; unfold covB; simp [hnm]
    go_enter Tryd.func35, Tryd.ntmps35
    go_wp2_with (fail)
    go_ret
    exact ⟨ret_bool hv.out.symm, al2 w _ _⟩

set_option maxHeartbeats 1000000 in
theorem overlaps (a : Nat) (n : Int) (b : Nat) (m : Int) (w : World) (ha : a < 4294967296) (hb : b < 4294967296) :
    Calls Tryd.prog 36 #[px a n, px b m] w fun e w' => e = .returned (.bool (ovlB a n b m)) ∧ Below w.heap.size w w' := by
  have hC := fun wx => covers a n b m wx hb
  have hD := fun wx => covers b m a n wx ha
  cases h1 : covB a n b m with
  | true =>
    have hv : Hid (ovlB a n b m = true) := by show _ = _; unfold ovlB; rw [h1]; rfl
    rw [h1] at hC
    clear h1
    go_enter Tryd.func36, Tryd.ntmps36
    go_wp2_with (go_at_call 34; refine (hC _).mono ?_; rintro e w1 ⟨rfl, b1⟩)
    go_ret
    exact ⟨ret_bool hv.out.symm, then_ (al2 w _ _) b1⟩
  | false =>
    have hv : Hid (ovlB a n b m = covB b m a n) := by show _ = _; unfold ovlB; rw [h1]; rfl
    rw [h1] at hC
    clear h1
    go_enter Tryd.func36, Tryd.ntmps36
    go_wp2_with (fail)
    refine (hC _).mono ?_
    rintro e w1 ⟨rfl, b1⟩
    have F := two_cells w _ _ _ _ _ _ b1
    obtain ⟨⟨d0, d1⟩, d2, d3⟩ := F
    have B1 := then_ (al2 w _ _) b1
    clear b1
    go_wp2_with (fail)
    refine (hD _).mono ?_
    rintro e w2 ⟨rfl, b2⟩
    go_wp2
    go_ret
    exact ⟨ret_bool hv.out.symm, then_ B1 b2⟩

set_option maxHeartbeats 1000000 in
theorem refOverlaps (a : Nat) (n : Int) (b : Nat) (m : Int) (w : World) (ha : a < 4294967296) (hb : b < 4294967296) :
    Calls Tryd.prog 37 #[px a n, px b m] w fun e w' => e = .returned (.bool (ovlB a n b m)) ∧ Below w.heap.size w w' := by
  have hC := fun wx => refCovers a n b m wx hb
  have hD := fun wx => refCovers b m a n wx ha
  cases h1 : covB a n b m with
  | true =>
    have hv : Hid (ovlB a n b m = true) := by show _ = _; unfold ovlB; rw [h1]; rfl
    rw [h1] at hC
    clear h1
    go_enter Tryd.func37, Tryd.ntmps37
    go_wp2_with (go_at_call 35; refine (hC _).mono ?_; rintro e w1 ⟨rfl, b1⟩)
    go_ret
    exact ⟨ret_bool hv.out.symm, then_ (al2 w _ _) b1⟩
  | false =>
    have hv : Hid (ovlB a n b m = covB b m a n) := by show _ = _; unfold ovlB; rw [h1]; rfl
    rw [h1] at hC
    clear h1
    go_enter Tryd.func37, Tryd.ntmps37
    go_wp2_with (fail)
    refine (hC _).mono ?_
    rintro e w1 ⟨rfl, b1⟩
    have F := two_cells w _ _ _ _ _ _ b1
    obtain ⟨⟨d0, d1⟩, d2, d3⟩ := F
    have B1 := then_ (al2 w _ _) b1
    clear b1
    go_wp2_with (fail)
    refine (hD _).mono ?_
    rintro e w2 ⟨rfl, b2⟩
    go_wp2
    go_ret
    exact ⟨ret_bool hv.out.symm, then_ B1 b2⟩

set_option maxHeartbeats 1000000 in
theorem valid (a : Nat) (n : Int) (w : World) (ha : a < 4294967296) :
    Calls Tryd.prog 23 #[px a n] w fun e w' => e = .returned (.bool (validB a n)) ∧ Below w.heap.size w w' := by
  have c0 := box_0 w (.int .u32 (a : Int)) (.int .i64 n) 34
  have c1 := box_1 w (.int .u32 (a : Int)) (.int .i64 n) 34
  have hI := fun wx => isLen n wx
  by_cases hn : 0 ≤ n ∧ n ≤ 32
  · have hv : Hid (validB a n = decide (a % blk (cl n) = 0)) := by show _ = _; unfold validB; simp [hn]
    rw [decide_eq_true hn] at hI
    obtain ⟨h0, h1⟩ := hn
    go_enter Tryd.func23, Tryd.ntmps23
    go_wp2_with (fail)
    refine wp_region_later (w.heap.size + 1) (by kernel_rfl) (by kernel_rfl) ?_
    repeat (go_big_quiet_step (first | (go_at_call 53; exact later_same (hI _)) | (go_at_call 20; exact later_same (mask _ _))))
    refine wpQuiet_nil ?_
    rintro _ ⟨u, rfl⟩
    go_wp2
    go_ret
    exact ⟨ret_bool (by rw [hv.out, andNot_int a n ha, Bool.eq_iff_iff]; simp; omega), box_below w _ _ _ u⟩
  · have hv : Hid (validB a n = false) := by show _ = _; unfold validB; rw [decide_eq_false hn]; rfl
    rw [decide_eq_false hn] at hI
    go_enter Tryd.func23, Tryd.ntmps23
    go_wp2_with (fail)
    refine wp_region_later (w.heap.size + 1) (by kernel_rfl) (by kernel_rfl) ?_
    repeat (go_big_quiet_step (first | (go_at_call 53; exact later_same (hI _)) | (go_at_call 20; exact later_same (mask _ _))))
    refine wpQuiet_nil ?_
    rintro _ ⟨u, rfl⟩
    go_wp2
    go_ret
    exact ⟨ret_bool hv.out.symm, box_below w _ _ _ u⟩

set_option maxHeartbeats 1000000 in
theorem refValid (a : Nat) (n : Int) (w : World) (ha : a < 4294967296) :
    Calls Tryd.prog 24 #[px a n] w fun e w' => e = .returned (.bool (validB a n)) ∧ Below w.heap.size w w' := by
  have c0 := box_0 w (.int .u32 (a : Int)) (.int .i64 n) 34
  have c1 := box_1 w (.int .u32 (a : Int)) (.int .i64 n) 34
  have hI := fun wx => isLen n wx
  by_cases hn : 0 ≤ n ∧ n ≤ 32
  · have hv : Hid (validB a n = decide (a % blk (cl n) = 0)) := by show _ = _; unfold validB; simp [hn]
    rw [decide_eq_true hn] at hI
    obtain ⟨h0, h1⟩ := hn
    go_enter Tryd.func24, Tryd.ntmps24
    go_wp2_with (fail)
    refine wp_region_later (w.heap.size + 1) (by kernel_rfl) (by kernel_rfl) ?_
    repeat (go_big_quiet_step ((go_at_call 21; exact later_same (refMask _ _))))
    refine wpQuiet_nil ?_
    rintro _ ⟨u, rfl⟩
    go_wp2
    go_ret
    exact ⟨ret_bool (by rw [hv.out, andNot_int a n ha, Bool.eq_iff_iff]; simp; omega), box_below w _ _ _ u⟩
  · have hv : Hid (validB a n = false) := by show _ = _; unfold validB; rw [decide_eq_false hn]; rfl
    rw [decide_eq_false hn] at hI
    have hs : (decide (0 ≤ n) = false) ∨ (decide (0 ≤ n) = true ∧ decide (n ≤ 32) = false) := by
      by_cases h : 0 ≤ n
      · exact .inr ⟨by simpa using h, by simp; omega⟩
      · exact .inl (by simpa using h)
    clear hn
    rcases hs with h0 | ⟨h0, h1⟩
    all_goals
      go_enter Tryd.func24, Tryd.ntmps24
      go_wp2_with (fail)
      refine wp_region_later (w.heap.size + 1) (by kernel_rfl) (by kernel_rfl) ?_
      repeat (go_big_quiet_step ((go_at_call 21; exact later_same (refMask _ _))))
      refine wpQuiet_nil ?_
      rintro _ ⟨u, rfl⟩
      go_wp2
      go_ret
      exact ⟨ret_bool hv.out.symm, box_below w _ _ _ u⟩

theorem ret_px {a a' : Nat} {n n' : Int} (h : a = a') (g : n = n') : Ending.returned (px a n) = .returned (px a' n') := by rw [h, g]
set_option maxHeartbeats 1000000 in
theorem network (a : Nat) (n : Int) (w : World) (ha : a < 4294967296) :
    Calls Tryd.prog 22 #[.int .u32 (a : Int), .int .i64 n] w fun e w' => e = .returned (px (net a n) (cl n : Nat)) ∧ Below w.heap.size w w' := by
  have hI := hid (and_int a n ha)
  go_enter Tryd.func22, Tryd.ntmps22
  go_wp2_with (first | (go_at_call 20; refine (mask _ _).mono ?_; rintro e w' ⟨rfl, rfl⟩) | (go_at_call 52; refine (clampLen _ _).mono ?_; rintro e w' ⟨rfl, rfl⟩))
  rw [hI.out]
  go_returns
  exact ⟨rfl, al1 w _⟩
set_option maxHeartbeats 1000000 in
theorem refNetwork (a : Nat) (n : Int) (w : World) (ha : a < 4294967296) :
    Calls Tryd.prog 25 #[.int .u32 (a : Int), .int .i64 n] w fun e w' => e = .returned (px (net a n) (cl n : Nat)) ∧ Below w.heap.size w w' := by
  have hI := hid (and_int a n ha)
  have hM : ∀ wx, Calls Tryd.prog 21 #[.int .i64 (max (min n 32) 0)] wx fun e w' => e = .returned (.int .u32 (mk (cl n) : Nat)) ∧ wx = w' := by
    intro wx
    have := refMask (max (min n 32) 0) wx
    rwa [show cl (max (min n 32) 0) = cl n by unfold cl; omega] at this
  have hN : Hid ((cl n : Int) = max (min n 32) 0) := by show _ = _; unfold cl; omega
  go_enter Tryd.func25, Tryd.ntmps25
  go_wp2_with (go_at_call 21; refine (hM _).mono ?_; rintro e w' ⟨rfl, rfl⟩)
  rw [hI.out]
  go_returns
  exact ⟨ret_px rfl hN.out.symm, al1 w _⟩
set_option maxHeartbeats 1000000 in
theorem last (a : Nat) (n : Int) (w : World) (ha : a < 4294967296) :
    Calls Tryd.prog 39 #[px a n] w fun e w' => e = .returned (.int .u32 (lastV a n : Nat)) ∧ Below w.heap.size w w' := by
  have c0 := box_0 w (.int .u32 (a : Int)) (.int .i64 n) 34
  have c1 := box_1 w (.int .u32 (a : Int)) (.int .i64 n) 34
  have hu : IntKind.u32.signed = false := rfl
  go_enter Tryd.func39, Tryd.ntmps39
  go_wp2_with (fail)
  refine wp_region_later (w.heap.size + 1) (by kernel_rfl) (by kernel_rfl) ?_
  repeat (go_big_quiet_step ((go_at_call 20; exact later_same (mask _ _))))
  refine wpQuiet_nil ?_
  rintro _ ⟨u, rfl⟩
  go_wp2
  go_ret
  exact ⟨ret_int (or_int a n ha), box_below w _ _ _ u⟩

set_option maxHeartbeats 1000000 in
theorem refLast (a : Nat) (n : Int) (w : World) (ha : a < 4294967296) :
    Calls Tryd.prog 40 #[px a n] w fun e w' => e = .returned (.int .u32 (lastV a n : Nat)) ∧ Below w.heap.size w w' := by
  have c0 := box_0 w (.int .u32 (a : Int)) (.int .i64 n) 34
  have c1 := box_1 w (.int .u32 (a : Int)) (.int .i64 n) 34
  have hu : IntKind.u32.signed = false := rfl
  go_enter Tryd.func40, Tryd.ntmps40
  go_wp2_with (fail)
  refine wp_region_later (w.heap.size + 1) (by kernel_rfl) (by kernel_rfl) ?_
  repeat (go_big_quiet_step ((go_at_call 21; exact later_same (refMask _ _))))
  refine wpQuiet_nil ?_
  rintro _ ⟨u, rfl⟩
  go_wp2
  go_ret
  exact ⟨ret_int (or_int a n ha), box_below w _ _ _ u⟩

end Go.Proofs.YtppdhcjmdgkadaaDoor.Ad
