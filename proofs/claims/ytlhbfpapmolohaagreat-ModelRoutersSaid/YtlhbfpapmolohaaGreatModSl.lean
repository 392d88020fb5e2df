/-
  THE CONTRACT OF netverifylaw5.Small.
-/
import Derived.Test.YtlhbfpapmolohaaGreatProg
import Derived.Test.YtlhbfpapmolohaaGreatModK
import Derived.Deep.LoopGhost
import Derived.WalkKit
import Derived.WalkSpells
import Derived.IntWalk
namespace Go.Proofs.YtlhbfpapmolohaaGreat.Mw
set_option linter.unusedSimpArgs false
set_option linter.unusedVariables false
open Go.RowKit Kt Mm Mp

theorem want_at {P : Program} {ops : Array Oper} {rest : List Oper} {o : Oper} {a : Act} {w : World} {Q : Exit → Act → World → Prop} (hw : Region.wanted o (yielded ops a.tmps) = true)
    (h : ∀ K : Act → World → Prop, (∀ a w, wpList P ops Q rest a w → K a w) → o.wp P a w K Q) : wpList P ops Q (o :: rest) a w :=
  wpList_step fun K hK => by rw [if_pos hw]; exact h K hK
theorem stopAt {p : Prop} (h : Hid p) : p := h
/-- The lists are short. -/
def small0 (r : Rtr) : Bool := decide (r.ifs.length ≤ 12) && decide (r.lists.length ≤ 12) && decide (r.maps.length ≤ 12) && decide (r.acls.length ≤ 12) && decide (r.nat.length ≤ 12) && decide (r.sts.length ≤ 20) && decide (r.rngs.length ≤ 8) && decide (r.lsr.length ≤ 8) && decide (r.dvr.length ≤ 8) && decide (r.pvr.length ≤ 8) && decide (r.nbrs.length ≤ 12) && decide (r.nets.length ≤ 12) && decide (r.aggs.length ≤ 12) && decide (r.cnds.length ≤ 12)
def smlL (r : Rtr) : Bool := r.lists.all fun x => decide (x.rules.length ≤ 20)
def smlM (r : Rtr) : Bool := r.maps.all fun x => decide (x.clauses.length ≤ 12)
def smlA (r : Rtr) : Bool := r.acls.all fun x => decide (x.rules.length ≤ 20)
def smallB (r : Rtr) : Bool := small0 r && (smlL r && (smlM r && smlA r))

theorem small0_no {r : Rtr} (h : 12 < r.ifs.length ∨ 12 < r.lists.length ∨ 12 < r.maps.length ∨ 12 < r.acls.length ∨ 12 < r.nat.length ∨ 20 < r.sts.length ∨ 8 < r.rngs.length ∨ 8 < r.lsr.length ∨ 8 < r.dvr.length ∨ 8 < r.pvr.length ∨ 12 < r.nbrs.length ∨ 12 < r.nets.length ∨ 12 < r.aggs.length ∨ 12 < r.cnds.length) : smallB r = false := by
  unfold smallB small0; simp; omega
theorem small0_yes {r : Rtr} (h : r.ifs.length ≤ 12 ∧ r.lists.length ≤ 12 ∧ r.maps.length ≤ 12 ∧ r.acls.length ≤ 12 ∧ r.nat.length ≤ 12 ∧ r.sts.length ≤ 20 ∧ r.rngs.length ≤ 8 ∧ r.lsr.length ≤ 8 ∧ r.dvr.length ≤ 8 ∧ r.pvr.length ≤ 8 ∧ r.nbrs.length ≤ 12 ∧ r.nets.length ≤ 12 ∧ r.aggs.length ≤ 12 ∧ r.cnds.length ≤ 12) : smallB r = (smlL r && (smlM r && smlA r)) := by
  have : small0 r = true := by unfold small0; simp; omega
  unfold smallB; rw [this, Bool.true_and]

set_option maxHeartbeats 16000000 in
set_option maxRecDepth 4000 in
theorem smallC (r : Rtr) (w : World) (hr : RtrIn w r) :
    Calls Tryz.prog 7 #[.agg (eRtr r).toArray] w fun e w' => e = .returned (.bool (smallB r)) ∧ Below w.heap.size w w' := by
  obtain ⟨X, hX⟩ : ∃ X, X = (eRtr r).toArray := ⟨_, rfl⟩
  obtain ⟨w1, hw1⟩ : ∃ w1, w.alloc (.cells X 41) = w1 := ⟨_, rfl⟩
  have hhX : w1.heap[w.heap.size]? = some (.cells X 41 (0, 0)) := by rw [← hw1, heap_new]
  have FX2 : ∀ v : World, Below w1.heap.size w1 v → v.cell? ⟨w.heap.size, 2, none⟩ = some (r.vIfs) := fun v h => box_at (blk_keep hhX h) (by rw [hX]; rfl)
  have FX3 : ∀ v : World, Below w1.heap.size w1 v → v.cell? ⟨w.heap.size, 3, none⟩ = some (r.vLists) := fun v h => box_at (blk_keep hhX h) (by rw [hX]; rfl)
  have FX4 : ∀ v : World, Below w1.heap.size w1 v → v.cell? ⟨w.heap.size, 4, none⟩ = some (r.vMaps) := fun v h => box_at (blk_keep hhX h) (by rw [hX]; rfl)
  have FX5 : ∀ v : World, Below w1.heap.size w1 v → v.cell? ⟨w.heap.size, 5, none⟩ = some (r.vAcls) := fun v h => box_at (blk_keep hhX h) (by rw [hX]; rfl)
  have FX6 : ∀ v : World, Below w1.heap.size w1 v → v.cell? ⟨w.heap.size, 6, none⟩ = some (r.vNat) := fun v h => box_at (blk_keep hhX h) (by rw [hX]; rfl)
  have FX7 : ∀ v : World, Below w1.heap.size w1 v → v.cell? ⟨w.heap.size, 7, none⟩ = some (r.vSts) := fun v h => box_at (blk_keep hhX h) (by rw [hX]; rfl)
  have FX10 : ∀ v : World, Below w1.heap.size w1 v → v.cell? ⟨w.heap.size, 10, none⟩ = some (r.vRngs) := fun v h => box_at (blk_keep hhX h) (by rw [hX]; rfl)
  have FX11 : ∀ v : World, Below w1.heap.size w1 v → v.cell? ⟨w.heap.size, 11, none⟩ = some (r.vLsr) := fun v h => box_at (blk_keep hhX h) (by rw [hX]; rfl)
  have FX16 : ∀ v : World, Below w1.heap.size w1 v → v.cell? ⟨w.heap.size, 16, none⟩ = some (r.vDvr) := fun v h => box_at (blk_keep hhX h) (by rw [hX]; rfl)
  have FX24 : ∀ v : World, Below w1.heap.size w1 v → v.cell? ⟨w.heap.size, 24, none⟩ = some (r.vPvr) := fun v h => box_at (blk_keep hhX h) (by rw [hX]; rfl)
  have FX20 : ∀ v : World, Below w1.heap.size w1 v → v.cell? ⟨w.heap.size, 20, none⟩ = some (r.vNbrs) := fun v h => box_at (blk_keep hhX h) (by rw [hX]; rfl)
  have FX21 : ∀ v : World, Below w1.heap.size w1 v → v.cell? ⟨w.heap.size, 21, none⟩ = some (r.vNets) := fun v h => box_at (blk_keep hhX h) (by rw [hX]; rfl)
  have FX22 : ∀ v : World, Below w1.heap.size w1 v → v.cell? ⟨w.heap.size, 22, none⟩ = some (r.vAggs) := fun v h => box_at (blk_keep hhX h) (by rw [hX]; rfl)
  have FX23 : ∀ v : World, Below w1.heap.size w1 v → v.cell? ⟨w.heap.size, 23, none⟩ = some (r.vCnds) := fun v h => box_at (blk_keep hhX h) (by rw [hX]; rfl)
  have GX : Below w1.heap.size w1 w1 := Below.refl _ _
  have HX := hid (show Below w.heap.size w w1 by rw [← hw1]; exact new_below _ _)
  have hX' := hid hX
  try rw [← hX]
  clear hX hhX
  have S0 := hid (@small0_no r)
  have S1 := hid (@small0_yes r)
  obtain ⟨a2, c2, hv2, hc2, hl2⟩ := rows_open (z := 12) (by decide) hr.ifs.row
  have fx2 := FX2 w1 GX
  rw [hv2] at fx2
  obtain ⟨n2, hn2⟩ : ∃ n, n = r.ifs.length := ⟨_, rfl⟩
  rw [← hn2] at fx2 hc2 hl2 S0 S1
  have N2 := hid hn2
  have lm2 := hr.ifs.len
  rw [← hn2] at lm2
  clear hl2
  clear hv2 hn2 FX2
  obtain ⟨a3, c3, hv3, hc3, hl3⟩ := rows_open (z := 2) (by decide) hr.lists.row
  have fx3 := FX3 w1 GX
  rw [hv3] at fx3
  obtain ⟨n3, hn3⟩ : ∃ n, n = r.lists.length := ⟨_, rfl⟩
  rw [← hn3] at fx3 hc3 hl3 S0 S1
  have N3 := hid hn3
  have lm3 := hr.lists.len
  rw [← hn3] at lm3
  clear hv3 hn3 FX3
  obtain ⟨a4, c4, hv4, hc4, hl4⟩ := rows_open (z := 2) (by decide) hr.maps.row
  have fx4 := FX4 w1 GX
  rw [hv4] at fx4
  obtain ⟨n4, hn4⟩ : ∃ n, n = r.maps.length := ⟨_, rfl⟩
  rw [← hn4] at fx4 hc4 hl4 S0 S1
  have N4 := hid hn4
  have lm4 := hr.maps.len
  rw [← hn4] at lm4
  clear hv4 hn4 FX4
  obtain ⟨a5, c5, hv5, hc5, hl5⟩ := rows_open (z := 2) (by decide) hr.acls.row
  have fx5 := FX5 w1 GX
  rw [hv5] at fx5
  obtain ⟨n5, hn5⟩ : ∃ n, n = r.acls.length := ⟨_, rfl⟩
  rw [← hn5] at fx5 hc5 hl5 S0 S1
  have N5 := hid hn5
  have lm5 := hr.acls.len
  rw [← hn5] at lm5
  clear hv5 hn5 FX5
  obtain ⟨a6, c6, hv6, hc6, hl6⟩ := rows_open (z := 9) (by decide) hr.nat.row
  have fx6 := FX6 w1 GX
  rw [hv6] at fx6
  obtain ⟨n6, hn6⟩ : ∃ n, n = r.nat.length := ⟨_, rfl⟩
  rw [← hn6] at fx6 hc6 hl6 S0 S1
  have N6 := hid hn6
  have lm6 := hr.nat.len
  rw [← hn6] at lm6
  clear hl6
  clear hv6 hn6 FX6
  obtain ⟨a7, c7, hv7, hc7, hl7⟩ := rows_open (z := 7) (by decide) hr.sts.row
  have fx7 := FX7 w1 GX
  rw [hv7] at fx7
  obtain ⟨n7, hn7⟩ : ∃ n, n = r.sts.length := ⟨_, rfl⟩
  rw [← hn7] at fx7 hc7 hl7 S0 S1
  have N7 := hid hn7
  have lm7 := hr.sts.len
  rw [← hn7] at lm7
  clear hl7
  clear hv7 hn7 FX7
  obtain ⟨a10, c10, hv10, hc10, hl10⟩ := rows_open (z := 3) (by decide) hr.rngs.row
  have fx10 := FX10 w1 GX
  rw [hv10] at fx10
  obtain ⟨n10, hn10⟩ : ∃ n, n = r.rngs.length := ⟨_, rfl⟩
  rw [← hn10] at fx10 hc10 hl10 S0 S1
  have N10 := hid hn10
  have lm10 := hr.rngs.len
  rw [← hn10] at lm10
  clear hl10
  clear hv10 hn10 FX10
  obtain ⟨a11, c11, hv11, hc11, hl11⟩ := rows_open (z := 5) (by decide) hr.lsr.row
  have fx11 := FX11 w1 GX
  rw [hv11] at fx11
  obtain ⟨n11, hn11⟩ : ∃ n, n = r.lsr.length := ⟨_, rfl⟩
  rw [← hn11] at fx11 hc11 hl11 S0 S1
  have N11 := hid hn11
  have lm11 := hr.lsr.len
  rw [← hn11] at lm11
  clear hl11
  clear hv11 hn11 FX11
  obtain ⟨a16, c16, hv16, hc16, hl16⟩ := rows_open (z := 5) (by decide) hr.dvr.row
  have fx16 := FX16 w1 GX
  rw [hv16] at fx16
  obtain ⟨n16, hn16⟩ : ∃ n, n = r.dvr.length := ⟨_, rfl⟩
  rw [← hn16] at fx16 hc16 hl16 S0 S1
  have N16 := hid hn16
  have lm16 := hr.dvr.len
  rw [← hn16] at lm16
  clear hl16
  clear hv16 hn16 FX16
  obtain ⟨a24, c24, hv24, hc24, hl24⟩ := rows_open (z := 5) (by decide) hr.pvr.row
  have fx24 := FX24 w1 GX
  rw [hv24] at fx24
  obtain ⟨n24, hn24⟩ : ∃ n, n = r.pvr.length := ⟨_, rfl⟩
  rw [← hn24] at fx24 hc24 hl24 S0 S1
  have N24 := hid hn24
  have lm24 := hr.pvr.len
  rw [← hn24] at lm24
  clear hl24
  clear hv24 hn24 FX24
  obtain ⟨a20, c20, hv20, hc20, hl20⟩ := rows_open (z := 4) (by decide) hr.nbrs.row
  have fx20 := FX20 w1 GX
  rw [hv20] at fx20
  obtain ⟨n20, hn20⟩ : ∃ n, n = r.nbrs.length := ⟨_, rfl⟩
  rw [← hn20] at fx20 hc20 hl20 S0 S1
  have N20 := hid hn20
  have lm20 := hr.nbrs.len
  rw [← hn20] at lm20
  clear hl20
  clear hv20 hn20 FX20
  obtain ⟨a21, c21, hv21, hc21, hl21⟩ := rows_open (z := 2) (by decide) hr.nets.row
  have fx21 := FX21 w1 GX
  rw [hv21] at fx21
  obtain ⟨n21, hn21⟩ : ∃ n, n = r.nets.length := ⟨_, rfl⟩
  rw [← hn21] at fx21 hc21 hl21 S0 S1
  have N21 := hid hn21
  have lm21 := hr.nets.len
  rw [← hn21] at lm21
  clear hl21
  clear hv21 hn21 FX21
  obtain ⟨a22, c22, hv22, hc22, hl22⟩ := rows_open (z := 3) (by decide) hr.aggs.row
  have fx22 := FX22 w1 GX
  rw [hv22] at fx22
  obtain ⟨n22, hn22⟩ : ∃ n, n = r.aggs.length := ⟨_, rfl⟩
  rw [← hn22] at fx22 hc22 hl22 S0 S1
  have N22 := hid hn22
  have lm22 := hr.aggs.len
  rw [← hn22] at lm22
  clear hl22
  clear hv22 hn22 FX22
  obtain ⟨a23, c23, hv23, hc23, hl23⟩ := rows_open (z := 5) (by decide) hr.cnds.row
  have fx23 := FX23 w1 GX
  rw [hv23] at fx23
  obtain ⟨n23, hn23⟩ : ∃ n, n = r.cnds.length := ⟨_, rfl⟩
  rw [← hn23] at fx23 hc23 hl23 S0 S1
  have N23 := hid hn23
  have lm23 := hr.cnds.len
  rw [← hn23] at lm23
  clear hl23
  clear hv23 hn23 FX23
  have hR := hid hr
  have q3 := hid hl3
  have q4 := hid hl4
  have q5 := hid hl5
  clear hr hl3 hl4 hl5
  obtain ⟨b2, e2⟩ : ∃ b, decide ((12 : Int) < (n2 : Int)) = b := ⟨_, rfl⟩
  have d2 := hid e2
  obtain ⟨b3, e3⟩ : ∃ b, decide ((12 : Int) < (n3 : Int)) = b := ⟨_, rfl⟩
  have d3 := hid e3
  obtain ⟨b4, e4⟩ : ∃ b, decide ((12 : Int) < (n4 : Int)) = b := ⟨_, rfl⟩
  have d4 := hid e4
  obtain ⟨b5, e5⟩ : ∃ b, decide ((12 : Int) < (n5 : Int)) = b := ⟨_, rfl⟩
  have d5 := hid e5
  obtain ⟨b6, e6⟩ : ∃ b, decide ((12 : Int) < (n6 : Int)) = b := ⟨_, rfl⟩
  have d6 := hid e6
  obtain ⟨b7, e7⟩ : ∃ b, decide ((20 : Int) < (n7 : Int)) = b := ⟨_, rfl⟩
  have d7 := hid e7
  obtain ⟨b10, e10⟩ : ∃ b, decide ((8 : Int) < (n10 : Int)) = b := ⟨_, rfl⟩
  have d10 := hid e10
  obtain ⟨b11, e11⟩ : ∃ b, decide ((8 : Int) < (n11 : Int)) = b := ⟨_, rfl⟩
  have d11 := hid e11
  obtain ⟨b16, e16⟩ : ∃ b, decide ((8 : Int) < (n16 : Int)) = b := ⟨_, rfl⟩
  have d16 := hid e16
  obtain ⟨b24, e24⟩ : ∃ b, decide ((8 : Int) < (n24 : Int)) = b := ⟨_, rfl⟩
  have d24 := hid e24
  obtain ⟨b20, e20⟩ : ∃ b, decide ((12 : Int) < (n20 : Int)) = b := ⟨_, rfl⟩
  have d20 := hid e20
  obtain ⟨b21, e21⟩ : ∃ b, decide ((12 : Int) < (n21 : Int)) = b := ⟨_, rfl⟩
  have d21 := hid e21
  obtain ⟨b22, e22⟩ : ∃ b, decide ((12 : Int) < (n22 : Int)) = b := ⟨_, rfl⟩
  have d22 := hid e22
  obtain ⟨b23, e23⟩ : ∃ b, decide ((12 : Int) < (n23 : Int)) = b := ⟨_, rfl⟩
  have d23 := hid e23
  go_enter Tryz.func7, Tryz.ntmps7
  simp only [List.append_eq, List.cons_append, List.nil_append]
  repeat' ((fail_if_success with_reducible show Hid _); (first | ((with_reducible show wpList _ _ _ (⟨_, _, _, _, _, some _⟩ :: _) _ _); first | go_skip | (refine want_at (by rfl) ?_; intro K hK) | refine stopAt ?_) | go_step | go_upon))
  refine hid ?_
  cases b2
  case true =>
    have h2 : 12 < n2 := by have := of_decide_eq_true d2.out; omega
    repeat' ((fail_if_success with_reducible show Hid _); (first | ((with_reducible show wpList _ _ _ (⟨_, _, _, _, _, some _⟩ :: _) _ _); first | go_skip | (refine want_at (by rfl) ?_; intro K hK) | refine stopAt ?_) | go_step | go_upon))
    (try simp only [Exit.inBlock, Exit.then]); refine bodyPost_ret (results_tmp (by rfl) _ _ _) (by rfl) ?_
    exact ⟨ret_bool (S0.out (by omega)).symm, HX.out⟩
  have h2 : ¬ 12 < n2 := by have := of_decide_eq_false d2.out; omega
  repeat' ((fail_if_success with_reducible show Hid _); (first | ((with_reducible show wpList _ _ _ (⟨_, _, _, _, _, some _⟩ :: _) _ _); first | go_skip | (refine want_at (by rfl) ?_; intro K hK) | refine stopAt ?_) | go_step | go_upon))
  refine hid ?_
  cases b3
  case true =>
    have h3 : 12 < n3 := by have := of_decide_eq_true d3.out; omega
    repeat' ((fail_if_success with_reducible show Hid _); (first | ((with_reducible show wpList _ _ _ (⟨_, _, _, _, _, some _⟩ :: _) _ _); first | go_skip | (refine want_at (by rfl) ?_; intro K hK) | refine stopAt ?_) | go_step | go_upon))
    (try simp only [Exit.inBlock, Exit.then]); refine bodyPost_ret (results_tmp (by rfl) _ _ _) (by rfl) ?_
    exact ⟨ret_bool (S0.out (by omega)).symm, HX.out⟩
  have h3 : ¬ 12 < n3 := by have := of_decide_eq_false d3.out; omega
  repeat' ((fail_if_success with_reducible show Hid _); (first | ((with_reducible show wpList _ _ _ (⟨_, _, _, _, _, some _⟩ :: _) _ _); first | go_skip | (refine want_at (by rfl) ?_; intro K hK) | refine stopAt ?_) | go_step | go_upon))
  refine hid ?_
  cases b4
  case true =>
    have h4 : 12 < n4 := by have := of_decide_eq_true d4.out; omega
    repeat' ((fail_if_success with_reducible show Hid _); (first | ((with_reducible show wpList _ _ _ (⟨_, _, _, _, _, some _⟩ :: _) _ _); first | go_skip | (refine want_at (by rfl) ?_; intro K hK) | refine stopAt ?_) | go_step | go_upon))
    (try simp only [Exit.inBlock, Exit.then]); refine bodyPost_ret (results_tmp (by rfl) _ _ _) (by rfl) ?_
    exact ⟨ret_bool (S0.out (by omega)).symm, HX.out⟩
  have h4 : ¬ 12 < n4 := by have := of_decide_eq_false d4.out; omega
  repeat' ((fail_if_success with_reducible show Hid _); (first | ((with_reducible show wpList _ _ _ (⟨_, _, _, _, _, some _⟩ :: _) _ _); first | go_skip | (refine want_at (by rfl) ?_; intro K hK) | refine stopAt ?_) | go_step | go_upon))
  refine hid ?_
  cases b5
  case true =>
    have h5 : 12 < n5 := by have := of_decide_eq_true d5.out; omega
    repeat' ((fail_if_success with_reducible show Hid _); (first | ((with_reducible show wpList _ _ _ (⟨_, _, _, _, _, some _⟩ :: _) _ _); first | go_skip | (refine want_at (by rfl) ?_; intro K hK) | refine stopAt ?_) | go_step | go_upon))
    (try simp only [Exit.inBlock, Exit.then]); refine bodyPost_ret (results_tmp (by rfl) _ _ _) (by rfl) ?_
    exact ⟨ret_bool (S0.out (by omega)).symm, HX.out⟩
  have h5 : ¬ 12 < n5 := by have := of_decide_eq_false d5.out; omega
  repeat' ((fail_if_success with_reducible show Hid _); (first | ((with_reducible show wpList _ _ _ (⟨_, _, _, _, _, some _⟩ :: _) _ _); first | go_skip | (refine want_at (by rfl) ?_; intro K hK) | refine stopAt ?_) | go_step | go_upon))
  refine hid ?_
  cases b6
  case true =>
    have h6 : 12 < n6 := by have := of_decide_eq_true d6.out; omega
    repeat' ((fail_if_success with_reducible show Hid _); (first | ((with_reducible show wpList _ _ _ (⟨_, _, _, _, _, some _⟩ :: _) _ _); first | go_skip | (refine want_at (by rfl) ?_; intro K hK) | refine stopAt ?_) | go_step | go_upon))
    (try simp only [Exit.inBlock, Exit.then]); refine bodyPost_ret (results_tmp (by rfl) _ _ _) (by rfl) ?_
    exact ⟨ret_bool (S0.out (by omega)).symm, HX.out⟩
  have h6 : ¬ 12 < n6 := by have := of_decide_eq_false d6.out; omega
  repeat' ((fail_if_success with_reducible show Hid _); (first | ((with_reducible show wpList _ _ _ (⟨_, _, _, _, _, some _⟩ :: _) _ _); first | go_skip | (refine want_at (by rfl) ?_; intro K hK) | refine stopAt ?_) | go_step | go_upon))
  refine hid ?_
  cases b7
  case true =>
    have h7 : 20 < n7 := by have := of_decide_eq_true d7.out; omega
    repeat' ((fail_if_success with_reducible show Hid _); (first | ((with_reducible show wpList _ _ _ (⟨_, _, _, _, _, some _⟩ :: _) _ _); first | go_skip | (refine want_at (by rfl) ?_; intro K hK) | refine stopAt ?_) | go_step | go_upon))
    (try simp only [Exit.inBlock, Exit.then]); refine bodyPost_ret (results_tmp (by rfl) _ _ _) (by rfl) ?_
    exact ⟨ret_bool (S0.out (by omega)).symm, HX.out⟩
  have h7 : ¬ 20 < n7 := by have := of_decide_eq_false d7.out; omega
  repeat' ((fail_if_success with_reducible show Hid _); (first | ((with_reducible show wpList _ _ _ (⟨_, _, _, _, _, some _⟩ :: _) _ _); first | go_skip | (refine want_at (by rfl) ?_; intro K hK) | refine stopAt ?_) | go_step | go_upon))
  refine hid ?_
  cases b10
  case true =>
    have h10 : 8 < n10 := by have := of_decide_eq_true d10.out; omega
    repeat' ((fail_if_success with_reducible show Hid _); (first | ((with_reducible show wpList _ _ _ (⟨_, _, _, _, _, some _⟩ :: _) _ _); first | go_skip | (refine want_at (by rfl) ?_; intro K hK) | refine stopAt ?_) | go_step | go_upon))
    (try simp only [Exit.inBlock, Exit.then]); refine bodyPost_ret (results_tmp (by rfl) _ _ _) (by rfl) ?_
    exact ⟨ret_bool (S0.out (by omega)).symm, HX.out⟩
  have h10 : ¬ 8 < n10 := by have := of_decide_eq_false d10.out; omega
  repeat' ((fail_if_success with_reducible show Hid _); (first | ((with_reducible show wpList _ _ _ (⟨_, _, _, _, _, some _⟩ :: _) _ _); first | go_skip | (refine want_at (by rfl) ?_; intro K hK) | refine stopAt ?_) | go_step | go_upon))
  refine hid ?_
  cases b11
  case true =>
    have h11 : 8 < n11 := by have := of_decide_eq_true d11.out; omega
    repeat' ((fail_if_success with_reducible show Hid _); (first | ((with_reducible show wpList _ _ _ (⟨_, _, _, _, _, some _⟩ :: _) _ _); first | go_skip | (refine want_at (by rfl) ?_; intro K hK) | refine stopAt ?_) | go_step | go_upon))
    (try simp only [Exit.inBlock, Exit.then]); refine bodyPost_ret (results_tmp (by rfl) _ _ _) (by rfl) ?_
    exact ⟨ret_bool (S0.out (by omega)).symm, HX.out⟩
  have h11 : ¬ 8 < n11 := by have := of_decide_eq_false d11.out; omega
  repeat' ((fail_if_success with_reducible show Hid _); (first | ((with_reducible show wpList _ _ _ (⟨_, _, _, _, _, some _⟩ :: _) _ _); first | go_skip | (refine want_at (by rfl) ?_; intro K hK) | refine stopAt ?_) | go_step | go_upon))
  refine hid ?_
  cases b16
  case true =>
    have h16 : 8 < n16 := by have := of_decide_eq_true d16.out; omega
    repeat' ((fail_if_success with_reducible show Hid _); (first | ((with_reducible show wpList _ _ _ (⟨_, _, _, _, _, some _⟩ :: _) _ _); first | go_skip | (refine want_at (by rfl) ?_; intro K hK) | refine stopAt ?_) | go_step | go_upon))
    (try simp only [Exit.inBlock, Exit.then]); refine bodyPost_ret (results_tmp (by rfl) _ _ _) (by rfl) ?_
    exact ⟨ret_bool (S0.out (by omega)).symm, HX.out⟩
  have h16 : ¬ 8 < n16 := by have := of_decide_eq_false d16.out; omega
  repeat' ((fail_if_success with_reducible show Hid _); (first | ((with_reducible show wpList _ _ _ (⟨_, _, _, _, _, some _⟩ :: _) _ _); first | go_skip | (refine want_at (by rfl) ?_; intro K hK) | refine stopAt ?_) | go_step | go_upon))
  refine hid ?_
  cases b24
  case true =>
    have h24 : 8 < n24 := by have := of_decide_eq_true d24.out; omega
    repeat' ((fail_if_success with_reducible show Hid _); (first | ((with_reducible show wpList _ _ _ (⟨_, _, _, _, _, some _⟩ :: _) _ _); first | go_skip | (refine want_at (by rfl) ?_; intro K hK) | refine stopAt ?_) | go_step | go_upon))
    (try simp only [Exit.inBlock, Exit.then]); refine bodyPost_ret (results_tmp (by rfl) _ _ _) (by rfl) ?_
    exact ⟨ret_bool (S0.out (by omega)).symm, HX.out⟩
  have h24 : ¬ 8 < n24 := by have := of_decide_eq_false d24.out; omega
  repeat' ((fail_if_success with_reducible show Hid _); (first | ((with_reducible show wpList _ _ _ (⟨_, _, _, _, _, some _⟩ :: _) _ _); first | go_skip | (refine want_at (by rfl) ?_; intro K hK) | refine stopAt ?_) | go_step | go_upon))
  refine hid ?_
  cases b20
  case true =>
    have h20 : 12 < n20 := by have := of_decide_eq_true d20.out; omega
    repeat' ((fail_if_success with_reducible show Hid _); (first | ((with_reducible show wpList _ _ _ (⟨_, _, _, _, _, some _⟩ :: _) _ _); first | go_skip | (refine want_at (by rfl) ?_; intro K hK) | refine stopAt ?_) | go_step | go_upon))
    (try simp only [Exit.inBlock, Exit.then]); refine bodyPost_ret (results_tmp (by rfl) _ _ _) (by rfl) ?_
    exact ⟨ret_bool (S0.out (by omega)).symm, HX.out⟩
  have h20 : ¬ 12 < n20 := by have := of_decide_eq_false d20.out; omega
  repeat' ((fail_if_success with_reducible show Hid _); (first | ((with_reducible show wpList _ _ _ (⟨_, _, _, _, _, some _⟩ :: _) _ _); first | go_skip | (refine want_at (by rfl) ?_; intro K hK) | refine stopAt ?_) | go_step | go_upon))
  refine hid ?_
  cases b21
  case true =>
    have h21 : 12 < n21 := by have := of_decide_eq_true d21.out; omega
    repeat' ((fail_if_success with_reducible show Hid _); (first | ((with_reducible show wpList _ _ _ (⟨_, _, _, _, _, some _⟩ :: _) _ _); first | go_skip | (refine want_at (by rfl) ?_; intro K hK) | refine stopAt ?_) | go_step | go_upon))
    (try simp only [Exit.inBlock, Exit.then]); refine bodyPost_ret (results_tmp (by rfl) _ _ _) (by rfl) ?_
    exact ⟨ret_bool (S0.out (by omega)).symm, HX.out⟩
  have h21 : ¬ 12 < n21 := by have := of_decide_eq_false d21.out; omega
  repeat' ((fail_if_success with_reducible show Hid _); (first | ((with_reducible show wpList _ _ _ (⟨_, _, _, _, _, some _⟩ :: _) _ _); first | go_skip | (refine want_at (by rfl) ?_; intro K hK) | refine stopAt ?_) | go_step | go_upon))
  refine hid ?_
  cases b22
  case true =>
    have h22 : 12 < n22 := by have := of_decide_eq_true d22.out; omega
    repeat' ((fail_if_success with_reducible show Hid _); (first | ((with_reducible show wpList _ _ _ (⟨_, _, _, _, _, some _⟩ :: _) _ _); first | go_skip | (refine want_at (by rfl) ?_; intro K hK) | refine stopAt ?_) | go_step | go_upon))
    (try simp only [Exit.inBlock, Exit.then]); refine bodyPost_ret (results_tmp (by rfl) _ _ _) (by rfl) ?_
    exact ⟨ret_bool (S0.out (by omega)).symm, HX.out⟩
  have h22 : ¬ 12 < n22 := by have := of_decide_eq_false d22.out; omega
  cases b23
  case true =>
    have h23 : 12 < n23 := by have := of_decide_eq_true d23.out; omega
    repeat' ((fail_if_success with_reducible show Hid _); (first | ((with_reducible show wpList _ _ _ (⟨_, _, _, _, _, some _⟩ :: _) _ _); first | go_skip | (refine want_at (by rfl) ?_; intro K hK) | refine stopAt ?_) | go_step | go_upon))
    (try simp only [Exit.inBlock, Exit.then]); refine bodyPost_ret (results_tmp (by rfl) _ _ _) (by rfl) ?_
    exact ⟨ret_bool (S0.out (by omega)).symm, HX.out⟩
  have h23 : ¬ 12 < n23 := by have := of_decide_eq_false d23.out; omega
  repeat' ((fail_if_success with_reducible show Hid _); (first | ((with_reducible show wpList _ _ _ (⟨_, _, _, _, _, some _⟩ :: _) _ _); first | go_skip | (refine want_at (by rfl) ?_; intro K hK) | refine stopAt ?_) | go_step | go_upon))
  have S2 := hid (S1.out (by omega))
  clear S0 S1 h2 d2 e2 h3 d3 e3 h4 d4 e4 h5 d5 e5 h6 d6 e6 h7 d7 e7 h10 d10 e10 h11 d11 e11 h16 d16 e16 h24 d24 e24 h20 d20 e20 h21 d21 e21 h22 d22 e22 h23 d23 e23
  go_loopg [3] n3 (fun gg s3 wr => ∃ k : Nat, k ≤ n3 ∧ n3 - k ≤ gg ∧ s3 = .int .i64 k ∧ w1 = wr ∧ Aside (smlL r = (r.lists.drop k).all (fun x : PList => decide (x.rules.length ≤ 20))))
  case atStart => exact ⟨0, Nat.zero_le _, by omega, rfl, rfl, rfl⟩
  case round =>
    obtain ⟨k, hk, hg, rfl, rfl, E⟩ := hrel
    by_cases hlt : k < n3
    · have hlti : (k : Int) < (n3 : Int) := by omega
      obtain ⟨x, hx⟩ := get_some (l := r.lists) (k := k) (by have := N3.out; omega)
      obtain ⟨b, off, rfl, hb, hcell⟩ := q3.out (by omega)
      have c2 : w1.cell? ⟨b, off + k * 2 + 1, none⟩ = some x.v := ((HX.out).cell (p := ⟨b, off + k * 2 + 1, none⟩) hb).trans (row_cells (f := ePList) (z := 2) (fun _ => rfl) hcell hx 1 _ rfl)
      obtain ⟨ax, cx, hvx, hcx, -⟩ := rows_open (z := 5) (by decide) (hR.out.listsR x (get_mem hx)).row
      rw [hvx] at c2
      have D := drop_get hx
      have lx := (hR.out.listsR x (get_mem hx)).len
      obtain ⟨nx, hnx⟩ : ∃ n, n = x.rules.length := ⟨_, rfl⟩
      rw [← hnx] at c2 hcx lx
      by_cases hq : 20 < nx
      · have hqi : (20 : Int) < (nx : Int) := by omega
        have Q : Aside (smlL r = false) := by show _ = _; rw [E.out, D, List.all_cons, ← hnx, decide_eq_false (by omega), Bool.false_and]
        clear D hnx hx hvx hcell hb
        repeat' (first | go_skip | go_guarded | go_step | go_upon)
        go_ret
        exact ⟨ret_bool (by rw [S2.out, Q.out]; simp), HX.out⟩
      · have hqi : ¬ (20 : Int) < (nx : Int) := by omega
        have Q : Aside (smlL r = (r.lists.drop (k + 1)).all (fun x : PList => decide (x.rules.length ≤ 20))) := by show _ = _; rw [E.out, D, List.all_cons, ← hnx, decide_eq_true (by omega), Bool.true_and]
        clear D hnx hx hvx hcell hb
        repeat' (first | go_skip | go_guarded | go_step | go_upon)
        go_roundg (n3 - (k + 1))
        case measure => omega
        case rel => exact ⟨k + 1, by omega, by omega, by go_num, rfl, Q.out⟩
    · have hlti : ¬ (k : Int) < (n3 : Int) := by omega
      have T0 : Aside (smlL r = true) := by show _ = _; rw [E.out, drop_end (by have := N3.out; omega)]; rfl
      clear E
      repeat' (first | go_skip | go_guarded | go_step | go_upon)
      go_loopg [4] n4 (fun gg s4 wr => ∃ k : Nat, k ≤ n4 ∧ n4 - k ≤ gg ∧ s4 = .int .i64 k ∧ w1 = wr ∧ Aside (smlM r = (r.maps.drop k).all (fun x : RMap => decide (x.clauses.length ≤ 12))))
      case atStart => exact ⟨0, Nat.zero_le _, by omega, rfl, rfl, rfl⟩
      case round =>
        obtain ⟨k, hk, hg, rfl, rfl, E⟩ := hrel
        by_cases hlt : k < n4
        · have hlti : (k : Int) < (n4 : Int) := by omega
          obtain ⟨x, hx⟩ := get_some (l := r.maps) (k := k) (by have := N4.out; omega)
          obtain ⟨b, off, rfl, hb, hcell⟩ := q4.out (by omega)
          have c2 : w1.cell? ⟨b, off + k * 2 + 1, none⟩ = some x.v := ((HX.out).cell (p := ⟨b, off + k * 2 + 1, none⟩) hb).trans (row_cells (f := eRMap) (z := 2) (fun _ => rfl) hcell hx 1 _ rfl)
          obtain ⟨ax, cx, hvx, hcx, -⟩ := rows_open (z := 7) (by decide) (hR.out.mapsR x (get_mem hx)).row
          rw [hvx] at c2
          have D := drop_get hx
          have lx := (hR.out.mapsR x (get_mem hx)).len
          obtain ⟨nx, hnx⟩ : ∃ n, n = x.clauses.length := ⟨_, rfl⟩
          rw [← hnx] at c2 hcx lx
          by_cases hq : 12 < nx
          · have hqi : (12 : Int) < (nx : Int) := by omega
            have Q : Aside (smlM r = false) := by show _ = _; rw [E.out, D, List.all_cons, ← hnx, decide_eq_false (by omega), Bool.false_and]
            clear D hnx hx hvx hcell hb
            repeat' (first | go_skip | go_guarded | go_step | go_upon)
            go_ret
            exact ⟨ret_bool (by rw [S2.out, T0.out, Q.out]; simp), HX.out⟩
          · have hqi : ¬ (12 : Int) < (nx : Int) := by omega
            have Q : Aside (smlM r = (r.maps.drop (k + 1)).all (fun x : RMap => decide (x.clauses.length ≤ 12))) := by show _ = _; rw [E.out, D, List.all_cons, ← hnx, decide_eq_true (by omega), Bool.true_and]
            clear D hnx hx hvx hcell hb
            repeat' (first | go_skip | go_guarded | go_step | go_upon)
            go_roundg (n4 - (k + 1))
            case measure => omega
            case rel => exact ⟨k + 1, by omega, by omega, by go_num, rfl, Q.out⟩
        · have hlti : ¬ (k : Int) < (n4 : Int) := by omega
          have T1 : Aside (smlM r = true) := by show _ = _; rw [E.out, drop_end (by have := N4.out; omega)]; rfl
          clear E
          repeat' (first | go_skip | go_guarded | go_step | go_upon)
          go_loopg [5] n5 (fun gg s5 wr => ∃ k : Nat, k ≤ n5 ∧ n5 - k ≤ gg ∧ s5 = .int .i64 k ∧ w1 = wr ∧ Aside (smlA r = (r.acls.drop k).all (fun x : Acl => decide (x.rules.length ≤ 20))))
          case atStart => exact ⟨0, Nat.zero_le _, by omega, rfl, rfl, rfl⟩
          case round =>
            obtain ⟨k, hk, hg, rfl, rfl, E⟩ := hrel
            by_cases hlt : k < n5
            · have hlti : (k : Int) < (n5 : Int) := by omega
              obtain ⟨x, hx⟩ := get_some (l := r.acls) (k := k) (by have := N5.out; omega)
              obtain ⟨b, off, rfl, hb, hcell⟩ := q5.out (by omega)
              have c2 : w1.cell? ⟨b, off + k * 2 + 1, none⟩ = some x.v := ((HX.out).cell (p := ⟨b, off + k * 2 + 1, none⟩) hb).trans (row_cells (f := eAcl) (z := 2) (fun _ => rfl) hcell hx 1 _ rfl)
              obtain ⟨ax, cx, hvx, hcx, -⟩ := rows_open (z := 10) (by decide) (hR.out.aclsR x (get_mem hx)).row
              rw [hvx] at c2
              have D := drop_get hx
              have lx := (hR.out.aclsR x (get_mem hx)).len
              obtain ⟨nx, hnx⟩ : ∃ n, n = x.rules.length := ⟨_, rfl⟩
              rw [← hnx] at c2 hcx lx
              by_cases hq : 20 < nx
              · have hqi : (20 : Int) < (nx : Int) := by omega
                have Q : Aside (smlA r = false) := by show _ = _; rw [E.out, D, List.all_cons, ← hnx, decide_eq_false (by omega), Bool.false_and]
                clear D hnx hx hvx hcell hb
                repeat' (first | go_skip | go_guarded | go_step | go_upon)
                go_ret
                exact ⟨ret_bool (by rw [S2.out, T0.out, T1.out, Q.out]; simp), HX.out⟩
              · have hqi : ¬ (20 : Int) < (nx : Int) := by omega
                have Q : Aside (smlA r = (r.acls.drop (k + 1)).all (fun x : Acl => decide (x.rules.length ≤ 20))) := by show _ = _; rw [E.out, D, List.all_cons, ← hnx, decide_eq_true (by omega), Bool.true_and]
                clear D hnx hx hvx hcell hb
                repeat' (first | go_skip | go_guarded | go_step | go_upon)
                go_roundg (n5 - (k + 1))
                case measure => omega
                case rel => exact ⟨k + 1, by omega, by omega, by go_num, rfl, Q.out⟩
            · have hlti : ¬ (k : Int) < (n5 : Int) := by omega
              have T2 : Aside (smlA r = true) := by show _ = _; rw [E.out, drop_end (by have := N5.out; omega)]; rfl
              clear E
              repeat' (first | go_skip | go_guarded | go_step | go_upon)
              go_ret
              exact ⟨ret_bool (by rw [S2.out, T0.out, T1.out, T2.out]; rfl), HX.out⟩
end Go.Proofs.YtlhbfpapmolohaaGreat.Mw
