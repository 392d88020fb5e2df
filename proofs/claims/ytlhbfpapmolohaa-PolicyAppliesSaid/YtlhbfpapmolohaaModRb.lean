/-
  THE CONTRACT OF netverifyref8.ValidRule.
-/
import Derived.Test.YtlhbfpapmolohaaModRa
namespace Go.Proofs.Ytlhbfpapmolohaa.Mw
set_option linter.unusedSimpArgs false
set_option linter.unusedVariables false
open Go.RowKit Kt Mm Mp

def allB (x : Ports) : Bool := decide (x.lo = 0) && decide (x.hi = 65535)
theorem rule_eq (x : Rule) : ruleOk x = (wi x.proto (-1) 255 && wildOk x.src && wildOk x.dst && rpOk x.sp && rpOk x.dp && (decide (x.proto = 6) || decide (x.proto = 17) || allB x.sp && allB x.dp)) := by
  have hT : ∀ y : Ports, portOk x.proto = true → portsOk y x.proto = rpOk y := fun y h => by unfold portsOk wi rpOk; rw [if_pos h, Bool.eq_iff_iff]; simp
  have hF : ∀ y : Ports, portOk x.proto = false → portsOk y x.proto = allB y := fun y h => by unfold portsOk; rw [if_neg (by rw [h]; simp)]; rfl
  have hA : ∀ y : Ports, allB y = true → rpOk y = true := fun y h => by unfold allB at h; unfold rpOk; simp at h ⊢; omega
  have hP : (decide (x.proto = 6) || decide (x.proto = 17)) = portOk x.proto := rfl
  rw [hP]
  unfold ruleOk
  cases h : portOk x.proto with
  | true => rw [hT _ h, hT _ h]; simp
  | false =>
    rw [hF _ h, hF _ h]
    cases h1 : allB x.sp <;> cases h2 : allB x.dp <;> simp_all

set_option maxHeartbeats 2000000 in
set_option maxRecDepth 100000 in
theorem rRule (x : Rule) (w : World) (h1 : x.src.addr < 4294967296) (h2 : x.src.mask < 4294967296) (h3 : x.dst.addr < 4294967296) (h4 : x.dst.mask < 4294967296) :
    Calls Try.prog 64 #[.agg (eRule x).toArray] w fun e w' => e = .returned (.bool (ruleOk x)) ∧ Below w.heap.size w w' := by
  obtain ⟨X, hX⟩ : ∃ X, X = (eRule x).toArray := ⟨_, rfl⟩
  obtain ⟨w1, hw1⟩ : ∃ w1, w.alloc (.cells X 116) = w1 := ⟨_, rfl⟩
  have hhX : w1.heap[w.heap.size]? = some (.cells X 116 (0, 0)) := by rw [← hw1, heap_new]
  have FX1 : ∀ v : World, Below w1.heap.size w1 v → v.cell? ⟨w.heap.size, 1, none⟩ = some (.int .i64 x.proto) := fun v h => box_at (blk_keep hhX h) (by rw [hX]; rfl)
  have FX2 : ∀ v : World, Below w1.heap.size w1 v → v.cell? ⟨w.heap.size, 2, none⟩ = some (.int .u32 (x.src.addr : Int)) := fun v h => box_at (blk_keep hhX h) (by rw [hX]; rfl)
  have FX3 : ∀ v : World, Below w1.heap.size w1 v → v.cell? ⟨w.heap.size, 3, none⟩ = some (.int .u32 (x.src.mask : Int)) := fun v h => box_at (blk_keep hhX h) (by rw [hX]; rfl)
  have FX4 : ∀ v : World, Below w1.heap.size w1 v → v.cell? ⟨w.heap.size, 4, none⟩ = some (.int .u32 (x.dst.addr : Int)) := fun v h => box_at (blk_keep hhX h) (by rw [hX]; rfl)
  have FX5 : ∀ v : World, Below w1.heap.size w1 v → v.cell? ⟨w.heap.size, 5, none⟩ = some (.int .u32 (x.dst.mask : Int)) := fun v h => box_at (blk_keep hhX h) (by rw [hX]; rfl)
  have FX6 : ∀ v : World, Below w1.heap.size w1 v → v.cell? ⟨w.heap.size, 6, none⟩ = some (.int .i64 x.sp.lo) := fun v h => box_at (blk_keep hhX h) (by rw [hX]; rfl)
  have FX7 : ∀ v : World, Below w1.heap.size w1 v → v.cell? ⟨w.heap.size, 7, none⟩ = some (.int .i64 x.sp.hi) := fun v h => box_at (blk_keep hhX h) (by rw [hX]; rfl)
  have FX8 : ∀ v : World, Below w1.heap.size w1 v → v.cell? ⟨w.heap.size, 8, none⟩ = some (.int .i64 x.dp.lo) := fun v h => box_at (blk_keep hhX h) (by rw [hX]; rfl)
  have FX9 : ∀ v : World, Below w1.heap.size w1 v → v.cell? ⟨w.heap.size, 9, none⟩ = some (.int .i64 x.dp.hi) := fun v h => box_at (blk_keep hhX h) (by rw [hX]; rfl)
  have GX : Below w1.heap.size w1 w1 := Below.refl _ _
  have HX := hid (show Below w.heap.size w w1 by rw [← hw1]; exact new_below _ _)
  have hX' := hid hX
  try rw [← hX]
  clear hX hhX
  have hW := fun wx => rWithin x.proto (-1) 255 wx
  have hE := fun wx => rPorts x.sp wx
  have hF := fun wx => rPorts x.dp wx
  have hG := fun wx => rAll x.sp wx
  have hH := fun wx => rAll x.dp wx
  have R1 := and_nat x.src.addr x.src.mask h1 h2
  have R2 := and_nat x.dst.addr x.dst.mask h3 h4
  have E := hid (rule_eq x)
  have g1 : wildOk x.src = decide (((x.src.addr &&& x.src.mask : Nat) : Int) = 0) := by unfold wildOk; rw [Bool.eq_iff_iff]; simp; try omega
  have g2 : wildOk x.dst = decide (((x.dst.addr &&& x.dst.mask : Nat) : Int) = 0) := by unfold wildOk; rw [Bool.eq_iff_iff]; simp; try omega
  rw [g1, g2] at E
  clear g1 g2 h1 h2 h3 h4
  obtain ⟨m1, hm1⟩ : ∃ m, m = ((x.src.addr &&& x.src.mask : Nat) : Int) := ⟨_, rfl⟩
  obtain ⟨m2, hm2⟩ : ∃ m, m = ((x.dst.addr &&& x.dst.mask : Nat) : Int) := ⟨_, rfl⟩
  rw [← hm1] at R1 E
  rw [← hm2] at R2 E
  clear hm1 hm2
  obtain ⟨o1, ho1⟩ : ∃ o, o = wi x.proto (-1) 255 := ⟨_, rfl⟩
  obtain ⟨o2, ho2⟩ : ∃ o, o = rpOk x.sp := ⟨_, rfl⟩
  obtain ⟨o3, ho3⟩ : ∃ o, o = rpOk x.dp := ⟨_, rfl⟩
  rw [← ho1] at hW E
  rw [← ho2] at hE E
  rw [← ho3] at hF E
  clear ho1 ho2 ho3
  unfold allB at E
  go_enter Try.func64, Try.ntmps64
  repeat' (first | (go_at_call 45; with_reducible refine (hW _).mono ?_; rintro e w' ⟨rfl, rfl⟩; try dsimp only) | (go_at_call 74; with_reducible refine (hE _).mono ?_; rintro e w' ⟨rfl, b⟩; have b' := then_ (w := w1) (by assumption) b; clear b; try dsimp only) | (go_at_call 74; with_reducible refine (hF _).mono ?_; rintro e w' ⟨rfl, b⟩; have b' := then_ (w := w1) (by assumption) b; clear b; try dsimp only) | (go_at_call 75; with_reducible refine (hG _).mono ?_; rintro e w' ⟨rfl, b⟩; have b' := then_ (w := w1) (by assumption) b; clear b; try dsimp only) | (go_at_call 75; with_reducible refine (hH _).mono ?_; rintro e w' ⟨rfl, b⟩; have b' := then_ (w := w1) (by assumption) b; clear b; try dsimp only) | go_skip | go_guarded | go_step | go_upon)
  all_goals go_ret
  all_goals exact ⟨ret_bool (by rw [E.out]; first | (simp_all; done) | (rw [Bool.eq_iff_iff]; simp_all; done) | (rw [Bool.eq_iff_iff]; simp_all; omega)), then_ HX.out (by assumption)⟩
end Go.Proofs.Ytlhbfpapmolohaa.Mw
