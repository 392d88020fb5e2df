/-
  THE CONTRACTS OF slices.ContainsFunc AT EACH TYPE.
-/
import Derived.Test.YtlhbfpapmolohaaGreatModI
import Derived.Test.YtlhbfpapmolohaaGreatProg
import Derived.Test.YtlhbfpapmolohaaGreatModP
import Derived.Test.YtlhbfpapmolohaaGreatModM
import Derived.Deep.LoopGhost
import Derived.Deep.WholeRow
import Derived.WalkKit
import Derived.WalkSpells
import Derived.IntWalk
namespace Go.Proofs.YtlhbfpapmolohaaGreat.Mw
set_option linter.unusedSimpArgs false
set_option linter.unusedVariables false
open Go.RowKit Kt Mm Mp



set_option maxHeartbeats 1000000 in
/-- slices.ContainsFunc. -/
theorem cfIfc (v : Value) (l : List Ifc) (p : Ifc → Bool) (g : Nat) (lb : Array Value) (eg : ∀ args w, (callFunc g args).run Tryz.prog w = .ok (.enter g args) w) (w : World) (hrow : IsRow eIfc 12 w v l) (hl : l.length ≤ 9223372036854775807) (hp : Pred Tryz.prog g lb eIfc p l w) :
    Calls Tryz.prog 120 #[v, .func (.func g) #[] lb] w fun e w' => e = .returned (.bool (l.any p)) ∧ Below w.heap.size w w' := by
  rw [← ixB_pos]
  have hcall := ixIfc v l p g lb eg w hrow hl hp
  obtain ⟨i, hi⟩ : ∃ i, i = ixB p l := ⟨_, rfl⟩
  rw [← hi] at hcall ⊢
  clear hrow hp hi
  go_enter Tryz.func120, Tryz.ntmps120
  go_wp2_with (go_at_call 115; refine hcall.mono ?_; rintro e w' ⟨rfl, hb'⟩)
  go_ret
  exact ⟨rfl, hb'⟩


set_option maxHeartbeats 1000000 in
/-- slices.ContainsFunc. -/
theorem cfRtr (v : Value) (l : List Rtr) (p : Rtr → Bool) (g : Nat) (lb : Array Value) (eg : ∀ args w, (callFunc g args).run Tryz.prog w = .ok (.enter g args) w) (w : World) (hrow : IsRow eRtr 25 w v l) (hl : l.length ≤ 9223372036854775807) (hp : Pred Tryz.prog g lb eRtr p l w) :
    Calls Tryz.prog 122 #[v, .func (.func g) #[] lb] w fun e w' => e = .returned (.bool (l.any p)) ∧ Below w.heap.size w w' := by
  rw [← ixB_pos]
  have hcall := ixRtr v l p g lb eg w hrow hl hp
  obtain ⟨i, hi⟩ : ∃ i, i = ixB p l := ⟨_, rfl⟩
  rw [← hi] at hcall ⊢
  clear hrow hp hi
  go_enter Tryz.func122, Tryz.ntmps122
  go_wp2_with (go_at_call 118; refine hcall.mono ?_; rintro e w' ⟨rfl, hb'⟩)
  go_ret
  exact ⟨rfl, hb'⟩


set_option maxHeartbeats 1000000 in
/-- slices.ContainsFunc. -/
theorem cfStc (v : Value) (l : List Stc) (p : Stc → Bool) (g : Nat) (lb : Array Value) (eg : ∀ args w, (callFunc g args).run Tryz.prog w = .ok (.enter g args) w) (w : World) (hrow : IsRow eStc 7 w v l) (hl : l.length ≤ 9223372036854775807) (hp : Pred Tryz.prog g lb eStc p l w) :
    Calls Tryz.prog 152 #[v, .func (.func g) #[] lb] w fun e w' => e = .returned (.bool (l.any p)) ∧ Below w.heap.size w w' := by
  rw [← ixB_pos]
  have hcall := ixStc v l p g lb eg w hrow hl hp
  obtain ⟨i, hi⟩ : ∃ i, i = ixB p l := ⟨_, rfl⟩
  rw [← hi] at hcall ⊢
  clear hrow hp hi
  go_enter Tryz.func152, Tryz.ntmps152
  go_wp2_with (go_at_call 186; refine hcall.mono ?_; rintro e w' ⟨rfl, hb'⟩)
  go_ret
  exact ⟨rfl, hb'⟩


set_option maxHeartbeats 1000000 in
/-- slices.ContainsFunc. -/
theorem cfRed (v : Value) (l : List Red) (p : Red → Bool) (g : Nat) (lb : Array Value) (eg : ∀ args w, (callFunc g args).run Tryz.prog w = .ok (.enter g args) w) (w : World) (hrow : IsRow eRed 5 w v l) (hl : l.length ≤ 9223372036854775807) (hp : Pred Tryz.prog g lb eRed p l w) :
    Calls Tryz.prog 162 #[v, .func (.func g) #[] lb] w fun e w' => e = .returned (.bool (l.any p)) ∧ Below w.heap.size w w' := by
  rw [← ixB_pos]
  have hcall := ixRed v l p g lb eg w hrow hl hp
  obtain ⟨i, hi⟩ : ∃ i, i = ixB p l := ⟨_, rfl⟩
  rw [← hi] at hcall ⊢
  clear hrow hp hi
  go_enter Tryz.func162, Tryz.ntmps162
  go_wp2_with (go_at_call 188; refine hcall.mono ?_; rintro e w' ⟨rfl, hb'⟩)
  go_ret
  exact ⟨rfl, hb'⟩


set_option maxHeartbeats 1000000 in
/-- slices.ContainsFunc. -/
theorem cfRng (v : Value) (l : List Rng) (p : Rng → Bool) (g : Nat) (lb : Array Value) (eg : ∀ args w, (callFunc g args).run Tryz.prog w = .ok (.enter g args) w) (w : World) (hrow : IsRow eRng 3 w v l) (hl : l.length ≤ 9223372036854775807) (hp : Pred Tryz.prog g lb eRng p l w) :
    Calls Tryz.prog 157 #[v, .func (.func g) #[] lb] w fun e w' => e = .returned (.bool (l.any p)) ∧ Below w.heap.size w w' := by
  rw [← ixB_pos]
  have hcall := ixRng v l p g lb eg w hrow hl hp
  obtain ⟨i, hi⟩ : ∃ i, i = ixB p l := ⟨_, rfl⟩
  rw [← hi] at hcall ⊢
  clear hrow hp hi
  go_enter Tryz.func157, Tryz.ntmps157
  go_wp2_with (go_at_call 187; refine hcall.mono ?_; rintro e w' ⟨rfl, hb'⟩)
  go_ret
  exact ⟨rfl, hb'⟩


set_option maxHeartbeats 1000000 in
/-- slices.ContainsFunc. -/
theorem cfNbr (v : Value) (l : List Nbr) (p : Nbr → Bool) (g : Nat) (lb : Array Value) (eg : ∀ args w, (callFunc g args).run Tryz.prog w = .ok (.enter g args) w) (w : World) (hrow : IsRow eNbr 4 w v l) (hl : l.length ≤ 9223372036854775807) (hp : Pred Tryz.prog g lb eNbr p l w) :
    Calls Tryz.prog 166 #[v, .func (.func g) #[] lb] w fun e w' => e = .returned (.bool (l.any p)) ∧ Below w.heap.size w w' := by
  rw [← ixB_pos]
  have hcall := ixNbr v l p g lb eg w hrow hl hp
  obtain ⟨i, hi⟩ : ∃ i, i = ixB p l := ⟨_, rfl⟩
  rw [← hi] at hcall ⊢
  clear hrow hp hi
  go_enter Tryz.func166, Tryz.ntmps166
  go_wp2_with (go_at_call 189; refine hcall.mono ?_; rintro e w' ⟨rfl, hb'⟩)
  go_ret
  exact ⟨rfl, hb'⟩


set_option maxHeartbeats 1000000 in
/-- slices.ContainsFunc. -/
theorem cfAggr (v : Value) (l : List Aggr) (p : Aggr → Bool) (g : Nat) (lb : Array Value) (eg : ∀ args w, (callFunc g args).run Tryz.prog w = .ok (.enter g args) w) (w : World) (hrow : IsRow eAggr 3 w v l) (hl : l.length ≤ 9223372036854775807) (hp : Pred Tryz.prog g lb eAggr p l w) :
    Calls Tryz.prog 173 #[v, .func (.func g) #[] lb] w fun e w' => e = .returned (.bool (l.any p)) ∧ Below w.heap.size w w' := by
  rw [← ixB_pos]
  have hcall := ixAggr v l p g lb eg w hrow hl hp
  obtain ⟨i, hi⟩ : ∃ i, i = ixB p l := ⟨_, rfl⟩
  rw [← hi] at hcall ⊢
  clear hrow hp hi
  go_enter Tryz.func173, Tryz.ntmps173
  go_wp2_with (go_at_call 191; refine hcall.mono ?_; rintro e w' ⟨rfl, hb'⟩)
  go_ret
  exact ⟨rfl, hb'⟩


set_option maxHeartbeats 1000000 in
/-- slices.ContainsFunc. -/
theorem cfCnd (v : Value) (l : List Cnd) (p : Cnd → Bool) (g : Nat) (lb : Array Value) (eg : ∀ args w, (callFunc g args).run Tryz.prog w = .ok (.enter g args) w) (w : World) (hrow : IsRow eCnd 5 w v l) (hl : l.length ≤ 9223372036854775807) (hp : Pred Tryz.prog g lb eCnd p l w) :
    Calls Tryz.prog 177 #[v, .func (.func g) #[] lb] w fun e w' => e = .returned (.bool (l.any p)) ∧ Below w.heap.size w w' := by
  rw [← ixB_pos]
  have hcall := ixCnd v l p g lb eg w hrow hl hp
  obtain ⟨i, hi⟩ : ∃ i, i = ixB p l := ⟨_, rfl⟩
  rw [← hi] at hcall ⊢
  clear hrow hp hi
  go_enter Tryz.func177, Tryz.ntmps177
  go_wp2_with (go_at_call 192; refine hcall.mono ?_; rintro e w' ⟨rfl, hb'⟩)
  go_ret
  exact ⟨rfl, hb'⟩

end Go.Proofs.YtlhbfpapmolohaaGreat.Mw
