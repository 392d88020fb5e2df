/-
  THE CONTRACTS OF slices.ContainsFunc AT EACH TYPE.
-/
import Derived.Test.YtmffbdohcnebdaaGreatModI
import Derived.Test.YtmffbdohcnebdaaGreatProg
import Derived.Test.YtmffbdohcnebdaaGreatModP
import Derived.Test.YtmffbdohcnebdaaGreatModM
import Derived.Deep.LoopGhost
import Derived.Deep.WholeRow
import Derived.WalkKit
import Derived.WalkSpells
import Derived.IntWalk
namespace Go.Proofs.YtmffbdohcnebdaaGreat.Mw
set_option linter.unusedSimpArgs false
set_option linter.unusedVariables false
open Go.RowKit Kt Mm Mp



set_option maxHeartbeats 1000000 in
/-- slices.ContainsFunc. -/
theorem cfIfc (v : Value) (l : List Ifc) (p : Ifc → Bool) (g : Nat) (lb : Array Value) (eg : ∀ args w, (callFunc g args).run Tryz.prog w = .ok (.enter g args) w) (w : World) (hrow : IsRow eIfc 12 w v l) (hl : l.length ≤ 9223372036854775807) (hp : Pred Tryz.prog g lb eIfc p l w) :
    Calls Tryz.prog 134 #[v, .func (.func g) #[] lb] w fun e w' => e = .returned (.bool (l.any p)) ∧ Below w.heap.size w w' := by
  rw [← ixB_pos]
  have hcall := ixIfc v l p g lb eg w hrow hl hp
  obtain ⟨i, hi⟩ : ∃ i, i = ixB p l := ⟨_, rfl⟩
  rw [← hi] at hcall ⊢
  clear hrow hp hi
  go_enter Tryz.func134, Tryz.ntmps134
  go_wp2_with (go_at_call 78; refine hcall.mono ?_; rintro e w' ⟨rfl, hb'⟩)
  go_ret
  exact ⟨rfl, hb'⟩


set_option maxHeartbeats 1000000 in
/-- slices.ContainsFunc. -/
theorem cfRtr (v : Value) (l : List Rtr) (p : Rtr → Bool) (g : Nat) (lb : Array Value) (eg : ∀ args w, (callFunc g args).run Tryz.prog w = .ok (.enter g args) w) (w : World) (hrow : IsRow eRtr 25 w v l) (hl : l.length ≤ 9223372036854775807) (hp : Pred Tryz.prog g lb eRtr p l w) :
    Calls Tryz.prog 136 #[v, .func (.func g) #[] lb] w fun e w' => e = .returned (.bool (l.any p)) ∧ Below w.heap.size w w' := by
  rw [← ixB_pos]
  have hcall := ixRtr v l p g lb eg w hrow hl hp
  obtain ⟨i, hi⟩ : ∃ i, i = ixB p l := ⟨_, rfl⟩
  rw [← hi] at hcall ⊢
  clear hrow hp hi
  go_enter Tryz.func136, Tryz.ntmps136
  go_wp2_with (go_at_call 76; refine hcall.mono ?_; rintro e w' ⟨rfl, hb'⟩)
  go_ret
  exact ⟨rfl, hb'⟩


set_option maxHeartbeats 1000000 in
/-- slices.ContainsFunc. -/
theorem cfStc (v : Value) (l : List Stc) (p : Stc → Bool) (g : Nat) (lb : Array Value) (eg : ∀ args w, (callFunc g args).run Tryz.prog w = .ok (.enter g args) w) (w : World) (hrow : IsRow eStc 7 w v l) (hl : l.length ≤ 9223372036854775807) (hp : Pred Tryz.prog g lb eStc p l w) :
    Calls Tryz.prog 160 #[v, .func (.func g) #[] lb] w fun e w' => e = .returned (.bool (l.any p)) ∧ Below w.heap.size w w' := by
  rw [← ixB_pos]
  have hcall := ixStc v l p g lb eg w hrow hl hp
  obtain ⟨i, hi⟩ : ∃ i, i = ixB p l := ⟨_, rfl⟩
  rw [← hi] at hcall ⊢
  clear hrow hp hi
  go_enter Tryz.func160, Tryz.ntmps160
  go_wp2_with (go_at_call 192; refine hcall.mono ?_; rintro e w' ⟨rfl, hb'⟩)
  go_ret
  exact ⟨rfl, hb'⟩


set_option maxHeartbeats 1000000 in
/-- slices.ContainsFunc. -/
theorem cfRed (v : Value) (l : List Red) (p : Red → Bool) (g : Nat) (lb : Array Value) (eg : ∀ args w, (callFunc g args).run Tryz.prog w = .ok (.enter g args) w) (w : World) (hrow : IsRow eRed 5 w v l) (hl : l.length ≤ 9223372036854775807) (hp : Pred Tryz.prog g lb eRed p l w) :
    Calls Tryz.prog 170 #[v, .func (.func g) #[] lb] w fun e w' => e = .returned (.bool (l.any p)) ∧ Below w.heap.size w w' := by
  rw [← ixB_pos]
  have hcall := ixRed v l p g lb eg w hrow hl hp
  obtain ⟨i, hi⟩ : ∃ i, i = ixB p l := ⟨_, rfl⟩
  rw [← hi] at hcall ⊢
  clear hrow hp hi
  go_enter Tryz.func170, Tryz.ntmps170
  go_wp2_with (go_at_call 194; refine hcall.mono ?_; rintro e w' ⟨rfl, hb'⟩)
  go_ret
  exact ⟨rfl, hb'⟩


set_option maxHeartbeats 1000000 in
/-- slices.ContainsFunc. -/
theorem cfRng (v : Value) (l : List Rng) (p : Rng → Bool) (g : Nat) (lb : Array Value) (eg : ∀ args w, (callFunc g args).run Tryz.prog w = .ok (.enter g args) w) (w : World) (hrow : IsRow eRng 3 w v l) (hl : l.length ≤ 9223372036854775807) (hp : Pred Tryz.prog g lb eRng p l w) :
    Calls Tryz.prog 165 #[v, .func (.func g) #[] lb] w fun e w' => e = .returned (.bool (l.any p)) ∧ Below w.heap.size w w' := by
  rw [← ixB_pos]
  have hcall := ixRng v l p g lb eg w hrow hl hp
  obtain ⟨i, hi⟩ : ∃ i, i = ixB p l := ⟨_, rfl⟩
  rw [← hi] at hcall ⊢
  clear hrow hp hi
  go_enter Tryz.func165, Tryz.ntmps165
  go_wp2_with (go_at_call 193; refine hcall.mono ?_; rintro e w' ⟨rfl, hb'⟩)
  go_ret
  exact ⟨rfl, hb'⟩


set_option maxHeartbeats 1000000 in
/-- slices.ContainsFunc. -/
theorem cfNbr (v : Value) (l : List Nbr) (p : Nbr → Bool) (g : Nat) (lb : Array Value) (eg : ∀ args w, (callFunc g args).run Tryz.prog w = .ok (.enter g args) w) (w : World) (hrow : IsRow eNbr 4 w v l) (hl : l.length ≤ 9223372036854775807) (hp : Pred Tryz.prog g lb eNbr p l w) :
    Calls Tryz.prog 174 #[v, .func (.func g) #[] lb] w fun e w' => e = .returned (.bool (l.any p)) ∧ Below w.heap.size w w' := by
  rw [← ixB_pos]
  have hcall := ixNbr v l p g lb eg w hrow hl hp
  obtain ⟨i, hi⟩ : ∃ i, i = ixB p l := ⟨_, rfl⟩
  rw [← hi] at hcall ⊢
  clear hrow hp hi
  go_enter Tryz.func174, Tryz.ntmps174
  go_wp2_with (go_at_call 195; refine hcall.mono ?_; rintro e w' ⟨rfl, hb'⟩)
  go_ret
  exact ⟨rfl, hb'⟩


set_option maxHeartbeats 1000000 in
/-- slices.ContainsFunc. -/
theorem cfAggr (v : Value) (l : List Aggr) (p : Aggr → Bool) (g : Nat) (lb : Array Value) (eg : ∀ args w, (callFunc g args).run Tryz.prog w = .ok (.enter g args) w) (w : World) (hrow : IsRow eAggr 3 w v l) (hl : l.length ≤ 9223372036854775807) (hp : Pred Tryz.prog g lb eAggr p l w) :
    Calls Tryz.prog 181 #[v, .func (.func g) #[] lb] w fun e w' => e = .returned (.bool (l.any p)) ∧ Below w.heap.size w w' := by
  rw [← ixB_pos]
  have hcall := ixAggr v l p g lb eg w hrow hl hp
  obtain ⟨i, hi⟩ : ∃ i, i = ixB p l := ⟨_, rfl⟩
  rw [← hi] at hcall ⊢
  clear hrow hp hi
  go_enter Tryz.func181, Tryz.ntmps181
  go_wp2_with (go_at_call 197; refine hcall.mono ?_; rintro e w' ⟨rfl, hb'⟩)
  go_ret
  exact ⟨rfl, hb'⟩


set_option maxHeartbeats 1000000 in
/-- slices.ContainsFunc. -/
theorem cfCnd (v : Value) (l : List Cnd) (p : Cnd → Bool) (g : Nat) (lb : Array Value) (eg : ∀ args w, (callFunc g args).run Tryz.prog w = .ok (.enter g args) w) (w : World) (hrow : IsRow eCnd 5 w v l) (hl : l.length ≤ 9223372036854775807) (hp : Pred Tryz.prog g lb eCnd p l w) :
    Calls Tryz.prog 185 #[v, .func (.func g) #[] lb] w fun e w' => e = .returned (.bool (l.any p)) ∧ Below w.heap.size w w' := by
  rw [← ixB_pos]
  have hcall := ixCnd v l p g lb eg w hrow hl hp
  obtain ⟨i, hi⟩ : ∃ i, i = ixB p l := ⟨_, rfl⟩
  rw [← hi] at hcall ⊢
  clear hrow hp hi
  go_enter Tryz.func185, Tryz.ntmps185
  go_wp2_with (go_at_call 198; refine hcall.mono ?_; rintro e w' ⟨rfl, hb'⟩)
  go_ret
  exact ⟨rfl, hb'⟩

end Go.Proofs.YtmffbdohcnebdaaGreat.Mw
