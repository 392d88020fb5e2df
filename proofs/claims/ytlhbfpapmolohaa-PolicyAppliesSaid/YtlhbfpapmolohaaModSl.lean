/-
  THE CONTRACT OF netverifylaw5.Small.
-/
import Derived.Test.YtlhbfpapmolohaaProg
import Derived.Test.YtlhbfpapmolohaaModK
import Derived.Deep.LoopGhost
import Derived.WalkKit
import Derived.WalkSpells
import Derived.IntWalk
namespace Go.Proofs.Ytlhbfpapmolohaa.Mw
set_option linter.unusedSimpArgs false
set_option linter.unusedVariables false
open Go.RowKit Kt Mm Mp

theorem want_at {P : Program} {ops : Array Oper} {rest : List Oper} {o : Oper} {a : Act} {w : World} {Q : Exit → Act → World → Prop} (hw : Region.wanted o (yielded ops a.tmps) = true)
    (h : ∀ K : Act → World → Prop, (∀ a w, wpList P ops Q rest a w → K a w) → o.wp P a w K Q) : wpList P ops Q (o :: rest) a w :=
  wpList_step fun K hK => by rw [if_pos hw]; exact h K hK
theorem stopAt {p : Prop} (h : Hid p) : p := h
/-- The lists are short. -/
def small0 (r : Rtr) : Bool := decide (r.ifs.length ≤ 12) && decide (r.lists.length ≤ 12) && decide (r.maps.length ≤ 12) && decide (r.acls.length ≤ 12) && decide (r.nat.length ≤ 12) && decide (r.sts.length ≤ 20) && decide (r.rngs.length ≤ 8) && decide (r.lsr.length ≤ 8) && decide (r.dvr.length ≤ 8) && decide (r.pvr.length ≤ 8) && decide (r.nbrs.length ≤ 12) && decide (r.nets.length ≤ 12) && decide (r.aggs.length ≤ 12) && decide (r.cnds.length ≤ 12)
def smlL (r : Rtr) : Bool := r.lists.all fun x => decide (x.rules.length ≤ 20)
def smlM (r : Rtr) : Bool := r.maps.all fun x => decide (x.clauses.length ≤ 12)
def smlA (r : Rtr) : Bool := r.acls.all fun x => decide (x.rules.length ≤ 20)
def smallB (r : Rtr) : Bool := small0 r && (smlL r && (smlM r && smlA r))

theorem small0_no {r : Rtr} (h : 12 < r.ifs.length ∨ 12 < r.lists.length ∨ 12 < r.maps.length ∨ 12 < r.acls.length ∨ 12 < r.nat.length ∨ 20 < r.sts.length ∨ 8 < r.rngs.length ∨ 8 < r.lsr.length ∨ 8 < r.dvr.length ∨ 8 < r.pvr.length ∨ 12 < r.nbrs.length ∨ 12 < r.nets.length ∨ 12 < r.aggs.length ∨ 12 < r.cnds.length) : smallB r = false := by
  unfold smallB small0; simp; omega
theorem small0_yes {r : Rtr} (h : r.ifs.length ≤ 12 ∧ r.lists.length ≤ 12 ∧ r.maps.length ≤ 12 ∧ r.acls.length ≤ 12 ∧ r.nat.length ≤ 12 ∧ r.sts.length ≤ 20 ∧ r.rngs.length ≤ 8 ∧ r.lsr.length ≤ 8 ∧ r.dvr.length ≤ 8 ∧ r.pvr.length ≤ 8 ∧ r.nbrs.length ≤ 12 ∧ r.nets.length ≤ 12 ∧ r.aggs.length ≤ 12 ∧ r.cnds.length ≤ 12) : smallB r = (smlL r && (smlM r && smlA r)) := by
  have : small0 r = true := by unfold small0; simp; omega
  unfold smallB; rw [this, Bool.true_and]

end Go.Proofs.Ytlhbfpapmolohaa.Mw
