/-
  A TABLE AND ITS REFERENCE SIDE BY SIDE.
-/
import Derived.Test.YtnlmplllfgfgoaaRefD
namespace Go.Proofs.Ytnlmplllfgfgoaa.Ad
set_option linter.unusedSimpArgs false
set_option linter.unusedVariables false
open Go.RowKit Am Kt Tp Tm Tr

/-- The table in block tb holds L, the reference in block mb holds M; neither's blocks are the other's. -/
structure Sim (w wr : World) (tb : Nat) (T : Tr) (mb : Nat) (v : Value) (L M : List En) : Prop where
  ot : OT w tb T L wr
  rf : Ref wr w.heap.size mb v M
  far : mb ∉ T.blocks
  off : Off T v
theorem Sim.below {w wr w' : World} {tb : Nat} {T : Tr} {mb : Nat} {v : Value} {L M : List En} (h : Sim w wr tb T mb v L M) (k : Below wr.heap.size wr w') : Sim w w' tb T mb v L M :=
  ⟨h.ot.below k, h.rf.below k, h.far, h.off⟩
theorem Sim.turn {w wr w' : World} {tb : Nat} {T T' : Tr} {mb : Nat} {v : Value} {L L' M : List En} (h : Sim w wr tb T mb v L M) (t : Turned w tb T wr T' L' w') : Sim w w' tb T' mb v L' M := by
  have hr := t.row h.rf.row h.off
  refine ⟨t.ot, ⟨?_, hr.1, h.rf.lo⟩, fun hm => ?_, hr.2⟩
  · rw [t.keep.block mb (blk_lt h.rf.box) h.far]; exact h.rf.box
  · rcases t.new mb hm with h1 | h1
    · exact h.far h1
    · have := blk_lt h.rf.box; omega
theorem Sim.chg {w wr w' : World} {tb : Nat} {T : Tr} {mb : Nat} {v v' : Value} {L M M' : List En} (h : Sim w wr tb T mb v L M) (hr : Ref w' w.heap.size mb v' M') (c : Chg wr mb v w' v') : Sim w w' tb T mb v' L M' := by
  have hno : ∀ b ∈ T.blocks, b ∉ mb :: v.ownBlock.toList := fun b hb hm => by
    rcases List.mem_cons.1 hm with rfl | hm
    · exact h.far hb
    · exact h.off b (by simpa using hm) hb
  have hlo : ∀ x ∈ mb :: v.ownBlock.toList, w.heap.size ≤ x := fun x hx => by
    rcases List.mem_cons.1 hx with rfl | hx
    · exact h.rf.lo
    · exact (h.rf.row.lt x (by simpa using hx)).1
  refine ⟨⟨h.ot.tab.kept c.keep hno, h.ot.bel.trans (c.keep.below hlo h.ot.bel.size), h.ot.new⟩, hr, h.far, fun g hg hm => ?_⟩
  rcases c.new g hg with h1 | h1
  · exact h.off g h1 hm
  · have := h.ot.tab.lt g hm; omega
end Go.Proofs.Ytnlmplllfgfgoaa.Ad
