/-
  THE CONTRACT OF A TABLE's Entries.
-/
import Derived.Test.YtnlmplllfgfgoaaTriL
namespace Go.Proofs.Ytnlmplllfgfgoaa.Ad
set_option linter.unusedSimpArgs false
set_option linter.unusedVariables false
open Go.RowKit Am Kt Tp Tm Tr

def EntPost (w : World) (l : List En) (e : Ending) (w' : World) : Prop := ∃ v, e = .returned v ∧ IsRow eEn 3 w' v l ∧ Below w.heap.size w w'

set_option maxHeartbeats 1000000 in
theorem entries (tb : Nat) (T : Tr) (L : List En) (w : World) (h : Tab w tb T L) (hl : L.length ≤ 1000000) :
    Calls Try.prog 22 #[pt tb] w (EntPost w L) := by
  have hA : Calls Try.prog 36 #[pt tb, .slice none 0 0, px 0 0] w (AppPost w w.heap.size [] (T.ents 0 0)) := by
    have := app_ents T 0 0 (.slice none 0 0) [] w.heap.size w h.deep (by omega) ⟨by simp only; omega, by rw [Nat.zero_mod], by simp only; omega⟩ h.inn h.lt (World.ownsRow_nil _ _ _ _) (Nat.le_refl _) (by rw [h.ents]; simpa using hl)
    rw [h.ptr] at this
    exact this
  rw [h.ents] at hA
  go_enter Try.func22, Try.ntmps22
  go_wp2_with ((go_at_call 36; refine hA.mono ?_; rintro e w1 ⟨v, rfl, hown, hb, hk⟩))
  go_ret
  exact ⟨_, rfl, by simpa using rows_own hown, hb⟩
end Go.Proofs.Ytnlmplllfgfgoaa.Ad
