/-
  ROWS AND OTHER TABLES BESIDE A TABLE THAT TURNS.
-/
import Derived.Test.YtnlmplllfgfgoaaTriV
import Derived.Test.YtnlmplllfgfgoaaTriR
namespace Go.Proofs.Ytnlmplllfgfgoaa.Ad
set_option linter.unusedSimpArgs false
set_option linter.unusedVariables false
open Go.RowKit Am Kt Tp Tm Tr

/-- A row's own block is none of a table's. -/
def Off (T : Tr) (v : Value) : Prop := ∀ g, v.ownBlock = some g → g ∉ T.blocks
/-- What a change of a table leaves. -/
structure Turned (w : World) (tb : Nat) (T : Tr) (wr : World) (T' : Tr) (L' : List En) (w' : World) : Prop where
  ot : OT w tb T' L' w'
  keep : Keep T.blocks wr w'
  new : ∀ c ∈ T'.blocks, c ∈ T.blocks ∨ wr.heap.size ≤ c
def InsK (w : World) (tb : Nat) (T : Tr) (wr : World) (b : Bool) (L' : List En) (e : Ending) (w' : World) : Prop := e = .returned (.bool b) ∧ ∃ T', Turned w tb T wr T' L' w'
theorem insK {w wr : World} {tb : Nat} {T : Tr} {L : List En} (h : OT w tb T L wr) (a : Nat) (n v : Int) (ha : a < 4294967296) (hl : L.length ≤ 1000000) :
    Calls Try.prog 18 #[pt tb, px a n, .int .i64 v] wr (InsK w tb T wr (validB a n) (insF L ((a, n), v))) :=
  (insert tb a n v T L wr h.tab ha hl).mono fun _ _ ⟨he, T', ht, hk, hn⟩ => ⟨he, T', h.keep ht hk hn, hk, hn⟩
theorem delK {w wr : World} {tb : Nat} {T : Tr} {L : List En} (h : OT w tb T L wr) (a : Nat) (n : Int) (ha : a < 4294967296) (hl : L.length ≤ 1000000) :
    Calls Try.prog 9 #[pt tb, px a n] wr (InsK w tb T wr (getV L a n).isSome (delF L a n)) :=
  (delete tb a n T L wr h.tab ha hl).mono fun _ _ ⟨he, T', ht, hk, hn⟩ => ⟨he, T', h.keep ht hk (fun c hc => .inl (hn c hc)), hk, fun c hc => .inl (hn c hc)⟩
theorem Turned.below {w wr w' : World} {tb : Nat} {T T' : Tr} {L L' : List En} (h : OT w tb T L wr) (t : Turned w tb T wr T' L' w') : Below w.heap.size wr w' := t.keep.below h.new h.bel.size
theorem Turned.row {w wr w' : World} {tb : Nat} {T T' : Tr} {L' : List En} (t : Turned w tb T wr T' L' w') {B e z n : Nat} {v : Value} {xs : List Value} (h : wr.ownsRow B e z v n xs) (ho : Off T v) :
    w'.ownsRow B e z v n xs ∧ Off T' v := by
  refine ⟨?_, fun g hg hm => ?_⟩
  · obtain ⟨h1, h2⟩ := h
    refine ⟨h1, ?_⟩
    rcases h2 with h2 | ⟨g, cap, cur, rfl, hg, hh, r⟩
    · exact .inl h2
    · refine .inr ⟨g, cap, cur, rfl, hg, ?_, r⟩
      rw [t.keep.block g (blk_lt hh) (ho g rfl)]; exact hh
  · have hlt := (h.lt g hg).2
    exact (t.new g hm).elim (ho g hg) (fun h2 => by omega)
/-- Two tables apart. -/
def Apart (T U : Tr) : Prop := ∀ c ∈ T.blocks, c ∉ U.blocks
theorem Turned.other {w wr w' : World} {tb ub : Nat} {T T' U : Tr} {L L' M : List En} (h : OT w tb T L wr) (t : Turned w tb T wr T' L' w') (hu : OT w ub U M wr) (ha : Apart T U) : OT w ub U M w' ∧ Apart T' U :=
  ⟨⟨hu.tab.kept t.keep (fun b hb hm => ha b hm hb), hu.bel.trans (t.below h), hu.new⟩, fun c hc hm => (t.new c hc).elim (fun h1 => ha c h1 hm) (fun h1 => by have := hu.tab.lt c hm; omega)⟩

/-- Entries, whose row is the call's own. -/
def EntOwn (w : World) (l : List En) (e : Ending) (w' : World) : Prop := ∃ v, e = .returned v ∧ w'.ownsRow w.heap.size 51 3 v l.length (fl eEn l) ∧ Below w.heap.size w w'
set_option maxHeartbeats 1000000 in
theorem entriesO (tb : Nat) (T : Tr) (L : List En) (w : World) (h : Tab w tb T L) (hl : L.length ≤ 1000000) :
    Calls Try.prog 22 #[pt tb] w (EntOwn w L) := by
  have hA : Calls Try.prog 36 #[pt tb, .slice none 0 0, px 0 0] w (AppPost w w.heap.size [] (T.ents 0 0)) := by
    have := app_ents T 0 0 (.slice none 0 0) [] w.heap.size w h.deep (by omega) ⟨by simp only; omega, by rw [Nat.zero_mod], by simp only; omega⟩ h.inn h.lt (World.ownsRow_nil _ _ _ _) (Nat.le_refl _) (by rw [h.ents]; simpa using hl)
    rw [h.ptr] at this
    exact this
  rw [h.ents] at hA
  go_enter Try.func22, Try.ntmps22
  go_wp2_with ((go_at_call 36; refine hA.mono ?_; rintro e w1 ⟨v, rfl, hown, hb, hk⟩))
  go_ret
  exact ⟨_, rfl, by simpa using hown, hb⟩
theorem own_off {w w' : World} {tb : Nat} {T : Tr} {L : List En} (h : Tab w tb T L) {e z n : Nat} {v : Value} {xs : List Value} (ho : w'.ownsRow w.heap.size e z v n xs) : Off T v := fun g hg hm => by
  have h1 := (ho.lt g hg).1
  have h2 := h.lt g hm
  omega

/-! ### What is deleted and inserted again -/
theorem delF_yes {L : List En} {p : Px} {v : Int} (hs : Srt L) (ho : Oks L) (h : (p, v) ∈ L) : delF L p.1 (p.2 : Int) = del L p := by
  unfold delF
  rw [getV_mem hs ho h, Int.toNat_natCast]
  rfl
theorem getV_del {L : List En} {p : Px} (hs : Srt L) (hp : OkP p) : getV (del L p) p.1 (p.2 : Int) = none := by
  rw [getV_yes (valid_of_ok hp), Int.toNat_natCast, getL_del hs, if_pos rfl]
theorem delF_no {L : List En} {p : Px} (hs : Srt L) (hp : OkP p) : delF (del L p) p.1 (p.2 : Int) = del L p := by
  unfold delF
  rw [getV_del hs hp]
  rfl
theorem insF_ok {L : List En} {p : Px} (v : Int) (hp : OkP p) : insF L ((p.1, (p.2 : Int)), v) = ins L p v := by
  unfold insF
  rw [if_pos (valid_of_ok hp), Int.toNat_natCast]
theorem getV_other {L : List En} {p : Px} {y : En} (hs : Srt L) (ho : Oks L) (hy : y ∈ L) (hne : y.1 ≠ p) : getV (del L p) y.1.1 (y.1.2 : Int) = some y.2 := by
  rw [getV_yes (valid_of_ok (ho y hy)), Int.toNat_natCast, getL_del hs, if_neg hne]
  exact (getL_some hs).2 hy
end Go.Proofs.Ytnlmplllfgfgoaa.Ad
