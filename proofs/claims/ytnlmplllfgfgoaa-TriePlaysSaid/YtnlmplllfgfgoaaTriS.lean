/-
  A TABLE THAT A LAW HAS MADE, AND THE CONTRACTS AS A LAW USES THEM; the sanity check.
-/
import Derived.Test.YtnlmplllfgfgoaaTriQ
import Derived.Test.YtnlmplllfgfgoaaTriJ
import Derived.Test.YtnlmplllfgfgoaaTriH
namespace Go.Proofs.Ytnlmplllfgfgoaa.Ad
set_option linter.unusedSimpArgs false
set_option linter.unusedVariables false
open Go.RowKit Am Kt Tp Tm Tr

/-- A table of the call's own. -/
structure OT (w : World) (tb : Nat) (T : Tr) (L : List En) (wr : World) : Prop where
  tab : Tab wr tb T L
  bel : Below w.heap.size w wr
  new : ∀ c ∈ T.blocks, w.heap.size ≤ c
theorem OT.below {w wr w' : World} {tb : Nat} {T : Tr} {L : List En} (h : OT w tb T L wr) (k : Below wr.heap.size wr w') : OT w tb T L w' := ⟨h.tab.below k, h.bel.trans (k.mono h.bel.size), h.new⟩
theorem OT.keep {w wr w' : World} {tb : Nat} {T T' : Tr} {L L' : List En} (h : OT w tb T L wr) (ht : Tab w' tb T' L') (hk : Keep T.blocks wr w') (hn : ∀ c ∈ T'.blocks, c ∈ T.blocks ∨ wr.heap.size ≤ c) : OT w tb T' L' w' :=
  ⟨ht, h.bel.trans (hk.below h.new h.bel.size), fun c hc => (hn c hc).elim (h.new c) (fun h1 => Nat.le_trans h.bel.size h1)⟩
/-- What Delete makes of a list. -/
def delF (L : List En) (a : Nat) (n : Int) : List En := if (getV L a n).isSome = true then del L (a, n.toNat) else L
def InsO (w : World) (tb : Nat) (b : Bool) (L' : List En) (e : Ending) (w' : World) : Prop := e = .returned (.bool b) ∧ ∃ T', OT w tb T' L' w'
theorem insO {w wr : World} {tb : Nat} {T : Tr} {L : List En} (h : OT w tb T L wr) (a : Nat) (n v : Int) (ha : a < 4294967296) (hl : L.length ≤ 1000000) :
    Calls Try.prog 18 #[pt tb, px a n, .int .i64 v] wr (InsO w tb (validB a n) (insF L ((a, n), v))) :=
  (insert tb a n v T L wr h.tab ha hl).mono fun _ _ ⟨he, T', ht, hk, hn⟩ => ⟨he, T', h.keep ht hk hn⟩
theorem delO {w wr : World} {tb : Nat} {T : Tr} {L : List En} (h : OT w tb T L wr) (a : Nat) (n : Int) (ha : a < 4294967296) (hl : L.length ≤ 1000000) :
    Calls Try.prog 9 #[pt tb, px a n] wr (InsO w tb (getV L a n).isSome (delF L a n)) :=
  (delete tb a n T L wr h.tab ha hl).mono fun _ _ ⟨he, T', ht, hk, hn⟩ => ⟨he, T', h.keep ht hk (fun c hc => .inl (hn c hc))⟩

/-! ### The sanity check -/
def sL1 : List En := insF [] ((0, 0), 1)
def sL2 : List En := insF sL1 ((167772160, 8), 2)
theorem sL1_eq : sL1 = [((0, 0), 1)] := by decide +kernel
theorem sL2_eq : sL2 = [((0, 0), 1), ((167772160, 8), 2)] := by decide +kernel

set_option maxHeartbeats 4000000 in
set_option maxRecDepth 100000 in
theorem sane (w : World) : Calls Try.prog 23 #[] w (BoolPost true w) := by
  have hI1 : ∀ tb T wx, OT w tb T [] wx → Calls Try.prog 18 #[pt tb, .agg #[.int .u32 0, .int .i64 0], .int .i64 1] wx (InsO w tb true sL1) := fun tb T wx h => insO h 0 0 1 (by decide) (by decide)
  have hI2 : ∀ tb T wx, OT w tb T sL1 wx → Calls Try.prog 18 #[pt tb, .agg #[.int .u32 167772160, .int .i64 8], .int .i64 2] wx (InsO w tb true sL2) := fun tb T wx h => insO h 167772160 8 2 (by decide) (by rw [sL1_eq]; decide)
  have hI3 : ∀ tb T wx, OT w tb T sL2 wx → Calls Try.prog 18 #[pt tb, .agg #[.int .u32 1, .int .i64 0], .int .i64 3] wx (InsO w tb false sL2) := fun tb T wx h => insO h 1 0 3 (by decide) (by rw [sL2_eq]; decide)
  have hL1 : ∀ tb T wx, OT w tb T sL2 wx → Calls Try.prog 13 #[pt tb, .int .u32 167838211] wx fun e w' => e = .returned (.tuple #[px 167772160 8, .int .i64 2, .bool true]) ∧ Below wx.heap.size wx w' := fun tb T wx h => by
    have hv : lookV sL2 167838211 = some ((167772160, 8), 2) := by rw [sL2_eq]; decide +kernel
    have := lookup tb 167838211 T sL2 wx h.tab (by decide)
    rw [hv] at this
    exact this
  have hL2 : ∀ tb T wx, OT w tb T sL2 wx → Calls Try.prog 13 #[pt tb, .int .u32 1] wx fun e w' => e = .returned (.tuple #[px 0 0, .int .i64 1, .bool true]) ∧ Below wx.heap.size wx w' := fun tb T wx h => by
    have hv : lookV sL2 1 = some ((0, 0), 1) := by rw [sL2_eq]; decide +kernel
    have := lookup tb 1 T sL2 wx h.tab (by decide)
    rw [hv] at this
    exact this
  have hLn : ∀ tb T wx, OT w tb T sL2 wx → Calls Try.prog 20 #[pt tb] wx fun e w' => e = .returned (.int .i64 2) ∧ wx = w' := fun tb T wx h => by
    have := len tb T sL2 wx h.tab
    rw [sL2_eq] at this
    exact this
  go_enter Try.func23, Try.ntmps23
  go_wp2_with fail
  refine (new _).mono ?_
  rintro e w1 ⟨rfl, ht, hb1, hs1⟩
  have o1 : OT w w.heap.size (.node w.heap.size none .nil .nil) [] w1 := ⟨ht, hb1, fun c hc => by simp [Tr.blocks] at hc; omega⟩
  clear ht hb1 hs1
  obtain ⟨tb, htb⟩ : ∃ tb, tb = w.heap.size := ⟨_, rfl⟩
  obtain ⟨T0, hT0⟩ : ∃ T0, T0 = Tr.node w.heap.size none .nil .nil := ⟨_, rfl⟩
  rw [← hT0] at o1
  clear hT0
  have o1' : OT w tb T0 [] w1 := by rw [htb]; exact o1
  rw [← htb]
  have O1 := hid o1'
  clear o1 o1' htb
  go_wp2_with fail
  refine (hI1 tb T0 _ O1.out).mono ?_
  rintro e w2 ⟨rfl, T1, o2⟩
  have O2 := hid o2
  clear o2 O1 hI1
  go_wp2_with fail
  refine (hI2 tb T1 _ O2.out).mono ?_
  rintro e w3 ⟨rfl, T2, o3⟩
  have O3 := hid o3
  clear o3 O2 hI2
  go_wp2_with fail
  refine (hL1 tb T2 _ O3.out).mono ?_
  rintro e w4 ⟨rfl, b4⟩
  have O4 := hid (O3.out.below b4)
  clear b4 O3 hL1
  go_wp2_with fail
  have al4 := al1 w4 (.cells #[.int .u32 167772160, .int .i64 8] 31)
  have e4 := heap_new w4 (.cells #[.int .u32 167772160, .int .i64 8] 31)
  refine (hL2 tb T2 _ (O4.out.below al4)).mono ?_
  rintro e w5 ⟨rfl, b5⟩
  have e5 := blk_keep e4 b5
  have c1 := (blk_two e5).1.2
  have hlt5 := blk_lt e5
  have O5 := hid ((O4.out.below al4).below b5)
  clear b5 e4 al4 O4 hL2 e5
  go_wp2_with (first | (go_at_call 20; refine (hLn tb T2 _ (O5.out.below (al1 w5 _))).mono ?_; rintro e w6 ⟨rfl, rfl⟩) | (go_at_call 18; refine (hI3 tb T2 _ (O5.out.below (al1 w5 _))).mono ?_; rintro e w6 ⟨rfl, T3, o6⟩; have O6 := hid o6; clear o6))
  go_ret
  exact ⟨rfl, O6.out.bel⟩
end Go.Proofs.Ytnlmplllfgfgoaa.Ad
