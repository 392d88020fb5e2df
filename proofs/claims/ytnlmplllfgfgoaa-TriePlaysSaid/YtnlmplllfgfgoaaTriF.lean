/-
  THE CONTRACTS OF A TABLE's Get, Lookup, Covering.
-/
import Derived.Test.YtnlmplllfgfgoaaTriE
import Derived.Test.YtnlmplllfgfgoaaTriC
namespace Go.Proofs.Ytnlmplllfgfgoaa.Ad
set_option linter.unusedSimpArgs false
set_option linter.unusedVariables false
open Go.RowKit Go.Shelf Am Kt Tp Tm Tr
attribute [local go_sem] Oper.semAt_some

/-- What a table has for a prefix. -/
def getV (L : List En) (a : Nat) (n : Int) : Option Int := if validB a n = true then getL L (a, n.toNat) else none
theorem getV_no {L : List En} {a : Nat} {n : Int} (h : validB a n = false) : getV L a n = none := by unfold getV; rw [if_neg (by rw [h]; decide)]
theorem getV_yes {L : List En} {a : Nat} {n : Int} (h : validB a n = true) : getV L a n = getL L (a, n.toNat) := by unfold getV; rw [if_pos h]
def GetPost (w : World) (o : Option Int) (e : Ending) (w' : World) : Prop := e = .returned (.tuple #[.int .i64 (o.getD 0), .bool o.isSome]) ∧ Below w.heap.size w w'

set_option maxHeartbeats 1000000 in
theorem get (tb a : Nat) (n : Int) (T : Tr) (L : List En) (w : World) (h : Tab w tb T L) (ha : a < 4294967296) :
    Calls Try.prog 11 #[pt tb, px a n] w (GetPost w (getV L a n)) := by
  have a0 := heap_new w (.cells #[.int .u32 (a : Int), .int .i64 n] 31)
  cases hv : validB a n with
  | false =>
    have hF := fun wx => find_no tb a n wx ha hv
    have HN := hid (getV_no (L := L) hv)
    clear hv h
    go_enter Try.func11, Try.ntmps11
    go_wp2_with ((go_at_call 28; refine (hF _).mono ?_; rintro e w1 ⟨rfl, b1⟩))
    go_ret2
    exact ⟨by rw [HN.out]; rfl, then_ (al1 w _) b1⟩
  | true =>
    obtain ⟨hok, hn⟩ := okp_valid ha hv
    obtain ⟨k, hk⟩ : ∃ k, k = n.toNat := ⟨_, rfl⟩
    have hg := getV_yes (L := L) hv
    rw [← hk] at hok hn hg
    subst hn
    rw [h.get hok] at hg
    have hF := fun wx (hx : Tab wx tb T L) => find tb a k T L wx hx hok
    have H := hid (And.intro h hg)
    cases hs : T.sub a 0 k with
    | nil =>
      have hfv : findV T a k = .pointer none := findV_none fun b v l r hh => by rw [hs] at hh; cases hh
      have hgn : getV L a (k : Int) = none := by rw [hg]; unfold Tr.get; rw [hs]; rfl
      rw [hfv] at hF
      have HN := hid hgn
      clear hv h hg hs hgn hfv hok hk
      go_enter Try.func11, Try.ntmps11
      go_wp2_with ((go_at_call 28; refine (hF _ (H.out.1.below (al1 w _))).mono ?_; rintro e w1 ⟨rfl, b1⟩))
      go_ret2
      exact ⟨by rw [HN.out]; rfl, then_ (al1 w _) b1⟩
    | node b e l r =>
      cases e with
      | none =>
        have hfv : findV T a k = .pointer none := findV_none fun b v l r hh => by rw [hs] at hh; cases hh
        have hgn : getV L a (k : Int) = none := by rw [hg]; unfold Tr.get; rw [hs]; rfl
        rw [hfv] at hF
        have HN := hid hgn
        clear hv h hg hs hgn hfv hok hk
        go_enter Try.func11, Try.ntmps11
        go_wp2_with ((go_at_call 28; refine (hF _ (H.out.1.below (al1 w _))).mono ?_; rintro e w1 ⟨rfl, b1⟩))
        go_ret2
        exact ⟨by rw [HN.out]; rfl, then_ (al1 w _) b1⟩
      | some v =>
        have hfv : findV T a k = pt b := findV_some hs
        have hgn : getV L a (k : Int) = some v := by rw [hg]; unfold Tr.get; rw [hs]; rfl
        rw [hfv] at hF
        have HN := hid hgn
        have HS := hid hs
        clear hv h hg hs hgn hfv hok hk
        go_enter Try.func11, Try.ntmps11
        go_wp2_with ((go_at_call 28; refine (hF _ (H.out.1.below (al1 w _))).mono ?_; rintro e w1 ⟨rfl, b1⟩; have c3 := (sub_at (H.out.1.inn.below (then_ (al1 w _) b1)) HS.out).c3; simp only [Option.getD_some] at c3))
        go_ret2
        exact ⟨by rw [HN.out]; rfl, then_ (al1 w _) b1⟩
end Go.Proofs.Ytnlmplllfgfgoaa.Ad
