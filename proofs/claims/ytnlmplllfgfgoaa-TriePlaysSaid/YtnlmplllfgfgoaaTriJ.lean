/-
  THE CONTRACT OF A TABLE's Delete.
-/
import Derived.Test.YtnlmplllfgfgoaaTriI
import Derived.Test.YtnlmplllfgfgoaaTriF
namespace Go.Proofs.Ytnlmplllfgfgoaa.Ad
set_option linter.unusedSimpArgs false
set_option linter.unusedVariables false
open Go.RowKit Am Kt Tp Tm Tr

def DelPost (w : World) (tb : Nat) (T : Tr) (L : List En) (a : Nat) (n : Int) (e : Ending) (w' : World) : Prop :=
  e = .returned (.bool (getV L a n).isSome) ∧ ∃ T', Tab w' tb T' (if (getV L a n).isSome = true then del L (a, n.toNat) else L) ∧ Keep T.blocks w w' ∧ ∀ c ∈ T'.blocks, c ∈ T.blocks

set_option maxHeartbeats 1000000 in
theorem delete_no (tb a : Nat) (n : Int) (T : Tr) (L : List En) (w : World) (h : Tab w tb T L)
    (hF : ∀ wx, Below w.heap.size w wx → Calls Try.prog 28 #[pt tb, px a n] wx fun e w' => e = .returned (.pointer none) ∧ Below wx.heap.size wx w') (hg : getV L a n = none) :
    Calls Try.prog 9 #[pt tb, px a n] w (DelPost w tb T L a n) := by
  have H := hid (And.intro h hg)
  clear h hg
  go_enter Try.func9, Try.ntmps9
  go_wp2_with ((go_at_call 28; refine (hF _ (al1 w _)).mono ?_; rintro e w1 ⟨rfl, b1⟩))
  go_ret
  refine ⟨by rw [H.out.2]; rfl, T, ?_, Keep.of (then_ (al1 w _) b1), fun c hc => hc⟩
  rw [if_neg (by rw [H.out.2]; decide)]
  exact H.out.1.below (then_ (al1 w _) b1)

set_option maxHeartbeats 4000000 in
set_option maxRecDepth 100000 in
theorem delete_yes (tb a k : Nat) (v : Int) (T : Tr) (L : List En) (w : World) (h : Tab w tb T L) (hp : OkP (a, k)) (hv : validB a (k : Int) = true) (b : Nat) (l r : Tr) (hs : T.sub a 0 k = .node b (some v) l r) (hl : L.length ≤ 1000000) :
    Calls Try.prog 9 #[pt tb, px a (k : Int)] w (DelPost w tb T L a (k : Int)) := by
  have hF := fun wx (hx : Tab wx tb T L) => find tb a k T L wx hx hp
  rw [findV_some hs] at hF
  have hgL : getL L (a, k) = some v := by rw [h.get hp]; unfold Tr.get; rw [hs]; rfl
  have hg : getV L a (k : Int) = some v := by rw [getV_yes hv]; exact hgL
  have hlen := del_len h.srt ((getL_some h.srt).1 hgL)
  have hpr := fun (e1 : Option Int) (l1 r1 : Tr) (wx : World) (hw : In wx (.node tb e1 l1 r1)) (hn : (Tr.node tb e1 l1 r1).blocks.Nodup) (hss : (Tr.node tb e1 l1 r1).sub a 0 k ≠ .nil) => prune k 0 a k tb e1 l1 r1 wx (by omega) hp.1 hp.2.2 hw hn hss
  obtain ⟨m, hm⟩ : ∃ m, m = L.length := ⟨_, rfl⟩
  rw [← hm] at hl hlen
  have hm1 : 1 ≤ m := by omega
  have H := hid (And.intro h (And.intro hp (And.intro hs (And.intro hg (And.intro hlen hm)))))
  clear h hp hv hs hgL hg hlen hm
  go_enter Try.func9, Try.ntmps9
  go_wp2_with fail
  refine (hF _ (H.out.1.below (al1 w _))).mono ?_
  rintro e w1 ⟨rfl, b1⟩
  have hbox := box_all b1
  have B1 := then_ (al1 w (.cells #[.int .u32 (a : Int), .int .i64 (k : Int)] 31)) b1
  have hT1 := H.out.1.below B1
  have hat := sub_at hT1.inn H.out.2.2.1
  have c2 := hat.c2
  have c3 := hat.c3
  have f2 := hat.fz 2
  have f3 := hat.fz 3
  have c4 := hT1.size
  have f4 := (sub_at (k := 0) hT1.inn (a := 0) (d := 0) (by rw [sub_zero]; exact hT1.root.choose_spec.choose_spec.choose_spec)).fz 4
  rw [← H.out.2.2.2.2.2] at c4
  simp only [Option.isSome_some, Option.getD_some] at c2 c3
  have H1 := hid (And.intro hT1 (And.intro B1 hbox))
  clear hT1 hat b1 B1 hbox hF
  have hok := H.out.2.1
  have hsub := H.out.2.2.1
  have hT := H1.out.1
  have hbT := sub_block hsub
  have htb := hT.mem
  have hIn3 := in_size4 (tb := tb) (.int .i64 ((m : Int) - 1)) (set_in hT.inn hT.nd none hsub)
  have hnd3 := (set_blocks none hsub).nodup_iff.2 hT.nd
  have hroot3 := set_root none hsub hT.root
  have hdeep3 := set_deep none hok.1 hsub hT.deep
  have hents3 := set_none hok hsub hT.deep
  have hsub3 := sub_put k T a 0 (fun _ => Tr.node b none l r) (by rw [hsub]; exact fun h => by cases h)
  have hwb : w.heap.size ≠ b := fun e => by have := H.out.1.lt b hbT; omega
  have hwt : w.heap.size ≠ tb := fun e => by have := H.out.1.lt tb htb; omega
  have hbox3 : ((setE w1 b none).setCell ⟨tb, 4, none⟩ (.int .i64 ((m : Int) - 1))).heap[w.heap.size]? = some (.cells #[.int .u32 (a : Int), .int .i64 (k : Int)] 31 (0, 0)) := by
    rw [Below.heap_setCell _ _ _ _ hwt, setE_far hwb]; exact H1.out.2.2
  have hkeep3 : Keep T.blocks w ((setE w1 b none).setCell ⟨tb, 4, none⟩ (.int .i64 ((m : Int) - 1))) := (((Keep.of H1.out.2.1).setCell (.inl hbT) _).setCell (.inl hbT) _).setCell (.inl htb) _
  have hsz3 : ((setE w1 b none).setCell ⟨tb, 4, none⟩ (.int .i64 ((m : Int) - 1))).cell? ⟨tb, 4, none⟩ = some (.int .i64 ((m : Int) - 1)) := sc_same (u := .int .i64 (m : Int)) (by rw [setE_size4]; exact c4)
  obtain ⟨T1, hT1⟩ : ∃ T1, T1 = T.put a 0 k (fun _ => Tr.node b none l r) := ⟨_, rfl⟩
  rw [← hT1] at hIn3 hnd3 hroot3 hdeep3 hents3 hsub3
  have hbl3 : ∀ c ∈ T1.blocks, c ∈ T.blocks := fun c hc => by rw [hT1] at hc; exact (set_blocks none hsub).mem_iff.1 hc
  obtain ⟨e1, l1, r1, rfl⟩ := hroot3
  have H3 := hid (And.intro hIn3 (And.intro hnd3 (And.intro hdeep3 (And.intro hents3 (And.intro hsub3 (And.intro hkeep3 (And.intro hsz3 hbl3)))))))
  have HB3 := hid hbox3
  clear hok hsub hT hbT htb hIn3 hnd3 hdeep3 hents3 hsub3 hwb hwt hbox3 hkeep3 hsz3 hT1 hbl3
  go_upto_region 6 with fail
  change Code.wp _ _ _ _ ((setE w1 b none).setCell ⟨tb, 4, none⟩ (.int .i64 ((m : Int) - 1)))
  generalize (setE w1 b none).setCell ⟨tb, 4, none⟩ (.int .i64 ((m : Int) - 1)) = w3 at *
  obtain ⟨⟨x0, x1⟩, _⟩ := blk_two HB3.out
  have hCall : ∀ wx, Below w3.heap.size w3 wx → Calls Try.prog 29 #[pt tb, px a (k : Int), .int .i64 0] wx (PrunePost wx tb e1 l1 r1) := fun wx hx =>
    hpr e1 l1 r1 wx (H3.out.1.below hx) H3.out.2.1 (by rw [H3.out.2.2.2.2.1]; exact fun h => by cases h)
  have hw : Hid (Below w3.heap.size w3 w3.drew) := (Below.refl _ w3).drew
  clear hpr c2 c3 f2 f3 c4 f4
  go_region_with (go_at_call 29; refine (hCall _ hw.out).mono ?_; rintro e w4 ⟨rfl, l', r', hP⟩; have HP := hid hP; clear hP)
  all_goals go_wp2_with fail
  all_goals go_ret
  all_goals
    obtain ⟨q1, q2, q3, q4, q5, q6, q7, q8⟩ := H3.out
    obtain ⟨p1, p2, p3, p4, p5, p6⟩ := HP.out
    have hdl := H.out.2.2.2.2.1
    refine ⟨by rw [H.out.2.2.2.1]; rfl, .node tb e1 l' r', ?_, ?_, fun c hc => q8 c (p2.subset hc)⟩
    · rw [if_pos (by rw [H.out.2.2.2.1]; rfl)]
      refine ⟨⟨_, _, _, rfl⟩, p1, p2.nodup q2, p4 33 q3, ?_, ?_⟩
      · rw [p3, q4, H.out.1.ents]; rfl
      · rw [p6]
        refine q7.trans ?_
        rw [Int.toNat_natCast]
        have e2 : ((m : Int) - 1) = (((del L (a, k)).length : Nat) : Int) := by omega
        rw [e2]
    · exact q6.trans (S1 := (Tr.node tb e1 l1 r1).blocks) ⟨p5.os, p5.tape, p5.output, p5.size, p5.block⟩ (fun c hc => .inl (q8 c hc))

theorem delete (tb a : Nat) (n : Int) (T : Tr) (L : List En) (w : World) (h : Tab w tb T L) (ha : a < 4294967296) (hl : L.length ≤ 1000000) :
    Calls Try.prog 9 #[pt tb, px a n] w (DelPost w tb T L a n) := by
  cases hv : validB a n with
  | false => exact delete_no tb a n T L w h (fun wx _ => find_no tb a n wx ha hv) (getV_no hv)
  | true =>
    obtain ⟨hok, hn⟩ := okp_valid ha hv
    obtain ⟨k, hk⟩ : ∃ k, k = n.toNat := ⟨_, rfl⟩
    rw [← hk] at hok hn
    subst hn
    have hgv : getV L a (k : Int) = T.get a 0 k := by rw [getV_yes hv, Int.toNat_natCast]; exact h.get hok
    have hF : ∀ wx, Below w.heap.size w wx → Calls Try.prog 28 #[pt tb, px a (k : Int)] wx fun e w' => e = .returned (findV T a k) ∧ Below wx.heap.size wx w' := fun wx hx => find tb a k T L wx (h.below hx) hok
    cases hs : T.sub a 0 k with
    | nil =>
      have hfv : findV T a k = .pointer none := findV_none fun b v l r hh => by rw [hs] at hh; cases hh
      rw [hfv] at hF
      exact delete_no tb a _ T L w h hF (by rw [hgv]; unfold Tr.get; rw [hs]; rfl)
    | node b e l r =>
      cases e with
      | none =>
        have hfv : findV T a k = .pointer none := findV_none fun b v l r hh => by rw [hs] at hh; cases hh
        rw [hfv] at hF
        exact delete_no tb a _ T L w h hF (by rw [hgv]; unfold Tr.get; rw [hs]; rfl)
      | some v => exact delete_yes tb a k v T L w h hok hv b l r hs hl
end Go.Proofs.Ytnlmplllfgfgoaa.Ad
