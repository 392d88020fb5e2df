/-
  THE CONTRACTS OF prune AND OF A TABLE's Delete.
-/
import Derived.Test.YtnlmplllfgfgoaaTriE
import Derived.Test.YtnlmplllfgfgoaaTriC
import Derived.Deep.RegionWith
namespace Go.Proofs.Ytnlmplllfgfgoaa.Ad
set_option linter.unusedSimpArgs false
set_option linter.unusedVariables false
open Go.RowKit Am Kt Tp Tm Tr

theorem arr00 (w : World) : (Op.equalIn 9999 58 (.agg #[.pointer none, .pointer none]) (.agg #[.pointer none, .pointer none])).run Try.prog w = .ok true w := by kernel_rfl
theorem arr01 (c : Nat) (w : World) : (Op.equalIn 9999 58 (.agg #[.pointer none, .pointer (some ⟨c, 0, none⟩)]) (.agg #[.pointer none, .pointer none])).run Try.prog w = .ok false w := by kernel_rfl
theorem arr10 (c : Nat) (q : Value) (w : World) : (Op.equalIn 9999 58 (.agg #[.pointer (some ⟨c, 0, none⟩), q]) (.agg #[.pointer none, .pointer none])).run Try.prog w = .ok false w := by kernel_rfl

/-- What prune leaves of a node's tree. -/
structure Pruned (w : World) (b : Nat) (e : Option Int) (l r : Tr) (w' : World) (l' r' : Tr) : Prop where
  inn : In w' (.node b e l' r')
  sub : (Tr.node b e l' r').blocks.Sublist (Tr.node b e l r).blocks
  ents : ∀ A K, (Tr.node b e l' r').ents A K = (Tr.node b e l r).ents A K
  deep : ∀ n, (Tr.node b e l r).deep n → (Tr.node b e l' r').deep n
  keep : Keep (Tr.node b e l r).blocks w w'
  four : w'.cell? ⟨b, 4, none⟩ = w.cell? ⟨b, 4, none⟩
def PrunePost (w : World) (b : Nat) (x : Option Int) (l r : Tr) (e : Ending) (w' : World) : Prop := e = .returned (.tuple #[]) ∧ ∃ l' r', Pruned w b x l r w' l' r'

theorem keep_l {w w1 w2 : World} {b b2 : Nat} {x e2 : Option Int} {l2 r2 l' r' o : Tr} (hI : In w1 (.node b x (.node b2 e2 l2 r2) o)) (hK : Below w.heap.size w w1) (hnd : (Tr.node b x (.node b2 e2 l2 r2) o).blocks.Nodup) (hP : Pruned w1.drew b2 e2 l2 r2 w2 l' r') (h4 : w1.cell? ⟨b, 4, none⟩ = w.cell? ⟨b, 4, none⟩) :
    Pruned w b x (.node b2 e2 l2 r2) o w2 (.node b2 e2 l' r') o := by
  have hbk : b ∉ (Tr.node b2 e2 l2 r2).blocks := fun h => (List.nodup_cons.1 hnd).1 (List.mem_append.2 (.inl h))
  have hok : ∀ c ∈ o.blocks, c ∉ (Tr.node b2 e2 l2 r2).blocks := fun c h1 h2 => (List.nodup_append.1 (List.nodup_cons.1 hnd).2).2.2 c h2 c h1 rfl
  have hkeep : Keep (Tr.node b2 e2 l2 r2).blocks w1 w2 := ⟨hP.keep.os, hP.keep.tape, hP.keep.output, hP.keep.size, hP.keep.block⟩
  refine ⟨⟨hI.1.keep (hkeep.block b (hI.lt b (by simp [Tr.blocks])) hbk), hP.inn, hI.2.2.kept hkeep hok⟩, ?_, ?_, ?_, (Keep.of hK).trans hkeep (fun c hc => .inl (by unfold Tr.blocks; exact List.mem_cons_of_mem _ (List.mem_append.2 (.inl hc)))), ?_⟩
  · exact List.Sublist.cons_cons b (hP.sub.append (List.Sublist.refl _))
  · intro A Q
    show own x A Q ++ (_ ++ o.ents _ _) = own x A Q ++ (_ ++ o.ents _ _)
    rw [hP.ents]
  · intro n hn
    cases n with
    | zero => exact hn.elim
    | succ n => exact ⟨hP.deep n hn.1, hn.2⟩
  · exact (same_cell (hkeep.block b (hI.lt b (by simp [Tr.blocks])) hbk) 4).trans h4
theorem cut_l {w w1 w2 : World} {b b2 : Nat} {x : Option Int} {l2 r2 o : Tr} (hI : In w1 (.node b x (.node b2 none l2 r2) o)) (hK : Below w.heap.size w w1) (hnd : (Tr.node b x (.node b2 none l2 r2) o).blocks.Nodup) (hP : Pruned w1.drew b2 none l2 r2 w2 .nil .nil) (h4 : w1.cell? ⟨b, 4, none⟩ = w.cell? ⟨b, 4, none⟩) :
    Pruned w b x (.node b2 none l2 r2) o (w2.setCell ⟨b, 0, none⟩ (.pointer none)) .nil o := by
  have h := keep_l hI hK hnd hP h4
  have hbo : b ∉ o.blocks := fun h => (List.nodup_cons.1 hnd).1 (List.mem_append.2 (.inr h))
  have hlt := hI.lt b (by simp [Tr.blocks])
  refine ⟨⟨h.inn.1.set0 _, trivial, h.inn.2.2.keep fun c hc => Below.heap_setCell _ _ _ _ (fun e => hbo (by rw [← show c = b from e]; exact hc))⟩, ?_, ?_, ?_, h.keep.setCell (.inl (by simp [Tr.blocks])) _, ?_⟩
  · exact List.Sublist.cons_cons b ((List.nil_sublist _).append (List.Sublist.refl _))
  · intro A Q
    rw [← h.ents]
    rfl
  · intro n hn
    have := h.deep n hn
    cases n with
    | zero => exact hn.elim
    | succ n => exact ⟨by cases n <;> trivial, this.2⟩
  · exact (sc_other (fun e => by injection e with _ e2 _; omega)).trans h.four
theorem keep_r {w w1 w2 : World} {b b2 : Nat} {x e2 : Option Int} {l2 r2 l' r' o : Tr} (hI : In w1 (.node b x o (.node b2 e2 l2 r2))) (hK : Below w.heap.size w w1) (hnd : (Tr.node b x o (.node b2 e2 l2 r2)).blocks.Nodup) (hP : Pruned w1.drew b2 e2 l2 r2 w2 l' r') (h4 : w1.cell? ⟨b, 4, none⟩ = w.cell? ⟨b, 4, none⟩) :
    Pruned w b x o (.node b2 e2 l2 r2) w2 o (.node b2 e2 l' r') := by
  have hbk : b ∉ (Tr.node b2 e2 l2 r2).blocks := fun h => (List.nodup_cons.1 hnd).1 (List.mem_append.2 (.inr h))
  have hok : ∀ c ∈ o.blocks, c ∉ (Tr.node b2 e2 l2 r2).blocks := fun c h1 h2 => (List.nodup_append.1 (List.nodup_cons.1 hnd).2).2.2 c h1 c h2 rfl
  have hkeep : Keep (Tr.node b2 e2 l2 r2).blocks w1 w2 := ⟨hP.keep.os, hP.keep.tape, hP.keep.output, hP.keep.size, hP.keep.block⟩
  refine ⟨⟨hI.1.keep (hkeep.block b (hI.lt b (by simp [Tr.blocks])) hbk), hI.2.1.kept hkeep hok, hP.inn⟩, ?_, ?_, ?_, (Keep.of hK).trans hkeep (fun c hc => .inl (by unfold Tr.blocks; exact List.mem_cons_of_mem _ (List.mem_append.2 (.inr hc)))), ?_⟩
  · exact List.Sublist.cons_cons b ((List.Sublist.refl _).append hP.sub)
  · intro A Q
    show own x A Q ++ (o.ents _ _ ++ _) = own x A Q ++ (o.ents _ _ ++ _)
    rw [hP.ents]
  · intro n hn
    cases n with
    | zero => exact hn.elim
    | succ n => exact ⟨hn.1, hP.deep n hn.2⟩
  · exact (same_cell (hkeep.block b (hI.lt b (by simp [Tr.blocks])) hbk) 4).trans h4
theorem cut_r {w w1 w2 : World} {b b2 : Nat} {x : Option Int} {l2 r2 o : Tr} (hI : In w1 (.node b x o (.node b2 none l2 r2))) (hK : Below w.heap.size w w1) (hnd : (Tr.node b x o (.node b2 none l2 r2)).blocks.Nodup) (hP : Pruned w1.drew b2 none l2 r2 w2 .nil .nil) (h4 : w1.cell? ⟨b, 4, none⟩ = w.cell? ⟨b, 4, none⟩) :
    Pruned w b x o (.node b2 none l2 r2) (w2.setCell ⟨b, 1, none⟩ (.pointer none)) o .nil := by
  have h := keep_r hI hK hnd hP h4
  have hbo : b ∉ o.blocks := fun h => (List.nodup_cons.1 hnd).1 (List.mem_append.2 (.inl h))
  have hlt := hI.lt b (by simp [Tr.blocks])
  refine ⟨⟨h.inn.1.set1 _, h.inn.2.1.keep fun c hc => Below.heap_setCell _ _ _ _ (fun e => hbo (by rw [← show c = b from e]; exact hc)), trivial⟩, ?_, ?_, ?_, h.keep.setCell (.inl (by simp [Tr.blocks])) _, ?_⟩
  · exact List.Sublist.cons_cons b ((List.Sublist.refl _).append (List.nil_sublist _))
  · intro A Q
    rw [← h.ents]
    rfl
  · intro n hn
    have := h.deep n hn
    cases n with
    | zero => exact hn.elim
    | succ n => exact ⟨this.1, by cases n <;> trivial⟩
  · exact (sc_other (fun e => by injection e with _ e2 _; omega)).trans h.four

set_option maxHeartbeats 4000000 in
set_option maxRecDepth 100000 in
theorem prune : ∀ (j d a m b : Nat) (x : Option Int) (l r : Tr) (w : World), d + j = m → m ≤ 32 → a < 4294967296 → In w (.node b x l r) → (Tr.node b x l r).blocks.Nodup → (Tr.node b x l r).sub a d j ≠ .nil →
    Calls Try.prog 29 #[pt b, px a (m : Int), .int .i64 (d : Int)] w (PrunePost w b x l r)
  | 0, d, a, m, b, x, l, r, w, hd, hm, ha, hi, hnd, hs => by
    have hd' : d = m := by omega
    subst hd'
    have H := hid hi
    clear hi hnd hs
    go_enter Try.func29, Try.ntmps29
    go_wp2_with fail
    refine bodyPost_ret (results_none rfl _ _ _) rfl ?_
    exact ⟨rfl, l, r, H.out.below (al1 w _), List.Sublist.refl _, fun _ _ => rfl, fun _ h => h, Keep.of (al1 w _), World.cell?_alloc_lt _ _ _ H.out.1.lt⟩
  | j + 1, d, a, m, b, x, l, r, w, hd, hm, ha, hi, hnd, hs => by
    have hlt : d < m := by omega
    have hd32 : d < 32 := by omega
    have hne : ((d : Int) == (m : Int)) = false := by simp; omega
    have hBit := fun wx => bit a d wx ha hd32
    have hs' : (if bitN a d = 0 then l else r).sub a (d + 1) j ≠ .nil := hs
    have a0 := heap_new w (.cells #[.int .u32 (a : Int), .int .i64 (m : Int)] 31)
    have i0 := hi.below (al1 w (.cells #[.int .u32 (a : Int), .int .i64 (m : Int)] 31))
    have ih := prune j (d + 1) a m
    have HI := hid (And.intro i0 (And.intro hnd hs'))
    have HB := hid a0
    have hlb : b < w.heap.size := hi.1.lt
    clear hs hs' hi hnd i0 a0
    rcases bitN_or a d with hb | hb
    · rw [hb] at hBit
      go_enter Try.func29, Try.ntmps29
      go_upto_region 2 with fail
      have x0 := lat_0 HB.out
      refine wp_region_later (w.alloc (.cells #[.int .u32 (a : Int), .int .i64 (m : Int)] 31)).heap.size (by kernel_rfl) (by kernel_rfl) ?_
      repeat (go_big_quiet_step ((go_at_call 38; exact later_same (hBit _))))
      refine wpQuiet_nil ?_
      rintro _ ⟨u, rfl⟩
      have hbt := hid hb
      clear hb
      have hI1 := HI.out.1.below u.h
      have hB1 := blk_keep HB.out u.h
      have hK1 := then_ (al1 w (.cells #[.int .u32 (a : Int), .int .i64 (m : Int)] 31)) u.h
      have h4 := hid (hK1.cell (p := ⟨b, 4, none⟩) hlb)
      have hnd := HI.out.2.1
      have hsb := HI.out.2.2
      rw [hbt.out] at hsb
      simp only [if_true, if_false, Nat.one_ne_zero, ↓reduceIte] at hsb
      clear HI HB x0 hBit
      generalize u.w = w1 at *
      cases l with
      | nil => exact absurd (sub_nil _ _ _) hsb
      | node b2 e2 l2 r2 =>
        have hCall : ∀ wx, Below w1.heap.size w1 wx → Calls Try.prog 29 #[pt b2, px a (m : Int), .int .i64 ((d + 1 : Nat) : Int)] wx (PrunePost wx b2 e2 l2 r2) := fun wx hx => by
          have hi2 := hI1.2.1.below hx
          exact ih b2 e2 l2 r2 wx (by omega) hm ha hi2 ((List.nodup_append.1 (List.nodup_cons.1 hnd).2).1) hsb
        have hcd : ((d + 1 : Nat) : Int) = (d : Int) + 1 := by omega
        rw [hcd] at hCall
        have hat := hI1.1
        have hc := hat.c0
        have hf := hat.fz 0
        simp only [Tr.ptr] at hc
        obtain ⟨⟨x0, x1⟩, _⟩ := blk_two hB1
        have H1 := hid (And.intro hI1 (And.intro hK1 (And.intro hnd hat)))
        clear hI1 hK1 hnd hat hB1 ih hsb
        have hw : Hid (Below w1.heap.size w1 w1.drew) := (Below.refl _ w1).drew
        have n1 : IntKind.i64.wrap ((d : Int) + 1) = (d : Int) + 1 := IntWalk.i64_in _ (by omega)
        go_upto_region 3 with fail
        go_region_with (go_at_call 29; refine (hCall _ hw.out).mono ?_; rintro e w2 ⟨rfl, l', r', hP⟩; have HP := hid hP; clear hP)
        all_goals
          have hq := keep_l H1.out.1 H1.out.2.1 H1.out.2.2.1 HP.out h4.out
          have hcb := hq.inn.1.c0
          have hfb := hq.inn.1.fz 0
          have hat2 := hq.inn.2.1.1
          have d0 := hat2.c0
          have d1 := hat2.c1
          have d2 := hat2.c2
          have d3 := hat2.c3
          have HQ := hid hq
          clear hq hat2 hc hf x0 x1 hCall
          rcases l' with _ | ⟨b3, e3, l3, r3⟩ <;> rcases r' with _ | ⟨b4, e4, l4, r4⟩ <;> rcases e2 with _ | v
        all_goals simp only [Tr.ptr, Option.isSome_none, Option.isSome_some, Option.getD_none, Option.getD_some] at d0 d1 d2 d3 hcb
        all_goals have a00 := arr00
        all_goals have a01 := arr01
        all_goals have a10 := arr10
        all_goals go_wp2_with fail
        all_goals go_end0
        all_goals first | exact ⟨rfl, _, _, HQ.out⟩ | exact ⟨rfl, _, _, cut_l H1.out.1 H1.out.2.1 H1.out.2.2.1 HP.out h4.out⟩
    · rw [hb] at hBit
      go_enter Try.func29, Try.ntmps29
      go_upto_region 2 with fail
      have x0 := lat_0 HB.out
      refine wp_region_later (w.alloc (.cells #[.int .u32 (a : Int), .int .i64 (m : Int)] 31)).heap.size (by kernel_rfl) (by kernel_rfl) ?_
      repeat (go_big_quiet_step ((go_at_call 38; exact later_same (hBit _))))
      refine wpQuiet_nil ?_
      rintro _ ⟨u, rfl⟩
      have hbt := hid hb
      clear hb
      have hI1 := HI.out.1.below u.h
      have hB1 := blk_keep HB.out u.h
      have hK1 := then_ (al1 w (.cells #[.int .u32 (a : Int), .int .i64 (m : Int)] 31)) u.h
      have h4 := hid (hK1.cell (p := ⟨b, 4, none⟩) hlb)
      have hnd := HI.out.2.1
      have hsb := HI.out.2.2
      rw [hbt.out] at hsb
      simp only [if_true, if_false, Nat.one_ne_zero, ↓reduceIte] at hsb
      clear HI HB x0 hBit
      generalize u.w = w1 at *
      cases r with
      | nil => exact absurd (sub_nil _ _ _) hsb
      | node b2 e2 l2 r2 =>
        have hCall : ∀ wx, Below w1.heap.size w1 wx → Calls Try.prog 29 #[pt b2, px a (m : Int), .int .i64 ((d + 1 : Nat) : Int)] wx (PrunePost wx b2 e2 l2 r2) := fun wx hx => by
          have hi2 := hI1.2.2.below hx
          exact ih b2 e2 l2 r2 wx (by omega) hm ha hi2 ((List.nodup_append.1 (List.nodup_cons.1 hnd).2).2.1) hsb
        have hcd : ((d + 1 : Nat) : Int) = (d : Int) + 1 := by omega
        rw [hcd] at hCall
        have hat := hI1.1
        have hc := hat.c1
        have hf := hat.fz 1
        simp only [Tr.ptr] at hc
        obtain ⟨⟨x0, x1⟩, _⟩ := blk_two hB1
        have H1 := hid (And.intro hI1 (And.intro hK1 (And.intro hnd hat)))
        clear hI1 hK1 hnd hat hB1 ih hsb
        have hw : Hid (Below w1.heap.size w1 w1.drew) := (Below.refl _ w1).drew
        have n1 : IntKind.i64.wrap ((d : Int) + 1) = (d : Int) + 1 := IntWalk.i64_in _ (by omega)
        go_upto_region 3 with fail
        go_region_with (go_at_call 29; refine (hCall _ hw.out).mono ?_; rintro e w2 ⟨rfl, l', r', hP⟩; have HP := hid hP; clear hP)
        all_goals
          have hq := keep_r H1.out.1 H1.out.2.1 H1.out.2.2.1 HP.out h4.out
          have hcb := hq.inn.1.c1
          have hfb := hq.inn.1.fz 1
          have hat2 := hq.inn.2.2.1
          have d0 := hat2.c0
          have d1 := hat2.c1
          have d2 := hat2.c2
          have d3 := hat2.c3
          have HQ := hid hq
          clear hq hat2 hc hf x0 x1 hCall
          rcases l' with _ | ⟨b3, e3, l3, r3⟩ <;> rcases r' with _ | ⟨b4, e4, l4, r4⟩ <;> rcases e2 with _ | v
        all_goals simp only [Tr.ptr, Option.isSome_none, Option.isSome_some, Option.getD_none, Option.getD_some] at d0 d1 d2 d3 hcb
        all_goals have a00 := arr00
        all_goals have a01 := arr01
        all_goals have a10 := arr10
        all_goals go_wp2_with fail
        all_goals go_end0
        all_goals first | exact ⟨rfl, _, _, HQ.out⟩ | exact ⟨rfl, _, _, cut_r H1.out.1 H1.out.2.1 H1.out.2.2.1 HP.out h4.out⟩
end Go.Proofs.Ytnlmplllfgfgoaa.Ad
