/-
  THE CONTRACTS OF A TABLE's find, Get.
-/
import Derived.Test.YtnlmplllfgfgoaaTriD
namespace Go.Proofs.Ytnlmplllfgfgoaa.Ad
set_option linter.unusedSimpArgs false
set_option linter.unusedVariables false
open Go.RowKit Go.Shelf Am Kt Tp Tm Tr
attribute [local go_sem] Oper.semAt_some

theorem covering_stops (n : Nat) (hn : 2 ≤ n) (B tb a m : Nat) (T : Tr) (w0 : World) (ha : a < 4294967296) (hm : m ≤ 32) (hroot : ∃ e l r, T = .node tb e l r) (hi0 : In w0 T)
    (w : World) (hbel : Below w0.heap.size w0 w) (hb0 : w.heap[B]? = some (.cells #[pt tb] 23 (0, 0))) (hb1 : w.heap[B + 1]? = some (.cells #[.int .u32 (a : Int), .int .i64 (m : Int)] 31 (0, 0))) :
    SeqStopsK Fence.wide n Try.prog 39 #[pt B, pt (B + 1)] (encS (w := w0) (n₁ := w0.heap.size)) (Kq w0.heap.size B) (fun ys => vals ys = T.path a 0 m) (fun pre => vals pre <+: T.path a 0 m) 100 w :=
  fun l J Jx W hW hJ _ hY h0 => covering1 n hn l B w0.heap.size tb a m T w0 ha hm hroot hi0 hi0.lt J Jx W hJ hY W rfl (Nat.le_trans hbel.size hW.size) (hbel.trans (hW.mono hbel.size)) (blk_keep hb0 hW) (blk_keep hb1 hW) h0

/-- 'THE BLOCK HOLDS f s' SPEAKS OF CELLS ALONE. -/
theorem heap_own {β : Type} (B : Nat) (f : β → Obj) (hc : ∀ s, (f s).isCells = true) : Own (fun s W => W.heap[B]? = some (f s)) := fun s X Y row hs hg hrow =>
  (hg.block B (Array.getElem?_eq_some_iff.1 hs).1 (fun e' => by obtain ⟨o, ho, hcc⟩ := hrow B e'.symm; rw [hs] at ho; cases ho; rw [hc s] at hcc; cases hcc)).trans hs

theorem pair_0 (w : World) (o o' : Obj) : ((w.alloc o).alloc o').heap[w.heap.size]? = some o := by rw [Below.heap_alloc _ _ _ (by simp), heap_new]
theorem pair_1 (w : World) (o o' : Obj) : ((w.alloc o).alloc o').heap[w.heap.size + 1]? = some o' := by
  have h := heap_new (w.alloc o) o'
  rwa [new_size] at h

/-- The node that find hands back. -/
def findV (T : Tr) (a n : Nat) : Value := match T.sub a 0 n with | .node b (some _) _ _ => pt b | _ => .pointer none
theorem findV_some {T : Tr} {a n b : Nat} {v : Int} {l r : Tr} (h : T.sub a 0 n = .node b (some v) l r) : findV T a n = pt b := by unfold findV; rw [h]
theorem findV_none {T : Tr} {a n : Nat} (h : ∀ b v l r, T.sub a 0 n ≠ .node b (some v) l r) : findV T a n = .pointer none := by
  unfold findV
  split
  · rename_i b v l r hh; exact absurd hh (h b v l r)
  · rfl

set_option maxRecDepth 100000 in
set_option maxHeartbeats 4000000 in
theorem find (tb a k : Nat) (T : Tr) (L : List En) (w : World) (h : Tab w tb T L) (hp : OkP (a, k)) :
    Calls Try.prog 28 #[pt tb, px a (k : Int)] w fun e w' => e = .returned (findV T a k) ∧ Below w.heap.size w w' := by
  have hv : validB a (k : Int) = true := by
    rw [valid_iff, cl_nat k hp.1]; exact ⟨by have := hp.1; simp only at this; omega, hp.2.1⟩
  have hV := fun wx => valid a (k : Int) wx hp.2.2
  rw [hv] at hV
  have hC := fun wx => covering tb a k wx
  have H := hid (And.intro h hp)
  clear h hp hv
  refine (callsIn_wide (n := 9)).1 ?_
  refine callsIn_of_wp_marks Try.func28 rfl trivial ?_ rfl
  simp only [Try.ntmps28, List.size_toArray, List.length_cons, List.length_nil, Nat.reduceAdd, Nat.reduceSub, Array.replicate_succ, Array.replicate_zero, List.push_toArray, List.append_toArray, List.nil_append, List.cons_append]
  have a0 := pair_0 w (.cells #[.int .u32 (a : Int), .int .i64 (k : Int)] 31) (.cells #[.pointer none] 57)
  have a1 := pair_1 w (.cells #[.int .u32 (a : Int), .int .i64 (k : Int)] 31) (.cells #[.pointer none] 57)
  have HA := hid (And.intro a0 a1)
  clear a0 a1
  gi_wp2_with (first | (refine ⟨trivial, ?_⟩; gi_at_call 33; refine (callsIn_wide.2 (hV _)).mono ?_; rintro e w1 ⟨rfl, b1⟩; have a0 := blk_keep HA.out.1 b1; have HA1 := hid (And.intro a0 (And.intro (blk_keep HA.out.2 b1) (then_ (al2 w _ _) b1))); obtain ⟨⟨x0, x1⟩, _⟩ := blk_two a0; clear a0 b1 hV) | (refine ⟨trivial, ?_⟩; gi_at_call 31; refine (callsIn_wide.2 (hC _)).mono ?_; rintro e w2 ⟨rfl, rfl⟩))
  have e0 := pair_0 w1 (.cells #[pt tb] 23) (.cells #[.int .u32 (a : Int), .int .i64 (k : Int)] 31)
  have e1 := pair_1 w1 (.cells #[pt tb] 23) (.cells #[.int .u32 (a : Int), .int .i64 (k : Int)] 31)
  have bel := al2 w1 (.cells #[pt tb] 23) (.cells #[.int .u32 (a : Int), .int .i64 (k : Int)] 31)
  have hsz : ((w1.alloc (.cells #[pt tb] 23)).alloc (.cells #[.int .u32 (a : Int), .int .i64 (k : Int)] 31)).heap.size = w1.heap.size + 2 := by simp
  generalize (w1.alloc (.cells #[pt tb] 23)).alloc (.cells #[.int .u32 (a : Int), .int .i64 (k : Int)] 31) = w2 at *
  have a0 := blk_keep HA1.out.1 bel
  have a1 := blk_keep HA1.out.2.1 bel
  have B2 := then_ HA1.out.2.2 bel
  have hs1 : w.heap.size + 2 ≤ w1.heap.size := by have := blk_lt HA1.out.2.1; omega
  clear bel HA
  have hok := H.out.2
  refine wpIn_rangeFunc_ownH rfl (by omega) (gf := 39) (lb := #[pt w1.heap.size, pt (w1.heap.size + 1)]) rfl trivial (enters_of Try.func39 (by kernel_rfl) rfl)
    (covering_stops 8 (by omega) w1.heap.size tb a k T w hok.2.2 hok.1 H.out.1.root H.out.1.inn w2 B2 e0 e1) kq_t (kq_b (by omega) (by omega)) (Below.refl _ _) (fun _ => rfl)
    (fun pre W => ((∀ x ∈ pre, x.1.1 ≠ (a, k)) ∧ W.heap[w.heap.size]? = some (.cells #[.int .u32 (a : Int), .int .i64 (k : Int)] 31 (0, 0)) ∧ W.heap[w.heap.size + 1]? = some (.cells #[.pointer none] 57 (0, 0)) ∧ w2.heap.size ≤ W.heap.size) ∧ Below w.heap.size w W)
    (fun c pre W => (c = .ret ∧ ∃ pre' x, pre = pre' ++ [x] ∧ x.1.1 = (a, k) ∧ W.heap[w.heap.size + 1]? = some (.cells #[pt x.1.2.1] 57 (0, 0))) ∧ Below w.heap.size w W)
    (OwnFrom.and (Own.from (fun s X Y row hs hg hr => ⟨hs.1, heap_own _ (fun (_ : Unit) => _) (fun _ => rfl) () X Y row hs.2.1 hg hr, heap_own _ (fun (_ : Unit) => _) (fun _ => rfl) () X Y row hs.2.2.1 hg hr, Nat.le_trans hs.2.2.2 hg.size⟩) _) (ownFrom_below (Nat.le_refl _) (by omega)))
    (fun c => OwnFrom.and (Own.from (fun s X Y row hs hg hr => by
      obtain ⟨h1, pre', x, h2, h3, h4⟩ := hs
      exact ⟨h1, pre', x, h2, h3, heap_own _ (fun (_ : Unit) => _) (fun _ => rfl) () X Y row h4 hg hr⟩) _) (ownFrom_below (Nat.le_refl _) (by omega)))
    ⟨⟨by simp, a0, a1, Nat.le_refl _⟩, B2⟩
    (fun x a' W => ∃ Bx, w1.heap.size + 1 < Bx ∧ W.heap[Bx]? = some (.cells #[.int .u32 (x.1.1.1 : Int), .int .i64 (x.1.1.2 : Int)] 31 (0, 0)) ∧ a' = { tmps := #[pt tb, px a (k : Int), undef, pt w.heap.size, pt (w.heap.size + 1), pt Bx, pt x.1.2.1, px a (k : Int), .bool true, .bool false, pt tb, px a (k : Int), .func (.func 39) #[] #[pt w1.heap.size, pt (w1.heap.size + 1)], px x.1.1.1 (x.1.1.2 : Int), pt x.1.2.1, undef, undef, undef, undef], defers := [] })
    (fun x a' _ X Y row hs hg hr => by
      obtain ⟨Bx, h1, h2, h3⟩ := hs
      exact ⟨Bx, h1, heap_own _ (fun (_ : Unit) => _) (fun _ => rfl) () X Y row h2 hg (fun r e => (hr r e).2), h3⟩)
    ?assign ?body ?done ?stop
  case assign =>
    rintro l pre x W K ⟨⟨h1, h2, h3, hs⟩, hB⟩ hK
    simp only [encS]
    gi_wp2
    have al := al1 W (.cells #[.int .u32 (x.1.1.1 : Int), .int .i64 (x.1.1.2 : Int)] 31)
    exact hK _ _ ((KeepsOthers.alloc _ _).from _) (kq_below al hB.size (by omega)) ⟨⟨h1, blk_keep h2 al, blk_keep h3 al, Nat.le_trans hs al.size⟩, then_ hB al⟩ ⟨W.heap.size, by omega, heap_new W _, rfl⟩
  case body =>
    rintro l pre ⟨⟨⟨q, m⟩, b, v⟩, hxx⟩ a' W hl ⟨r, hr⟩ ⟨⟨h1, h2, h3, hs⟩, hB⟩ ⟨Bx, hBx, hX, rfl⟩ hlt
    simp only at hX ⊢
    obtain ⟨⟨p0, p1⟩, _⟩ := blk_two h2
    obtain ⟨⟨q0, q1⟩, _⟩ := blk_two hX
    have r0 := blk_cell h3 0
    have r1 := blk_frozen h3 0
    simp at r0
    have HH := hid (And.intro h1 (And.intro h2 (And.intro h3 (And.intro hs hB))))
    clear h1 h2 h3 hs hX
    have goes : (q, m) ≠ (a, k) → (∀ x ∈ pre ++ [(⟨((q, m), b, v), hxx⟩ : StepOf w w.heap.size)], x.1.1 ≠ (a, k)) := fun hne x hx => by
      rcases List.mem_append.1 hx with hx | hx
      · exact HH.out.1 x hx
      · simp at hx; subst hx; exact hne
    have HG := hid goes
    clear goes
    by_cases hq : q = a
    · by_cases hm : m = k
      · subst hq hm
        gi_wp2
        have hset : (W.setCell ⟨w.heap.size + 1, 0, none⟩ (pt b)).heap[w.heap.size + 1]? = some (.cells #[pt b] 57 (0, 0)) := heap_setCell_same W _ 0 _ _ _ HH.out.2.2.1
        exact ⟨(KeepsOthers.setCell _ _ _).from _, ⟨rfl, pre, _, rfl, rfl, hset⟩, HH.out.2.2.2.2.setCell (p := ⟨w.heap.size + 1, 0, none⟩) (by simp) _⟩
      · have hm' : ((m : Int) == (k : Int)) = false := by simp; omega
        subst hq
        gi_wp2
        exact ⟨KeepsFrom.refl _ _, kq_refl _ _ _, ⟨HG.out (fun e => hm (Prod.mk.inj e).2), HH.out.2.1, HH.out.2.2.1, HH.out.2.2.2.1⟩, HH.out.2.2.2.2⟩
    · have hq' : ((q : Int) == (a : Int)) = false := by simp; omega
      gi_wp2
      exact ⟨KeepsFrom.refl _ _, kq_refl _ _ _, ⟨HG.out (fun e => hq (Prod.mk.inj e).1), HH.out.2.1, HH.out.2.2.1, HH.out.2.2.2.1⟩, HH.out.2.2.2.2⟩
  case done =>
    rintro D ys W hD hys ⟨⟨h1, h2, h3, hs⟩, hB⟩ hK
    have r0 := blk_cell h3 0
    have r1 := blk_frozen h3 0
    simp at r0
    have hnone : findV T a k = .pointer none := findV_none fun b v l r hh => by
      have hm : (((a, k), b, v) : Step) ∈ T.path a 0 k := (path_self hok).2 ⟨rfl, l, r, hh⟩ |>.1
      rw [← hys] at hm
      unfold vals at hm
      obtain ⟨x, hx, he⟩ := List.mem_map.1 hm
      exact h1 x hx (by rw [he])
    have HNone := hid hnone
    clear hnone h1
    gi_wp2
    have hK' := (KeepsOthers.setCell W ⟨w.heap.size + 1, 0, none⟩ (.pointer none)).same D _ hK rfl
    refine ⟨by simp, .inl ⟨_, _, rfl, run_takeDeferred hK', ?_⟩⟩
    have hc5 := cell_kept (sc_same (v := .pointer none) r0) (grownBy_putObj' _ D (.deferred none)) (fun r e => by cases e; exact ⟨_, hK', rfl⟩)
    refine ⟨.pointer none, ?_, by rw [HNone.out], (hB.setCell (p := ⟨w.heap.size + 1, 0, none⟩) (by simp) _).trans (belowK_b (w := w) (Nat.le_refl _) _ D _ _ (by omega) hK' rfl rfl)⟩
    simp [results, Try.f28, go_sem, hc5]
  case stop =>
    rintro D c pre W hD hpre ⟨⟨rfl, pre', x, rfl, hx, hres⟩, hB⟩ hK
    have hmem : x.1 ∈ T.path a 0 k := hpre.subset (by rw [vals_snoc]; simp)
    obtain ⟨_, l', r', hsub⟩ := (path_self hok).1 ⟨hmem, hx⟩
    have HS := hid (findV_some hsub)
    have r0 := blk_cell hres 0
    simp at r0
    clear hmem hsub hpre hres
    gi_wp2
    refine ⟨by simp, .inl ⟨_, _, rfl, run_takeDeferred hK, ?_⟩⟩
    have hc5 := cell_kept r0 (grownBy_putObj' _ D (.deferred none)) (fun r e => by cases e; exact ⟨_, hK, rfl⟩)
    refine ⟨pt x.1.2.1, ?_, by rw [HS.out], hB.trans (belowK_b (w := w) (Nat.le_refl _) W D _ _ (by omega) hK rfl rfl)⟩
    simp [results, Try.f28, go_sem, hc5]

set_option maxRecDepth 100000 in
set_option maxHeartbeats 1000000 in
theorem find_no (tb a : Nat) (n : Int) (w : World) (ha : a < 4294967296) (hv : validB a n = false) :
    Calls Try.prog 28 #[pt tb, px a n] w fun e w' => e = .returned (.pointer none) ∧ Below w.heap.size w w' := by
  have hV := fun wx => valid a n wx ha
  rw [hv] at hV
  clear hv
  have a0 := pair_0 w (.cells #[.int .u32 (a : Int), .int .i64 n] 31) (.cells #[.pointer none] 57)
  have a1 := pair_1 w (.cells #[.int .u32 (a : Int), .int .i64 n] 31) (.cells #[.pointer none] 57)
  have HA := hid (And.intro a0 a1)
  clear a0 a1
  go_enter Try.func28, Try.ntmps28
  go_wp2_with ((go_at_call 33; refine (hV _).mono ?_; rintro e w1 ⟨rfl, b1⟩; have a0 := blk_keep HA.out.1 b1; have a1 := blk_keep HA.out.2 b1; have HA1 := hid (And.intro a1 (then_ (al2 w _ _) b1)); have r0 := blk_cell a1 0; have r1 := blk_frozen a1 0; simp at r0; clear a0 a1 b1 hV))
  have hc5 := sc_same (v := .pointer none) r0
  refine bodyPost_ret (by simp [results, Try.results28, go_sem, hc5]; rfl) rfl ?_
  exact ⟨rfl, HA1.out.2.setCell (p := ⟨w.heap.size + 1, 0, none⟩) (by simp) _⟩
end Go.Proofs.Ytnlmplllfgfgoaa.Ad
