/-
  THE CONTRACT OF A TABLE's Covering.
-/
import Derived.Test.YtnlmplllfgfgoaaTriG
namespace Go.Proofs.Ytnlmplllfgfgoaa.Ad
set_option linter.unusedSimpArgs false
set_option linter.unusedVariables false
open Go.RowKit Go.Shelf Am Kt Tp Tm Tr
attribute [local go_sem] Oper.semAt_some

theorem pxInfo : (Try.prog.info? 31).map (fun i => (i.zero, i.size, i.bytes)) = some (some (.agg #[.int .u32 0, .int .i64 0]), 2, 16) := by kernel_rfl
/-- The prefixes of a table that cover one. -/
def covsV (L : List En) (a : Nat) (n : Int) : List Px := if validB a n = true then (covF L (a, n.toNat)).map (·.1) else []
theorem covsV_no {L : List En} {a : Nat} {n : Int} (h : validB a n = false) : covsV L a n = [] := by unfold covsV; rw [if_neg (by rw [h]; decide)]
theorem covsV_yes {L : List En} {a : Nat} {n : Int} (h : validB a n = true) : covsV L a n = (covF L (a, n.toNat)).map (·.1) := by unfold covsV; rw [if_pos h]
def CovPost (w : World) (l : List Px) (e : Ending) (w' : World) : Prop := ∃ v, e = .returned v ∧ IsRow ePx 2 w' v l ∧ Below w.heap.size w w'

theorem path_cov_of {w : World} {tb : Nat} {T : Tr} {L : List En} (h : Tab w tb T L) {a k : Nat} (hp : OkP (a, k)) : (T.path a 0 k).map (·.1) = (covF L (a, ((k : Nat) : Int).toNat)).map (·.1) := by
  have := path_cov h.deep (a := a) (n := k) hp.2.2 hp.1
  rw [Int.toNat_natCast, ← h.ents, ← this, List.map_map]
  rfl
/-- 'append(v, x)' inside a fence: x is laid in a new block, then appended. -/
theorem app1In {F : Fence} {m : Nat} {P : Program} {ops : Array Oper} {rest : List Oper} {o : Oper} {a : Act} {Q : Exit → Act → World → Prop} (hgd : o.guard = none) (s x : Operand) (t : TypeId)
    (ho : o.op = .call { callee := .builtin .append, args := #[s, x], argTypes := #[t, t] })
    (e : TypeId) (i : TypeInfo) (y : Value) (z bytes : Nat) (ht : P.underlying t = some (.slice e)) (hi : P.info? e = some i) (hz : i.zero = some y)
    (hsize : i.size = z) (hby : i.bytes = bytes) (hzs : y.cells.size = z) (hz0 : 0 < z) (hb32 : bytes ≤ 100)
    (B : Nat) (w0 : World) (v : Value) (n : Nat) (xs news : List Value) (hs : a.eval s = v) (hown : w0.ownsRow B e z v n xs) (hB : B ≤ w0.heap.size)
    (hx : a.eval x = .slice (some ⟨w0.heap.size, 0, none⟩) 1 1) (hl : news.length = z) (h1 : ∀ u ∈ news, u.oneCell' = true) (hn : n ≤ 10000000000)
    (h : ∀ v' w', w'.ownsRow B e z v' (n + 1) (xs ++ news) → (w0.alloc (.cells news.toArray e)).grownBy w' v.ownBlock → wpListIn F m P ops Q rest (a.put o.dst v') w') :
    wpListIn F m P ops Q (o :: rest) a (w0.alloc (.cells news.toArray e)) := by
  refine wpListIn_append_own _ hgd s x t ho B e i y z bytes ht hi hz hsize hby hzs hz0 v n xs hs (hown.alloc _) ⟨w0.heap.size, 0, none⟩ 1 1 news hx (by omega) ?_ h1 (by unfold maxLen; omega) ?_ (by simp; omega) (fun v' w' a1 a2 _ => h v' w' a1 a2)
  · intro j u hj
    rw [add_lit, Nat.zero_add, World.cell?_alloc_at _ _ _ _ rfl]
    simpa using hj
  · calc (n + 1) * bytes ≤ 10000000001 * 100 := Nat.mul_le_mul (by omega) hb32
      _ ≤ 140737488355328 := by omega
/-- 'out = append(out, x)', out in a box that lies below the row's base. -/
theorem app_box {W w1 : World} {n₀ B : Nat} {t e : TypeId} {size : Nat} {v v' : Value} {k m : Nat} {xs ys : List Value} {tmp : Obj}
    (hv : Boxed W B t v) (hrow : W.ownsRow n₀ e size v k xs) (hn₀ : n₀ ≤ W.heap.size) (hB : B < n₀)
    (hown' : w1.ownsRow n₀ e size v' m ys) (hgrow : (W.alloc tmp).grownBy w1 v.ownBlock) :
    Boxed w1 B t v ∧ Boxed (w1.setCell ⟨B, 0, none⟩ v') B t v' ∧ (w1.setCell ⟨B, 0, none⟩ v').ownsRow n₀ e size v' m ys ∧ KeepsOthers W (w1.setCell ⟨B, 0, none⟩ v') ∧ Below n₀ W w1 := by
  have hb : Below n₀ W w1 := ((Below.refl n₀ W).alloc hn₀ tmp).grown hgrow (by simp; omega) (fun j ej => (hrow.lt j ej).1)
  have hv1 : Boxed w1 B t v := (hb.block B hB).trans hv
  refine ⟨hv1, hv1.set v', ownsRow_setCell_below hown' hB v', ?_, hb⟩
  refine ((KeepsOthers.alloc W tmp).trans (KeepsOthers.of_grownBy hgrow fun j o ej hj => ?_)).trans (KeepsOthers.setCell _ _ _)
  rcases (hrow.alloc tmp).2 with ⟨rfl, _⟩ | ⟨g, cap, cur, rfl, _, hgb, _⟩
  · simp [Value.ownBlock] at ej
  · obtain rfl : g = j := by simpa [Value.ownBlock] using ej
    rw [hgb] at hj; cases hj; rfl

set_option maxRecDepth 100000 in
set_option maxHeartbeats 1000000 in
theorem cover_no (tb a : Nat) (n : Int) (L : List En) (w : World) (ha : a < 4294967296) (hv : validB a n = false) :
    Calls Try.prog 16 #[pt tb, px a n] w (CovPost w (covsV L a n)) := by
  have hV := fun wx => valid a n wx ha
  rw [hv] at hV
  rw [covsV_no hv]
  clear hv
  go_enter Try.func16, Try.ntmps16
  go_wp2_with ((go_at_call 33; refine (hV _).mono ?_; rintro e w1 ⟨rfl, b1⟩))
  go_ret
  exact ⟨_, rfl, rows_nil, then_ (al1 w _) b1⟩

set_option maxRecDepth 100000 in
set_option maxHeartbeats 4000000 in
theorem cover_yes (tb a k : Nat) (T : Tr) (L : List En) (w : World) (h : Tab w tb T L) (hp : OkP (a, k)) :
    Calls Try.prog 16 #[pt tb, px a (k : Int)] w (CovPost w (covsV L a (k : Int))) := by
  have hv : validB a (k : Int) = true := by
    rw [valid_iff, cl_nat k hp.1]; exact ⟨by have := hp.1; simp only at this; omega, hp.2.1⟩
  have hV := fun wx => valid a (k : Int) wx hp.2.2
  rw [covsV_yes hv, ← path_cov_of h hp]
  rw [hv] at hV
  have hC := fun wx => covering tb a k wx
  have H := hid (And.intro h hp)
  clear h hp hv
  obtain ⟨i0, hi, hz0, hz1, hz2⟩ := info_parts pxInfo
  refine (callsIn_wide (n := 9)).1 ?_
  refine callsIn_of_wp_marks Try.func16 rfl trivial ?_ rfl
  simp only [Try.ntmps16, List.size_toArray, List.length_cons, List.length_nil, Nat.reduceAdd, Nat.reduceSub, Array.replicate_succ, Array.replicate_zero, List.push_toArray, List.append_toArray, List.nil_append, List.cons_append]
  have a0 := heap_new w (.cells #[.int .u32 (a : Int), .int .i64 (k : Int)] 31)
  have HA := hid a0
  clear a0
  gi_wp2_with (first | (refine ⟨trivial, ?_⟩; gi_at_call 33; refine (callsIn_wide.2 (hV _)).mono ?_; rintro e w1 ⟨rfl, b1⟩; have a0 := blk_keep HA.out b1; have HA1 := hid (And.intro a0 (then_ (al1 w _) b1)); have hlt1 := blk_lt a0; obtain ⟨⟨x0, x1⟩, _⟩ := blk_two a0; clear a0 b1 hV) | (refine ⟨trivial, ?_⟩; gi_at_call 31; refine (callsIn_wide.2 (hC _)).mono ?_; rintro e w2 ⟨rfl, rfl⟩))
  have e0 := pair_0 (w1.alloc (.cells #[.slice none 0 0] 40)) (.cells #[pt tb] 23) (.cells #[.int .u32 (a : Int), .int .i64 (k : Int)] 31)
  have e1 := pair_1 (w1.alloc (.cells #[.slice none 0 0] 40)) (.cells #[pt tb] 23) (.cells #[.int .u32 (a : Int), .int .i64 (k : Int)] 31)
  have bel2 := al2 (w1.alloc (.cells #[.slice none 0 0] 40)) (.cells #[pt tb] 23) (.cells #[.int .u32 (a : Int), .int .i64 (k : Int)] 31)
  have bel := then_ (al1 w1 (.cells #[.slice none 0 0] 40)) bel2
  have hsz : (((w1.alloc (.cells #[.slice none 0 0] 40)).alloc (.cells #[pt tb] 23)).alloc (.cells #[.int .u32 (a : Int), .int .i64 (k : Int)] 31)).heap.size = w1.heap.size + 3 := by simp
  have bP : Boxed (((w1.alloc (.cells #[.slice none 0 0] 40)).alloc (.cells #[pt tb] 23)).alloc (.cells #[.int .u32 (a : Int), .int .i64 (k : Int)] 31)) w1.heap.size 40 (.slice none 0 0) := blk_keep (heap_new w1 _) bel2
  rw [new_size] at e0 e1
  generalize ((w1.alloc (.cells #[.slice none 0 0] 40)).alloc (.cells #[pt tb] 23)).alloc (.cells #[.int .u32 (a : Int), .int .i64 (k : Int)] 31) = w2 at *
  have B2 := then_ HA1.out.2 bel
  clear bel bel2 HA
  have hok := H.out.2
  refine wpIn_rangeFunc_ownH rfl (by omega) (gf := 39) (lb := #[pt (w1.heap.size + 1), pt (w1.heap.size + 1 + 1)]) rfl trivial (enters_of Try.func39 (by kernel_rfl) rfl)
    (covering_stops 8 (by omega) (w1.heap.size + 1) tb a k T w hok.2.2 hok.1 H.out.1.root H.out.1.inn w2 B2 e0 e1) kq_t (kq_b (by omega) (by omega)) (Below.refl _ _) (fun _ => rfl)
    (fun pre W => ((∃ v, Boxed W w1.heap.size 40 v ∧ W.ownsRow w2.heap.size 31 2 v pre.length (fl ePx ((vals pre).map (·.1))) ∧ True) ∧ w2.heap.size ≤ W.heap.size) ∧ Below w.heap.size w W)
    (fun _ _ _ => False)
    (OwnFrom.and (OwnFrom.and (Own.from (holdsRow_own w2.heap.size w1.heap.size 40 31 2 (fun pre => pre.length) (fun pre => fl ePx ((vals pre).map (·.1))) (fun _ _ => True)) _) (fun s X Y row hs hg hr => Nat.le_trans hs hg.size)) (ownFrom_below (Nat.le_refl _) (by omega)))
    (fun _ _ _ _ _ hs _ _ => hs)
    ⟨⟨⟨_, bP, World.ownsRow_nil _ _ _ _, trivial⟩, Nat.le_refl _⟩, B2⟩
    (fun x a' W => ∃ Bx, w1.heap.size + 1 + 1 < Bx ∧ W.heap[Bx]? = some (.cells #[.int .u32 (x.1.1.1 : Int), .int .i64 (x.1.1.2 : Int)] 31 (0, 0)) ∧ a' = { tmps := #[pt tb, px a (k : Int), undef, pt w.heap.size, .slice none 0 0, pt w1.heap.size, pt Bx, px a (k : Int), .bool true, .bool false, pt tb, px a (k : Int), .func (.func 39) #[] #[pt (w1.heap.size + 1), pt (w1.heap.size + 1 + 1)], px x.1.1.1 (x.1.1.2 : Int), pt x.1.2.1, undef, undef, undef, undef, undef], defers := [] })
    (fun x a' _ X Y row hs hg hr => by
      obtain ⟨Bx, h1, h2, h3⟩ := hs
      exact ⟨Bx, h1, heap_own _ (fun (_ : Unit) => _) (fun _ => rfl) () X Y row h2 hg (fun r e => (hr r e).2), h3⟩)
    ?assign ?body ?done ?stop
  case assign =>
    rintro l pre x W K ⟨⟨⟨v, hv, hrow, _⟩, hs⟩, hB⟩ hK
    simp only [encS]
    gi_wp2
    have al := al1 W (.cells #[.int .u32 (x.1.1.1 : Int), .int .i64 (x.1.1.2 : Int)] 31)
    exact hK _ _ ((KeepsOthers.alloc _ _).from _) (kq_below al hB.size (by omega)) ⟨⟨⟨v, hv.alloc _, hrow.alloc _, trivial⟩, Nat.le_trans hs al.size⟩, then_ hB al⟩ ⟨W.heap.size, by omega, heap_new W _, rfl⟩
  case body =>
    rintro l pre x a' W hl ⟨r, hr⟩ ⟨⟨⟨v, hv, hrow, _⟩, hs⟩, hB⟩ ⟨Bx, hBx, hX, rfl⟩ hlt
    obtain ⟨⟨q0, q1⟩, _⟩ := blk_two hX
    have vc := hv.cell
    have vf := hv.frozen
    have HH := hid (And.intro hv (And.intro hrow (And.intro hs hB)))
    clear hv hrow hs hX
    gi_wp2_with ((gi_at_builtin; refine app1In rfl _ _ 40 rfl 31 i0 (.agg #[.int .u32 0, .int .i64 0]) 2 16 Try.underlying40 hi hz0 hz1 hz2 rfl (by decide) (by decide) w2.heap.size W v pre.length (fl ePx ((vals pre).map (·.1))) (ePx x.1.1) rfl HH.out.2.1 HH.out.2.2.1 rfl rfl (ePx_one _) (by omega) ?_; intro v' w5 hown' hgrow; obtain ⟨g', cap', rfl⟩ := ownsRow_succ hown'; obtain ⟨hv1, hv2, hr2, hk2, hb2⟩ := app_box HH.out.1 HH.out.2.1 HH.out.2.2.1 (by omega) hown' hgrow; have hc1 := hv1.cell; have hf1 := hv1.frozen; have H5 := hid (And.intro hv2 (And.intro hr2 (And.intro hk2 hb2))); clear hv1 hv2 hr2 hk2 hb2 hown' hgrow))
    have hb5 := H5.out.2.2.2
    refine ⟨H5.out.2.2.1.from _, ⟨(hb5.mono (by omega)).setCell (p := ⟨w1.heap.size, 0, none⟩) (by simp; omega) _, fun j h1 h2 => ?_⟩, ⟨⟨_, H5.out.1, ?_, trivial⟩, ?_⟩, HH.out.2.2.2.trans ((hb5.mono (by omega)).setCell (p := ⟨w1.heap.size, 0, none⟩) (by simp; omega) _)⟩
    · rw [Below.heap_setCell _ _ _ _ (by simp; omega), hb5.block j (by omega)]
    · have := H5.out.2.1
      rw [vals_snoc, List.map_append, fl_append]
      have e1 : (pre ++ [x]).length = pre.length + 1 := by simp
      rw [e1]
      have e2 : fl ePx (List.map (fun y : Step => y.1) [x.1]) = ePx x.1.1 := by simp [fl]
      rw [e2]
      exact this
    · have := hb5.size; have := HH.out.2.2.1; simp [World.setCell]; omega
  case done =>
    rintro D ys W hD hys ⟨⟨⟨v, hv, hrow, _⟩, hs⟩, hB⟩ hK
    rw [hys] at hrow
    have hlen : ys.length = (T.path a 0 k).length := by rw [← hys]; unfold vals; simp
    rw [hlen] at hrow
    have vc := hv.cell
    have HR := hid (And.intro hrow (And.intro hB hD))
    clear hv hrow hs hB hys hlen
    gi_wp2
    refine ⟨by simp, .inl ⟨_, _, rfl, run_takeDeferred hK, ?_⟩⟩
    refine ⟨_, results_tmp rfl _ _ _, _, rfl, ?_, HR.out.2.1.trans (belowK_b (w := w) (Nat.le_refl _) W D _ _ (by have := HR.out.2.2; omega) hK rfl rfl)⟩
    exact n_row (rows_own (ownsRow_putObj HR.out.1 _ hK rfl)) (by simp)
  case stop =>
    rintro D c pre W _ _ h _
    exact h.elim

theorem cover (tb a : Nat) (n : Int) (T : Tr) (L : List En) (w : World) (h : Tab w tb T L) (ha : a < 4294967296) :
    Calls Try.prog 16 #[pt tb, px a n] w (CovPost w (covsV L a n)) := by
  cases hv : validB a n with
  | false => exact cover_no tb a n L w ha hv
  | true =>
    obtain ⟨hok, hn⟩ := okp_valid ha hv
    have := cover_yes tb a n.toNat T L w h hok
    rwa [← hn] at this
end Go.Proofs.Ytnlmplllfgfgoaa.Ad
