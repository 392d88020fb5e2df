/-
  THE CONTRACT OF A TABLE's Lookup.
-/
import Derived.Test.YtnlmplllfgfgoaaTriF
namespace Go.Proofs.Ytnlmplllfgfgoaa.Ad
set_option linter.unusedSimpArgs false
set_option linter.unusedVariables false
open Go.RowKit Go.Shelf Am Kt Tp Tm Tr
attribute [local go_sem] Oper.semAt_some

theorem net_32 (a : Nat) : net a 32 = a := by
  unfold net
  have : blk (cl 32) = 1 := by decide
  rw [this]; simp
/-- The last step, as Lookup keeps it. -/
def stL (l : List Step) : En × Bool := match l.getLast? with | some x => (asEn x, true) | none => (((0, 0), 0), false)
theorem stL_nil : stL [] = (((0, 0), 0), false) := rfl
theorem stL_snoc (l : List Step) (x : Step) : stL (l ++ [x]) = (asEn x, true) := by unfold stL; simp
def lookV (L : List En) (a : Nat) : Option En := (conF L a).getLast?
theorem stL_look {T : Tr} (h : T.deep 33) {a : Nat} (ha : a < 4294967296) : stL (T.path a 0 32) = ((lookV (T.ents 0 0) a).getD ((0, 0), 0), (lookV (T.ents 0 0) a).isSome) := by
  unfold lookV
  rw [con_cov (root_oks h), ← path_cov h ha (Nat.le_refl 32), List.getLast?_map]
  unfold stL
  cases (T.path a 0 32).getLast? with
  | none => rfl
  | some x => rfl
def LookPost (w : World) (o : Option En) (e : Ending) (w' : World) : Prop :=
  e = .returned (.tuple #[px (o.getD ((0, 0), 0)).1.1 ((o.getD ((0, 0), 0)).1.2 : Int), .int .i64 (o.getD ((0, 0), 0)).2, .bool o.isSome]) ∧ Below w.heap.size w w'
def four (w : World) (o o1 o2 o3 : Obj) : World := (((w.alloc o).alloc o1).alloc o2).alloc o3
theorem four_size (w : World) (o o1 o2 o3 : Obj) : (four w o o1 o2 o3).heap.size = w.heap.size + 4 := by unfold four; simp
theorem four_below (w : World) (o o1 o2 o3 : Obj) : Below w.heap.size w (four w o o1 o2 o3) := then_ (al3 w o o1 o2) (al1 _ o3)
theorem four_at (w : World) (o o1 o2 o3 : Obj) : (four w o o1 o2 o3).heap[w.heap.size]? = some o ∧ (four w o o1 o2 o3).heap[w.heap.size + 1]? = some o1 ∧ (four w o o1 o2 o3).heap[w.heap.size + 1 + 1]? = some o2 ∧ (four w o o1 o2 o3).heap[w.heap.size + 1 + 1 + 1]? = some o3 := by
  have h0 := pair_0 w o o1
  have h1 := pair_1 w o o1
  have k0 := pair_0 ((w.alloc o).alloc o1) o2 o3
  have k1 := pair_1 ((w.alloc o).alloc o1) o2 o3
  have b := al2 ((w.alloc o).alloc o1) o2 o3
  have hs : ((w.alloc o).alloc o1).heap.size = w.heap.size + 2 := by simp
  rw [hs] at k0 k1
  exact ⟨blk_keep h0 b, blk_keep h1 b, k0, k1⟩

/-- Lookup's boxes while the loop runs. -/
structure LBox (w W : World) (s : En × Bool) : Prop where
  res : W.heap[w.heap.size]? = some (.cells #[.int .u32 0, .int .i64 0] 31 (0, 0))
  lon : W.heap[w.heap.size + 1]? = some (.cells #[.int .u32 (s.1.1.1 : Int), .int .i64 (s.1.1.2 : Int)] 31 (0, 0))
  val : W.heap[w.heap.size + 1 + 1]? = some (.cells #[.int .i64 s.1.2] 3 (0, 0))
  fnd : W.heap[w.heap.size + 1 + 1 + 1]? = some (.cells #[.bool s.2] 4 (0, 0))
theorem LBox.own {β : Type} (w : World) (f : β → En × Bool) : Own (fun s W => LBox w W (f s)) := fun s X Y row hs hg hr =>
  ⟨heap_own _ (fun (_ : Unit) => _) (fun _ => rfl) () X Y row hs.res hg hr, heap_own _ (fun (_ : Unit) => _) (fun _ => rfl) () X Y row hs.lon hg hr, heap_own _ (fun (_ : Unit) => _) (fun _ => rfl) () X Y row hs.val hg hr, heap_own _ (fun (_ : Unit) => _) (fun _ => rfl) () X Y row hs.fnd hg hr⟩
theorem LBox.keep {w W W' : World} {s : En × Bool} (h : LBox w W s) (k : Below W.heap.size W W') : LBox w W' s := ⟨blk_keep h.res k, blk_keep h.lon k, blk_keep h.val k, blk_keep h.fnd k⟩

theorem two_set {w : World} {g : Nat} {x y x' y' : Value} {T : TypeId} (h : w.heap[g]? = some (.cells #[x, y] T (0, 0))) : ((w.setCell ⟨g, 0, none⟩ x').setCell ⟨g, 1, none⟩ y').heap[g]? = some (.cells #[x', y'] T (0, 0)) := by
  have h1 := heap_setCell_same w g 0 _ _ x' h
  have h2 := heap_setCell_same _ g 1 _ _ y' h1
  rw [h2]; rfl
/-- What a round of Lookup leaves. -/
def lookW (w W : World) (q m : Nat) (v : Int) : World :=
  ((((W.setCell ⟨w.heap.size + 1, 0, none⟩ (.int .u32 (q : Int))).setCell ⟨w.heap.size + 1, 1, none⟩ (.int .i64 (m : Int))).setCell ⟨w.heap.size + 1 + 1, 0, none⟩ (.int .i64 v)).setCell ⟨w.heap.size + 1 + 1 + 1, 0, none⟩ (.bool true)).drew
theorem lookW_box {w W : World} {s : En × Bool} (h : LBox w W s) (q m : Nat) (v : Int) : LBox w (lookW w W q m v) (((q, m), v), true) := by
  have f : ∀ (V : World) (p : Addr) (u : Value) (k : Nat) (o : Obj), k ≠ p.block → V.heap[k]? = some o → (V.setCell p u).heap[k]? = some o := fun V p u k o hk ho => (Below.heap_setCell V p u k hk).trans ho
  have g : ∀ V : World, ∀ k : Nat, V.drew.heap[k]? = V.heap[k]? := fun _ _ => rfl
  refine ⟨?_, ?_, ?_, ?_⟩
  · unfold lookW; rw [g]
    exact f _ _ _ _ _ (by simp; omega) (f _ _ _ _ _ (by simp; omega) (f _ _ _ _ _ (by simp) (f _ _ _ _ _ (by simp) h.res)))
  · unfold lookW; rw [g]
    refine f _ _ _ _ _ (by simp) (f _ _ _ _ _ (by simp) ?_)
    have h1 := heap_setCell_same W (w.heap.size + 1) 0 _ _ (.int .u32 (q : Int)) h.lon
    have h2 := heap_setCell_same _ (w.heap.size + 1) 1 _ _ (.int .i64 (m : Int)) h1
    rw [h2]; rfl
  · unfold lookW; rw [g]
    refine f _ _ _ _ _ (by simp) ?_
    have h1 := heap_setCell_same _ (w.heap.size + 1 + 1) 0 _ _ (.int .i64 v) (f _ ⟨w.heap.size + 1, 1, none⟩ (.int .i64 (m : Int)) _ _ (by simp) (f W ⟨w.heap.size + 1, 0, none⟩ (.int .u32 (q : Int)) _ _ (by simp) h.val))
    rw [h1]; rfl
  · unfold lookW; rw [g]
    have h1 := heap_setCell_same _ (w.heap.size + 1 + 1 + 1) 0 _ _ (.bool true) (f _ ⟨w.heap.size + 1 + 1, 0, none⟩ (.int .i64 v) _ _ (by simp) (f _ ⟨w.heap.size + 1, 1, none⟩ (.int .i64 (m : Int)) _ _ (by simp; omega) (f W ⟨w.heap.size + 1, 0, none⟩ (.int .u32 (q : Int)) _ _ (by simp; omega) h.fnd)))
    rw [h1]; rfl
theorem lookW_below (w W : World) (q m : Nat) (v : Int) : Below w.heap.size W (lookW w W q m v) :=
  (((((Below.refl _ W).setCell (p := ⟨w.heap.size + 1, 0, none⟩) (by simp) _).setCell (p := ⟨w.heap.size + 1, 1, none⟩) (by simp) _).setCell (p := ⟨w.heap.size + 1 + 1, 0, none⟩) (by simp; omega) _).setCell (p := ⟨w.heap.size + 1 + 1 + 1, 0, none⟩) (by simp; omega) _).drew
theorem lookW_far (w W : World) (q m : Nat) (v : Int) (k : Nat) (hk : w.heap.size + 4 ≤ k) : (lookW w W q m v).heap[k]? = W.heap[k]? := by
  unfold lookW
  show ((((W.setCell _ _).setCell _ _).setCell _ _).setCell _ _).heap[k]? = _
  rw [Below.heap_setCell _ _ _ _ (by simp; omega), Below.heap_setCell _ _ _ _ (by simp; omega), Below.heap_setCell _ _ _ _ (by simp; omega), Below.heap_setCell _ _ _ _ (by simp; omega)]
theorem lookW_others (w W : World) (q m : Nat) (v : Int) : KeepsOthers W (lookW w W q m v) :=
  ((((KeepsOthers.setCell W _ _).trans (KeepsOthers.setCell _ _ _)).trans (KeepsOthers.setCell _ _ _)).trans (KeepsOthers.setCell _ _ _)).trans (KeepsOthers.drew _)

set_option maxRecDepth 100000 in
set_option maxHeartbeats 4000000 in
theorem lookup (tb a : Nat) (T : Tr) (L : List En) (w : World) (h : Tab w tb T L) (ha : a < 4294967296) :
    Calls Try.prog 13 #[pt tb, .int .u32 (a : Int)] w (LookPost w (lookV L a)) := by
  have hN : ∀ wx, Calls Try.prog 32 #[.int .u32 (a : Int), .int .i64 32] wx fun e w' => e = .returned (px a 32) ∧ Below wx.heap.size wx w' := fun wx => by
    have := network a 32 wx ha
    rw [net_32] at this
    exact this
  have hC : ∀ wx, Calls Try.prog 31 #[pt tb, px a 32] wx fun e w' => e = .returned (.func (.func 39) #[] #[pt wx.heap.size, pt (wx.heap.size + 1)]) ∧
      w' = (wx.alloc (.cells #[pt tb] 23)).alloc (.cells #[.int .u32 (a : Int), .int .i64 32] 31) := fun wx => covering tb a 32 wx
  have hst := stL_look h.deep ha
  rw [h.ents] at hst
  have H := hid (And.intro h hst)
  clear h hst
  have A4 := four_at w (.cells #[.int .u32 0, .int .i64 0] 31) (.cells #[.int .u32 0, .int .i64 0] 31) (.cells #[.int .i64 0] 3) (.cells #[.bool false] 4)
  have B4 := four_below w (.cells #[.int .u32 0, .int .i64 0] 31) (.cells #[.int .u32 0, .int .i64 0] 31) (.cells #[.int .i64 0] 3) (.cells #[.bool false] 4)
  have HA := hid (And.intro A4 B4)
  clear A4 B4
  refine (callsIn_wide (n := 9)).1 ?_
  refine callsIn_of_wp_marks Try.func13 rfl trivial ?_ rfl
  simp only [Try.ntmps13, List.size_toArray, List.length_cons, List.length_nil, Nat.reduceAdd, Nat.reduceSub, Array.replicate_succ, Array.replicate_zero, List.push_toArray, List.append_toArray, List.nil_append, List.cons_append]
  gi_wp2_with (first | (refine ⟨trivial, ?_⟩; gi_at_call 32; refine (callsIn_wide.2 (hN _)).mono ?_; rintro e w1 ⟨rfl, b1⟩; have HA1 := hid (And.intro (And.intro (blk_keep HA.out.1.1 b1) (And.intro (blk_keep HA.out.1.2.1 b1) (And.intro (blk_keep HA.out.1.2.2.1 b1) (blk_keep HA.out.1.2.2.2 b1)))) (then_ HA.out.2 b1)); clear b1 hN) | (refine ⟨trivial, ?_⟩; gi_at_call 31; refine (callsIn_wide.2 (hC _)).mono ?_; rintro e w2 ⟨rfl, rfl⟩))
  have e0 := pair_0 w1 (.cells #[pt tb] 23) (.cells #[.int .u32 (a : Int), .int .i64 32] 31)
  have e1 := pair_1 w1 (.cells #[pt tb] 23) (.cells #[.int .u32 (a : Int), .int .i64 32] 31)
  have bel := al2 w1 (.cells #[pt tb] 23) (.cells #[.int .u32 (a : Int), .int .i64 32] 31)
  have hsz : ((w1.alloc (.cells #[pt tb] 23)).alloc (.cells #[.int .u32 (a : Int), .int .i64 32] 31)).heap.size = w1.heap.size + 2 := by simp
  generalize (w1.alloc (.cells #[pt tb] 23)).alloc (.cells #[.int .u32 (a : Int), .int .i64 32] 31) = w2 at *
  have A2 : LBox w w2 (((0, 0), 0), false) := ⟨blk_keep HA1.out.1.1 bel, blk_keep HA1.out.1.2.1 bel, blk_keep HA1.out.1.2.2.1 bel, blk_keep HA1.out.1.2.2.2 bel⟩
  have B2 := then_ HA1.out.2 bel
  have hs1 : w.heap.size + 4 ≤ w1.heap.size := by have := blk_lt HA1.out.1.2.2.2; omega
  clear bel HA
  refine wpIn_rangeFunc_ownH rfl (by omega) (gf := 39) (lb := #[pt w1.heap.size, pt (w1.heap.size + 1)]) rfl trivial (enters_of Try.func39 (by kernel_rfl) rfl)
    (covering_stops 8 (by omega) w1.heap.size tb a 32 T w ha (by omega) H.out.1.root H.out.1.inn w2 B2 e0 e1) kq_t (kq_b (by omega) (by omega)) (Below.refl _ _) (fun _ => rfl)
    (fun pre W => (LBox w W (stL (vals pre)) ∧ w2.heap.size ≤ W.heap.size) ∧ Below w.heap.size w W)
    (fun _ _ _ => False)
    (OwnFrom.and (Own.from (fun s X Y row hs hg hr => ⟨LBox.own w (fun s => stL (vals s)) s X Y row hs.1 hg hr, Nat.le_trans hs.2 hg.size⟩) _) (ownFrom_below (Nat.le_refl _) (by omega)))
    (fun _ _ _ _ _ hs _ _ => hs)
    ⟨⟨A2, Nat.le_refl _⟩, B2⟩
    (fun x a' W => ∃ Bx, w1.heap.size + 1 < Bx ∧ W.heap[Bx]? = some (.cells #[.int .u32 (x.1.1.1 : Int), .int .i64 (x.1.1.2 : Int)] 31 (0, 0)) ∧ a' = { tmps := #[pt tb, .int .u32 (a : Int), undef, undef, pt w.heap.size, .int .i64 0, .bool false, pt (w.heap.size + 1), pt (w.heap.size + 1 + 1), pt (w.heap.size + 1 + 1 + 1), pt Bx, pt x.1.2.1, pt tb, .int .u32 (a : Int), px a 32, .func (.func 39) #[] #[pt w1.heap.size, pt (w1.heap.size + 1)], px x.1.1.1 (x.1.1.2 : Int), pt x.1.2.1, undef, undef, undef, undef, undef, undef, undef, undef], defers := [] })
    (fun x a' _ X Y row hs hg hr => by
      obtain ⟨Bx, h1, h2, h3⟩ := hs
      exact ⟨Bx, h1, heap_own _ (fun (_ : Unit) => _) (fun _ => rfl) () X Y row h2 hg (fun r e => (hr r e).2), h3⟩)
    ?assign ?body ?done ?stop
  case assign =>
    rintro l pre x W K ⟨⟨h1, hs⟩, hB⟩ hK
    simp only [encS]
    gi_wp2
    have al := al1 W (.cells #[.int .u32 (x.1.1.1 : Int), .int .i64 (x.1.1.2 : Int)] 31)
    exact hK _ _ ((KeepsOthers.alloc _ _).from _) (kq_below al hB.size (by omega)) ⟨⟨h1.keep al, Nat.le_trans hs al.size⟩, then_ hB al⟩ ⟨W.heap.size, by omega, heap_new W _, rfl⟩
  case body =>
    rintro l pre x a' W hl ⟨r, hr⟩ ⟨⟨hbox, hs⟩, hB⟩ ⟨Bx, hBx, hX, rfl⟩ hlt
    obtain ⟨⟨q0, q1⟩, _⟩ := blk_two hX
    have hxx := x.2
    have v3 := (hB.cell (p := ⟨x.1.2.1, 3, none⟩) hxx.1).trans hxx.2.1
    obtain ⟨⟨l0, l1⟩, lf0, lf1⟩ := blk_two hbox.lon
    have vc := blk_cell hbox.val 0
    have vf := blk_frozen hbox.val 0
    have fc := blk_cell hbox.fnd 0
    have ff := blk_frozen hbox.fnd 0
    simp at vc fc
    have HH := hid (And.intro hbox (And.intro hs hB))
    clear hbox hs hX hxx
    have hfol : Try.prog.follows .mixedOrders = true := by kernel_rfl
    gi_wp2
    gi_region_with_o (fail)
    all_goals
      gi_wp2
      exact ⟨(lookW_others w W x.1.1.1 x.1.1.2 x.1.2.2).from _, ⟨lookW_below w W x.1.1.1 x.1.1.2 x.1.2.2, fun k h1 h2 => lookW_far w W x.1.1.1 x.1.1.2 x.1.2.2 k (by omega)⟩,
        ⟨by rw [vals_snoc, stL_snoc]; exact lookW_box HH.out.1 x.1.1.1 x.1.1.2 x.1.2.2, Nat.le_trans HH.out.2.1 (lookW_below w W x.1.1.1 x.1.1.2 x.1.2.2).size⟩, HH.out.2.2.trans (lookW_below w W x.1.1.1 x.1.1.2 x.1.2.2)⟩
  case done =>
    rintro D ys W hD hys ⟨⟨hbox, hs⟩, hB⟩ hK
    rw [hys, H.out.2] at hbox
    obtain ⟨⟨l0, l1⟩, _⟩ := blk_two hbox.lon
    obtain ⟨⟨r0, r1⟩, rf0, rf1⟩ := blk_two hbox.res
    have vc := blk_cell hbox.val 0
    have fc := blk_cell hbox.fnd 0
    simp at vc fc
    have HB := hid (And.intro hbox.res (And.intro hB hD))
    have HK := hid hK
    clear hbox hs hB hys hK hC
    obtain ⟨o, ho⟩ : ∃ o, o = (lookV L a).getD ((0, 0), 0) := ⟨_, rfl⟩
    obtain ⟨f, hf⟩ : ∃ f, f = (lookV L a).isSome := ⟨_, rfl⟩
    have HO := hid (And.intro ho hf)
    rw [← ho] at l0 l1 vc
    rw [← hf] at fc
    clear ho hf
    gi_wp2
    gi_region
    gi_wp2
    have hK' := (((KeepsOthers.setCell W ⟨w.heap.size, 0, none⟩ (.int .u32 (o.1.1 : Int))).trans (KeepsOthers.setCell _ ⟨w.heap.size, 1, none⟩ (.int .i64 (o.1.2 : Int)))).trans (KeepsOthers.drew _)).same D _ HK.out rfl
    have hres := two_set (x' := .int .u32 (o.1.1 : Int)) (y' := .int .i64 (o.1.2 : Int)) HB.out.1
    have hB2 := ((HB.out.2.1.setCell (p := ⟨w.heap.size, 0, none⟩) (by simp) (.int .u32 (o.1.1 : Int))).setCell (p := ⟨w.heap.size, 1, none⟩) (by simp) (.int .i64 (o.1.2 : Int))).drew
    have hres' : ((W.setCell ⟨w.heap.size, 0, none⟩ (.int .u32 (o.1.1 : Int))).setCell ⟨w.heap.size, 1, none⟩ (.int .i64 (o.1.2 : Int))).drew.heap[w.heap.size]? = some (.cells #[.int .u32 (o.1.1 : Int), .int .i64 (o.1.2 : Int)] 31 (0, 0)) := hres
    have HD := HB.out.2.2
    clear hres l0 l1 r0 r1 rf0 rf1 vc fc
    generalize ((W.setCell ⟨w.heap.size, 0, none⟩ (.int .u32 (o.1.1 : Int))).setCell ⟨w.heap.size, 1, none⟩ (.int .i64 (o.1.2 : Int))).drew = W5 at *
    refine ⟨by simp, .inl ⟨_, _, rfl, run_takeDeferred hK', ?_⟩⟩
    obtain ⟨⟨c0, c1⟩, _⟩ := blk_two hres'
    have d0 := cell_kept c0 (grownBy_putObj' _ D (.deferred none)) (fun r e => by cases e; exact ⟨_, hK', rfl⟩)
    have d1 := cell_kept c1 (grownBy_putObj' _ D (.deferred none)) (fun r e => by cases e; exact ⟨_, hK', rfl⟩)
    refine ⟨.tuple #[px o.1.1 (o.1.2 : Int), .int .i64 o.2, .bool f], ?_, ?_, hB2.trans (belowK_b (w := w) (Nat.le_refl _) _ D _ _ (by omega) hK' rfl rfl)⟩
    · simp [results, Try.f13, go_sem, d0, d1]
    · rw [HO.out.1, HO.out.2]
  case stop =>
    rintro D c pre W _ _ h _
    exact h.elim
end Go.Proofs.Ytnlmplllfgfgoaa.Ad
