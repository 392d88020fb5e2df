/-
  THE ITERATOR OF A TABLE: the entries on the way to a prefix, one after the other; its maker 'covering'.
-/
import Derived.RangeFuncNested
import Derived.RangeFuncBound
import Derived.RangeFuncCalls
import Derived.RangeFuncLeaves
import Derived.Shelf.Abstract
import Derived.Shelf.RegionOpen
import Derived.OwnWalkIn
import Derived.TacticsInMore
import Derived.LoopNIn
import Derived.LoopIn
import Derived.Test.YtnlmplllfgfgoaaTriK
namespace Go.Proofs.Ytnlmplllfgfgoaa.Ad
set_option linter.unusedSimpArgs false
set_option linter.unusedVariables false
open Go.RowKit Go.Shelf Am Kt Tp Tm Tr
attribute [local go_sem] Oper.semAt_some

/-- What a loop's body keeps: all below n₁, and the iterator's two boxes. -/
def Kq (n₁ B : Nat) (W W' : World) : Prop := Below n₁ W W' ∧ ∀ k, B ≤ k → k < B + 2 → W'.heap[k]? = W.heap[k]?
theorem kq_refl (n₁ B : Nat) (W : World) : Kq n₁ B W W := ⟨Below.refl _ _, fun _ _ _ => rfl⟩
theorem kq_t {n₁ B : Nat} {X Y Z : World} (h : Kq n₁ B X Y) (k : Kq n₁ B Y Z) : Kq n₁ B X Z := ⟨h.1.trans k.1, fun i h1 h2 => (k.2 i h1 h2).trans (h.2 i h1 h2)⟩
theorem kq_b {n₁ B : Nat} {w : World} (hn : n₁ ≤ w.heap.size) (hB : B + 2 ≤ w.heap.size) (W : World) (l : Nat) (o o' : Obj) (hl : w.heap.size ≤ l) (h : W.heap[l]? = some o) (h1 : o.isCells = false) (h2 : o.isWalk = false) : Kq n₁ B W (W.putObj l o') :=
  ⟨belowK_b hn W l o o' hl h h1 h2, fun k k1 k2 => World.putObj_heap_other (by omega)⟩
theorem kq_below {n₁ B : Nat} {W W' : World} (h : Below W.heap.size W W') (hn : n₁ ≤ W.heap.size) (hB : B + 2 ≤ W.heap.size) : Kq n₁ B W W' := ⟨h.mono hn, fun k _ k2 => h.block k (by omega)⟩

theorem path_head (b : Nat) (v : Int) (y z : Tr) (a d k : Nat) : ∃ rest, (Tr.node b (some v) y z).path a d k = ((net a (d : Int), d), b, v) :: rest := by
  cases k with
  | zero => exact ⟨[], rfl⟩
  | succ k => exact ⟨_, rfl⟩
theorem abides_below {β : Type} {C : Nat} {J : β → World → Prop} (h : AbidesFrom C J) {s : β} {W W' : World} (hs : J s W) (k : Below W.heap.size W W') : J s W' :=
  h s W W' none hs ⟨k.os, k.tape, k.output, k.size, fun i hi _ => k.block i hi⟩ (fun r e => by cases e)

/-- A step whose node is known. -/
def OkStep (w : World) (n₁ : Nat) (x : Step) : Prop := x.2.1 < n₁ ∧ w.cell? ⟨x.2.1, 3, none⟩ = some (.int .i64 x.2.2) ∧ x.1.1 < 4294967296
abbrev StepOf (w : World) (n₁ : Nat) : Type := { x : Step // OkStep w n₁ x }
def encS {w : World} {n₁ : Nat} (x : StepOf w n₁) : Array Value := #[px x.1.1.1 (x.1.1.2 : Int), pt x.1.2.1]
def vals {w : World} {n₁ : Nat} (l : List (StepOf w n₁)) : List Step := l.map (·.1)
theorem vals_snoc {w : World} {n₁ : Nat} (l : List (StepOf w n₁)) (x : StepOf w n₁) : vals (l ++ [x]) = vals l ++ [x.1] := by unfold vals; simp

set_option maxHeartbeats 1000000 in
theorem covering (tb a m : Nat) (w : World) :
    Calls Try.prog 31 #[pt tb, px a (m : Int)] w fun e w' => e = .returned (.func (.func 39) #[] #[pt w.heap.size, pt (w.heap.size + 1)]) ∧
      w' = (w.alloc (.cells #[pt tb] 23)).alloc (.cells #[.int .u32 (a : Int), .int .i64 (m : Int)] 31) := by
  go_enter Try.func31, Try.ntmps31
  go_wp2_with fail
  go_ret
  exact ⟨rfl, rfl⟩

set_option maxRecDepth 100000 in
set_option maxHeartbeats 4000000 in
theorem covering1 (n : Nat) (hn : 2 ≤ n) (l B n₁ tb a m : Nat) (T : Tr) (w0 : World) (ha : a < 4294967296) (hm : m ≤ 32) (hroot : ∃ e l r, T = .node tb e l r) (hi0 : In w0 T) (hlt : ∀ b ∈ T.blocks, b < n₁) (J Jx : List (StepOf w0 n₁) → World → Prop)
    (W0 : World) (hJ : AbidesFrom W0.heap.size J)
    (hY : ∀ pre x W, J pre W → pre.length < 100 → YieldAt Fence.wide (n - 1) Try.prog l (encS x) W fun e W' =>
      (e = .returned (.bool true) ∧ J (pre ++ [x]) W' ∧ Kq n₁ B W W') ∨ (e = .returned (.bool false) ∧ Jx (pre ++ [x]) W'))
    (W : World) (hW0 : W0 = W) (hn₁ : n₁ ≤ W.heap.size) (hbel : Below n₁ w0 W) (hb0 : W.heap[B]? = some (.cells #[pt tb] 23 (0, 0))) (hb1 : W.heap[B + 1]? = some (.cells #[.int .u32 (a : Int), .int .i64 (m : Int)] 31 (0, 0))) (h0 : J [] W) :
    CallsIn Fence.wide n Try.prog 39 #[.func (.yield l) #[] #[], pt B, pt (B + 1)] W fun e W' => (∃ v, e = .returned v) ∧
      ((∃ ys, vals ys = T.path a 0 m ∧ J ys W') ∨ (∃ pre, vals pre <+: T.path a 0 m ∧ Jx pre W')) := by
  refine callsIn_of_wp Try.func39 rfl trivial ?_ rfl
  simp only [Try.ntmps39, List.size_toArray, List.length_cons, List.length_nil, Nat.reduceAdd, Nat.reduceSub, Array.replicate_succ, Array.replicate_zero, List.push_toArray, List.append_toArray, List.nil_append, List.cons_append]
  have c0 := blk_cell hb0 0
  simp at c0
  gi_wp2
  have hB2 : B + 2 ≤ W.heap.size := by have := blk_lt hb1; omega
  have HR := hid hroot
  have HI := hid hi0
  have HLt := hid hlt
  have HB1 := hid hb1
  have HJ := hid hJ
  have HBel := hid hbel
  have HW := hid hW0
  clear hroot hi0 hlt hb1 hb0 hJ hbel hW0 c0
  gi_loopw [4, 5] (fun q i wr => ∃ (d : Nat) (X : Tr) (pre : List (StepOf w0 n₁)), d ≤ m ∧ i = .int .i64 d ∧ q = X.ptr ∧ In w0 X ∧ (∀ b ∈ X.blocks, b < n₁) ∧ vals pre ++ X.path a d (m - d) = T.path a 0 m ∧ pre.length ≤ d ∧ J pre wr ∧ Kq n₁ B W wr)
    (fun _ i _ => m + 1 - (intOf i).toNat)
  case atStart =>
    exact ⟨0, T, [], by omega, rfl, by obtain ⟨e, l', r, h⟩ := HR.out; rw [h]; rfl, HI.out, HLt.out, by simp [vals], by simp, h0, kq_refl _ _ _⟩
  case round =>
    obtain ⟨d, X, pre, hd, rfl, rfl, hiX, hltX, hpath, hplen, hJs, hkq⟩ := hrel
    cases X with
    | nil =>
      have HP := hid (And.intro hpath hJs)
      clear hpath hJs hiX hltX
      simp only [Tr.ptr]
      gi_wp2
      go_end0
      obtain ⟨h1, h2⟩ := HP.out
      exact ⟨⟨_, rfl⟩, .inl ⟨pre, by rw [← h1, path_nil, List.append_nil], h2⟩⟩
    | node b e y z =>
      have hbn := hltX b (by simp [Tr.blocks])
      have hb1 := (hkq.2 (B + 1) (by omega) (by omega)).trans HB1.out
      have hat := hiX.1.keep ((HBel.out.trans hkq.1).block b hbn)
      have c2 := hat.c2
      have c3 := hat.c3
      obtain ⟨⟨x0, x1⟩, _⟩ := blk_two hb1
      have HX := hid (And.intro hiX hltX)
      have HP := hid (And.intro hpath (And.intro hplen hJs))
      have HKq := hid hkq
      have HAt := hid hat
      clear hiX hltX hpath hJs hkq hb1 hat hplen
      simp only [Tr.ptr]
      cases e with
      | none =>
        have c2' : wr.cell? ⟨b, 2, none⟩ = some (.bool false) := c2
        clear c2 c3
        by_cases hdm : d = m
        · subst hdm
          gi_wp2
          refine ⟨trivial, ?_⟩
          gi_wp2
          refine ⟨fun _ h => (by cases h), ?_⟩
          gi_wp2
          refine bodyPost_ret (results_none rfl _ _ _) rfl ?_
          obtain ⟨h1, _, h2⟩ := HP.out
          exact ⟨⟨_, rfl⟩, .inl ⟨pre, by rw [← h1, Nat.sub_self]; simp [Tr.path, ownS], h2⟩⟩
        · have hlt : d < m := by omega
          have hd32 : d < 32 := by omega
          have hne : ((d : Int) == (m : Int)) = false := by simp; omega
          have hBit := fun wx => bit a d wx ha hd32
          have c0 := HAt.out.c0
          have c1 := HAt.out.c1
          rcases bitN_or a d with hb | hb
          · rw [hb] at hBit
            gi_wp2
            refine ⟨trivial, ?_⟩
            gi_wp2
            refine ⟨fun _ h => (by cases h), ?_⟩
            gi_wp2
            refine wpIn_region_quiet_lit rfl (by kernel_rfl) (by kernel_rfl) ?_
            repeat (gi_big_quiet_step (fail))
            refine BigFrame.wpQuietIn_want (fun _ _ _ _ => trivial) rfl ?_
            intro Kq hKq
            gi_big_quiet_op
            gi_big_quiet_call ((refine ⟨fun _ => by omega, ?_⟩; exact callsIn_wide.2 ((hBit _).mono (fun e w2 h => ⟨h.1, _, h.2.symm⟩))))
            repeat (gi_big_quiet_step (fail))
            refine wpQuietIn_nil ?_
            rintro _ ⟨nq, rfl⟩
            gi_wp2
            go_roundw
            case rel =>
              have hb4 := drewN_below wr.heap.size wr nq
              refine ⟨d + 1, y, pre, by omega, by go_num, rfl, HX.out.1.2.1, fun c hc => HX.out.2 c (by simp [Tr.blocks, hc]), ?_, by have := HP.out.2.1; omega, abides_below HJ.out HP.out.2.2 hb4, kq_t HKq.out (kq_below hb4 ?_ ?_)⟩
              · have h1 := HP.out.1
                rw [← h1, show m - d = (m - (d + 1)) + 1 by omega]
                simp [Tr.path, ownS, hb, vals_snoc]
              · exact Nat.le_trans hn₁ HKq.out.1.size
              · exact Nat.le_trans hB2 HKq.out.1.size
            case measure => simp [intOf]; omega
          · rw [hb] at hBit
            gi_wp2
            refine ⟨trivial, ?_⟩
            gi_wp2
            refine ⟨fun _ h => (by cases h), ?_⟩
            gi_wp2
            refine wpIn_region_quiet_lit rfl (by kernel_rfl) (by kernel_rfl) ?_
            repeat (gi_big_quiet_step (fail))
            refine BigFrame.wpQuietIn_want (fun _ _ _ _ => trivial) rfl ?_
            intro Kq hKq
            gi_big_quiet_op
            gi_big_quiet_call ((refine ⟨fun _ => by omega, ?_⟩; exact callsIn_wide.2 ((hBit _).mono (fun e w2 h => ⟨h.1, _, h.2.symm⟩))))
            repeat (gi_big_quiet_step (fail))
            refine wpQuietIn_nil ?_
            rintro _ ⟨nq, rfl⟩
            gi_wp2
            go_roundw
            case rel =>
              have hb4 := drewN_below wr.heap.size wr nq
              refine ⟨d + 1, z, pre, by omega, by go_num, rfl, HX.out.1.2.2, fun c hc => HX.out.2 c (by simp [Tr.blocks, hc]), ?_, by have := HP.out.2.1; omega, abides_below HJ.out HP.out.2.2 hb4, kq_t HKq.out (kq_below hb4 ?_ ?_)⟩
              · have h1 := HP.out.1
                rw [← h1, show m - d = (m - (d + 1)) + 1 by omega]
                simp [Tr.path, ownS, hb, vals_snoc]
              · exact Nat.le_trans hn₁ HKq.out.1.size
              · exact Nat.le_trans hB2 HKq.out.1.size
            case measure => simp [intOf]; omega
      | some v =>
        have c2' : wr.cell? ⟨b, 2, none⟩ = some (.bool true) := c2
        clear c2 c3
        have hd32' : d ≤ 32 := by omega
        have hN : ∀ wx, Calls Try.prog 32 #[.int .u32 (a : Int), .int .i64 (d : Int)] wx fun e w' => e = .returned (px (net a (d : Int)) (d : Int)) ∧ Below wx.heap.size wx w' := fun wx => by
          have := network a (d : Int) wx ha
          rwa [cl_nat d hd32'] at this
        obtain ⟨x, hx⟩ : ∃ x : StepOf w0 n₁, x = ⟨((net a (d : Int), d), b, v), hbn, HX.out.1.1.c3, net_lt _ ha⟩ := ⟨_, rfl⟩
        have HXE := hid (show x.1 = ((net a (d : Int), d), b, v) by rw [hx])
        have henc := hid (show encS x = #[px (net a (d : Int)) (d : Int), pt b] by rw [hx]; rfl)
        clear hx
        have HY := hid hY
        clear hY
        have h1n : 1 ≤ n := by omega
        gi_wp2_with ((refine ⟨trivial, ?_⟩; gi_at_call 32; refine (callsIn_wide.2 (hN _)).mono ?_; rintro e w1 ⟨rfl, b1⟩; have hJ1 := abides_below HJ.out HP.out.2.2 b1; obtain ⟨fn, tmps, assign, body, hy, hRd⟩ := HY.out pre x w1 hJ1 (by have := HP.out.2.1; omega); rw [henc.out] at hy; have HRd := hid hRd; have HB := hid b1; clear hRd b1 hJ1))
        refine HRd.out.mono ?_
        rintro e W3 (⟨rfl, hJ3, hk3⟩ | ⟨rfl, hJx3⟩)
        · have hkW : Kq n₁ B W W3 := kq_t HKq.out (kq_t (kq_below HB.out (Nat.le_trans hn₁ HKq.out.1.size) (Nat.le_trans hB2 HKq.out.1.size)) hk3)
          have hb1' := (hkW.2 (B + 1) (by omega) (by omega)).trans HB1.out
          obtain ⟨⟨x0', x1'⟩, _⟩ := blk_two hb1'
          have hat3 := HX.out.1.1.keep ((HBel.out.trans hkW.1).block b hbn)
          have c0 := hat3.c0
          have c1 := hat3.c1
          have H3 := hid (And.intro hJ3 hkW)
          clear hJ3 hkW hb1' hat3 hk3 hy HRd x0 x1 c2'
          by_cases hdm : d = m
          · subst hdm
            gi_wp2
            refine bodyPost_ret (results_none rfl _ _ _) rfl ?_
            obtain ⟨h1, _, h2⟩ := HP.out
            exact ⟨⟨_, rfl⟩, .inl ⟨pre ++ [x], by rw [← h1, Nat.sub_self, vals_snoc, HXE.out]; simp [Tr.path, ownS], H3.out.1⟩⟩
          · have hlt : d < m := by omega
            have hd32 : d < 32 := by omega
            have hne : ((d : Int) == (m : Int)) = false := by simp; omega
            have hBit := fun wx => bit a d wx ha hd32
            rcases bitN_or a d with hb | hb
            · rw [hb] at hBit
              gi_wp2
              refine wpIn_region_quiet_lit rfl (by kernel_rfl) (by kernel_rfl) ?_
              repeat (gi_big_quiet_step (fail))
              refine BigFrame.wpQuietIn_want (fun _ _ _ _ => trivial) rfl ?_
              intro Kq hKq
              gi_big_quiet_op
              gi_big_quiet_call (exact callsIn_wide.2 ((hBit _).mono (fun e w2 h => ⟨h.1, _, h.2.symm⟩)))
              repeat (gi_big_quiet_step (fail))
              refine wpQuietIn_nil ?_
              rintro _ ⟨nq, rfl⟩
              gi_wp2
              go_roundw
              case rel =>
                have hb4 := drewN_below W3.heap.size W3 nq
                refine ⟨d + 1, y, pre ++ [x], by omega, by go_num, rfl, HX.out.1.2.1, fun c hc => HX.out.2 c (by simp [Tr.blocks, hc]), ?_, by rw [List.length_append]; have := HP.out.2.1; simp; omega, abides_below HJ.out H3.out.1 hb4, kq_t H3.out.2 (kq_below hb4 ?_ ?_)⟩
                · have h1 := HP.out.1
                  rw [← h1, show m - d = (m - (d + 1)) + 1 by omega]
                  simp [Tr.path, ownS, hb, vals_snoc, HXE.out]
                · exact Nat.le_trans hn₁ H3.out.2.1.size
                · exact Nat.le_trans hB2 H3.out.2.1.size
              case measure => simp [intOf]; omega
            · rw [hb] at hBit
              gi_wp2
              refine wpIn_region_quiet_lit rfl (by kernel_rfl) (by kernel_rfl) ?_
              repeat (gi_big_quiet_step (fail))
              refine BigFrame.wpQuietIn_want (fun _ _ _ _ => trivial) rfl ?_
              intro Kq hKq
              gi_big_quiet_op
              gi_big_quiet_call (exact callsIn_wide.2 ((hBit _).mono (fun e w2 h => ⟨h.1, _, h.2.symm⟩)))
              repeat (gi_big_quiet_step (fail))
              refine wpQuietIn_nil ?_
              rintro _ ⟨nq, rfl⟩
              gi_wp2
              go_roundw
              case rel =>
                have hb4 := drewN_below W3.heap.size W3 nq
                refine ⟨d + 1, z, pre ++ [x], by omega, by go_num, rfl, HX.out.1.2.2, fun c hc => HX.out.2 c (by simp [Tr.blocks, hc]), ?_, by rw [List.length_append]; have := HP.out.2.1; simp; omega, abides_below HJ.out H3.out.1 hb4, kq_t H3.out.2 (kq_below hb4 ?_ ?_)⟩
                · have h1 := HP.out.1
                  rw [← h1, show m - d = (m - (d + 1)) + 1 by omega]
                  simp [Tr.path, ownS, hb, vals_snoc, HXE.out]
                · exact Nat.le_trans hn₁ H3.out.2.1.size
                · exact Nat.le_trans hB2 H3.out.2.1.size
              case measure => simp [intOf]; omega
        · gi_wp2
          refine bodyPost_ret (results_none rfl _ _ _) rfl ?_
          obtain ⟨h1, _, h2⟩ := HP.out
          obtain ⟨rest, hr⟩ := path_head b v y z a d (m - d)
          exact ⟨⟨_, rfl⟩, .inr ⟨pre ++ [x], ⟨rest, by rw [← h1, hr, vals_snoc, HXE.out]; simp⟩, hJx3⟩⟩
end Go.Proofs.Ytnlmplllfgfgoaa.Ad
