/-
  THE REFERENCE TABLE's Insert.
-/
import Derived.Test.YtnlmplllfgfgoaaRefD
import Derived.Test.YtnlmplllfgfgoaaHead
namespace Go.Proofs.Ytnlmplllfgfgoaa.Ad
set_option linter.unusedSimpArgs false
set_option linter.unusedVariables false
open Go.RowKit Am Kt Tp Tm Tr

theorem fl_set (A B : List En) (x : En) (u : Int) : (fl eEn (A ++ x :: B)).set (A.length * 3 + 2) (.int .i64 u) = fl eEn (A ++ (x.1, u) :: B) := by
  have e : fl eEn (A ++ x :: B) = fl eEn A ++ (eEn x ++ fl eEn B) := by rw [fl_append]; rfl
  have e2 : fl eEn (A ++ (x.1, u) :: B) = fl eEn A ++ (eEn (x.1, u) ++ fl eEn B) := by rw [fl_append]; rfl
  rw [e, e2, List.set_append_right _ _ (by rw [fl_len eEn_len]; omega), fl_len eEn_len, Nat.add_sub_cancel_left]
  rfl

set_option maxHeartbeats 2000000 in
theorem refIns_no (n0 mb : Nat) (v : Value) (L : List En) (a : Nat) (n u : Int) (w : World) (h : Ref w n0 mb v L) (ha : a < 4294967296) (hv : validB a n = false) :
    Calls Try.prog 19 #[pt mb, px a n, .int .i64 u] w (RefPost w n0 mb v false L) := by
  have hV := fun wx => refValid a n wx ha
  rw [hv] at hV
  have HR := hid h
  clear h hv
  go_enter Try.func19, Try.ntmps19
  have x0 := heap_new w (.cells #[.int .u32 (a : Int), .int .i64 n] 31)
  obtain ⟨⟨z0, z1⟩, _⟩ := blk_two x0
  go_wp2_with (go_at_call 26; refine (hV _).mono ?_; rintro e w1 ⟨rfl, b1⟩)
  go_ret
  exact ⟨rfl, _, HR.out.below (then_ (al1 w _) b1), chg_below (then_ (al1 w _) b1)⟩

set_option maxHeartbeats 8000000 in
set_option maxRecDepth 100000 in
theorem refIns_old (n0 mb : Nat) (v : Value) (A B : List En) (x : En) (u : Int) (w : World) (h : Ref w n0 mb v (A ++ x :: B)) (hp : OkP x.1) (hs : Srt (A ++ x :: B)) (hl : (A ++ x :: B).length ≤ 1000000) :
    Calls Try.prog 19 #[pt mb, px x.1.1 (x.1.2 : Int), .int .i64 u] w (RefPost w n0 mb v true (A ++ (x.1, u) :: B)) := by
  have hv := valid_of_ok hp
  have hV := fun wx => refValid x.1.1 (x.1.2 : Int) wx hp.2.2
  rw [hv] at hV
  obtain ⟨k, hk⟩ : ∃ k, k = A.length := ⟨_, rfl⟩
  have hat : atV (A ++ x :: B) x.1.1 (x.1.2 : Int) = k := by
    refine atV_at (x := x) (by rw [hk]; simp) (by simp [eqB]) fun i y hi hy => ?_
    have hyA : y ∈ A := by
      rw [List.getElem?_append_left (by omega)] at hy
      exact List.mem_of_getElem? hy
    have := (srt_mid hs).1 y hyA
    unfold eqB
    simp only [decide_eq_false_iff_not]
    rintro ⟨h1, h2⟩
    exact lt_irrefl x.1 (by have e : y.1 = x.1 := Prod.ext h1 (by omega); rwa [e] at this)
  have hA := fun wx (h : Ref wx n0 mb v (A ++ x :: B)) => refAt n0 mb v _ x.1.1 (x.1.2 : Int) wx h hl
  rw [hat] at hA
  have hkl : k < (A ++ x :: B).length := by rw [hk]; simp
  obtain ⟨g, cap, rfl, hg1, hg2, hnc, _⟩ := own_form h.row (by omega)
  have hset := fl_set A B x u
  have hlen : (A ++ (x.1, u) :: B).length = (A ++ x :: B).length := by simp
  rw [← hk] at hset
  have HS := hid hset
  have HLn := hid hlen
  obtain ⟨L, hL⟩ : ∃ L, L = A ++ x :: B := ⟨_, rfl⟩
  rw [← hL] at h hl hA hkl HS HLn hnc ⊢
  have hd2 : (fl eEn L)[k * 3 + 2]? = some (.int .i64 x.2) := by
    have := fl_get eEn_len L k x (by rw [hL, hk]; simp) 2 (by decide)
    rw [this]; rfl
  obtain ⟨m, hm⟩ : ∃ m, m = L.length := ⟨_, rfl⟩
  rw [← hm] at hkl hl hnc ⊢
  have HR := hid h
  have HA := hid hA
  have HD2 := hid hd2
  have HM := hid hm
  have HL := hid hL
  have hki : (k : Int) < (m : Int) := by omega
  have hk0 : decide ((k : Int) ≥ 0) = true := by simp
  have HK := hid hk
  clear h hA hset hlen hat hs hv hd2 hm hL hk
  go_enter Try.func19, Try.ntmps19
  have x0 := heap_new w (.cells #[.int .u32 (x.1.1 : Int), .int .i64 (x.1.2 : Int)] 31)
  have al := al1 w (.cells #[.int .u32 (x.1.1 : Int), .int .i64 (x.1.2 : Int)] 31)
  obtain ⟨⟨z0, z1⟩, _⟩ := blk_two x0
  have X0 := hid x0
  have AL := hid al
  clear x0 al
  go_wp2_with (go_at_call 26; refine (hV _).mono ?_; rintro e w1 ⟨rfl, b1⟩; obtain ⟨⟨y0, y1⟩, _⟩ := blk_two (blk_keep X0.out b1); have B1 := hid (then_ AL.out b1))
  refine (HA.out _ (HR.out.below B1.out)).mono ?_
  rintro e w2 ⟨rfl, b2⟩
  have R2 := hid (HR.out.below (then_ B1.out b2))
  have B2 := hid (then_ B1.out b2)
  have c0 := R2.out.cell
  rw [← HM.out] at c0
  have cc := R2.out.row.cells (g := g) rfl (k * 3 + 2) _ HD2.out
  rw [add_lit, Nat.zero_add] at cc
  have fz := R2.out.row.frozenAt (k * 3 + 2)
  have hgm : g ≠ mb := fun e => own_type R2.out.row R2.out.box (by decide) (by rw [e]; rfl)
  have HR3 : Hid (RefPost w n0 mb (.slice (some ⟨g, 0, none⟩) m cap) true (A ++ (x.1, u) :: B) (.returned (.bool true)) (w2.setCell ⟨g, k * 3 + 2, none⟩ (.int .i64 u))) := by
    rw [HM.out]
    refine ⟨rfl, _, ⟨?_, ?_, R2.out.lo⟩, ?_, fun g' hg' => .inl hg'⟩
    · have hk1 : Keep [g] w2 (w2.setCell ⟨g, k * 3 + 2, none⟩ (.int .i64 u)) := (Keep.refl _ _).setCell (.inl (by simp)) _
      rw [hk1.block mb (blk_lt R2.out.box) (by simp; exact fun e => hgm e.symm)]
      exact R2.out.box
    · have := own_set R2.out.row (k * 3 + 2) (.int .i64 u)
      rw [HS.out] at this
      rw [HLn.out]
      exact this
    · exact (Keep.of B2.out).setCell (.inl (by simp [Value.ownBlock])) _
  clear b2 b1 y0 y1 z0 z1 hgm
  go_wp2_with fail
  go_ret
  exact HR3.out

theorem row_ways {w : World} {B e z n cap : Nat} {p1 : Option Addr} {xs : List Value} (h : w.ownsRow B e z (.slice p1 n cap) n xs) :
    (∃ b off, p1 = some ⟨b, off, none⟩ ∧ b < w.heap.size ∧ ∀ j u, xs[j]? = some u → w.cell? ⟨b, off + j, none⟩ = some u) ∨ (p1 = none ∧ n = 0 ∧ cap = 0) := by
  have ho := h
  obtain ⟨h1, h2⟩ := h
  rcases h2 with ⟨h2, h3⟩ | ⟨g, cap, cur, hv, hb, hh, hnc, hcm, hcs, htake⟩
  · cases h2
    exact .inr ⟨rfl, h3, rfl⟩
  · cases hv
    refine .inl ⟨g, 0, rfl, blk_lt hh, fun j u hj => ?_⟩
    have := ho.cells (g := g) rfl j u hj
    rwa [add_lit] at this

set_option maxHeartbeats 8000000 in
set_option maxRecDepth 100000 in
theorem refIns_new (n0 mb : Nat) (v : Value) (A B : List En) (a q : Nat) (u : Int) (w : World) (h : Ref w n0 mb v (A ++ B)) (hn0 : n0 ≤ w.heap.size) (hp : OkP (a, q)) (hA : ∀ x ∈ A, lt x.1 (a, q)) (hB : ∀ x ∈ B, lt (a, q) x.1) (hl : (A ++ B).length ≤ 1000000) :
    Calls Try.prog 19 #[pt mb, px a (q : Int), .int .i64 u] w (RefPost w n0 mb v true (A ++ ((a, q), u) :: B)) := by
  have hv := valid_of_ok hp
  have hV := fun wx => refValid a (q : Int) wx hp.2.2
  simp only at hv
  rw [hv] at hV
  have hat : atV (A ++ B) a (q : Int) = -1 := atV_no fun y hy => by
    unfold eqB
    simp only [decide_eq_false_iff_not]
    rintro ⟨h1, h2⟩
    have e : y.1 = (a, q) := Prod.ext h1 (by simp only; omega)
    rcases List.mem_append.1 hy with hy | hy
    · exact lt_irrefl _ (by have := hA y hy; rwa [e] at this)
    · exact lt_irrefl _ (by have := hB y hy; rwa [e] at this)
  have hAt := fun wx (h : Ref wx n0 mb v (A ++ B)) => refAt n0 mb v _ a (q : Int) wx h hl
  rw [hat] at hAt
  obtain ⟨k0, hk0⟩ : ∃ k0, k0 = A.length := ⟨_, rfl⟩
  obtain ⟨L, hL⟩ : ∃ L, L = A ++ B := ⟨_, rfl⟩
  have htk : L.take k0 = A := by rw [hL, hk0]; simp
  have hdr : L.drop k0 = B := by rw [hL, hk0]; simp
  have hkl : k0 ≤ L.length := by rw [hL, hk0]; simp
  have hlow : ∀ k y, k < k0 → L[k]? = some y → lt y.1 (a, q) := fun k y hk hy => by
    rw [hL, List.getElem?_append_left (by omega)] at hy
    exact hA y (List.mem_of_getElem? hy)
  have hhigh : ∀ y, L[k0]? = some y → lt (a, q) y.1 := fun y hy => by
    rw [hL, List.getElem?_append_right (by omega)] at hy
    exact hB y (List.mem_of_getElem? hy)
  rw [← hL] at h hl hAt
  obtain ⟨m, hm⟩ : ∃ m, m = L.length := ⟨_, rfl⟩
  rw [← hm] at hkl hl
  obtain ⟨p1, cap, rfl, hnc, X⟩ := rows_open (by decide) (rows_own h.row)
  rw [← hm] at X hnc h hAt ⊢
  have HR := hid h
  have hrow := h.row
  rw [← hm] at hrow
  have HX2 := hid (row_ways hrow)
  clear hrow
  have HX := hid X
  have HM := hid hm
  have HT := hid htk
  have HD := hid hdr
  have HA := hid hAt
  have HLow := hid hlow
  have HHigh := hid hhigh
  clear X h hm htk hdr hat hL hk0 hA hB hAt hlow hhigh hv
  go_enter Try.func19, Try.ntmps19
  have x0 := heap_new w (.cells #[.int .u32 (a : Int), .int .i64 (q : Int)] 31)
  have al := al1 w (.cells #[.int .u32 (a : Int), .int .i64 (q : Int)] 31)
  obtain ⟨⟨z0, z1⟩, _⟩ := blk_two x0
  have X0 := hid x0
  have AL := hid al
  clear x0 al
  go_wp2_with (go_at_call 26; refine (hV _).mono ?_; rintro e w1 ⟨rfl, b1⟩; obtain ⟨⟨y0, y1⟩, _⟩ := blk_two (blk_keep X0.out b1); have B1 := hid (then_ AL.out b1); have X1 := hid (blk_keep X0.out b1))
  refine (HA.out _ (HR.out.below B1.out)).mono ?_
  rintro e w2 ⟨rfl, b2⟩
  have R2 := hid (HR.out.below (then_ B1.out b2))
  have B2 := hid (then_ B1.out b2)
  have X2 := hid (blk_keep X1.out b2)
  clear b2 b1 y0 y1 z0 z1
  have hmb2 := blk_lt R2.out.box
  have hx2 := blk_lt X2.out
  go_wp2_with fail
  go_loopg [8] k0 (fun gg kv wr => ∃ k : Nat, k + gg = k0 ∧ kv = .int .i64 k ∧ Below w2.heap.size w2 wr)
  case atStart => exact ⟨0, by omega, rfl, Below.refl _ _⟩
  case round =>
    obtain ⟨k, hk, rfl, hbel⟩ := hrel
    have R3 := hid (R2.out.below hbel)
    have X3 := hid (blk_keep X2.out hbel)
    have B3 := hid (then_ B2.out hbel)
    have hmb3 := blk_lt R3.out.box
    have hx3 := blk_lt X3.out
    have c0 := later_cell (B := wr.heap.size) hmb3 R3.out.cell
    have y0 := later_cell (B := wr.heap.size) hx3 (blk_two X3.out).1.1
    have y1 := later_cell (B := wr.heap.size) hx3 (blk_two X3.out).1.2
    have HBL := hid hbel
    cases gk with
    | zero =>
      obtain rfl : k = k0 := by omega
      clear hbel
      by_cases hkm : k < m
      · have hlt : (k : Int) < (m : Int) := by omega
        obtain ⟨b6, off6, rfl, hbl6, hc6⟩ := HX.out (by omega)
        obtain ⟨y, hye⟩ : ∃ y, y = (L[k]'(by rw [← HM.out]; exact hkm)) := ⟨_, rfl⟩
        have hly : L[k]? = some y := by rw [hye]; exact List.getElem?_eq_getElem _
        obtain ⟨d0, d1, _⟩ := eEn_cells hc6 hly
        have hs6 := Nat.lt_of_lt_of_le hbl6 B3.out.size
        have f0 := later_cell (B := wr.heap.size) (p := ⟨b6, off6 + k * 3, none⟩) hs6 ((B3.out.cell (p := ⟨b6, off6 + k * 3, none⟩) hbl6).trans d0)
        have f1 := later_cell (B := wr.heap.size) (p := ⟨b6, off6 + k * 3 + 1, none⟩) hs6 ((B3.out.cell (p := ⟨b6, off6 + k * 3 + 1, none⟩) hbl6).trans d1)
        have hcm := fun wx => refCompare y.1.1 (y.1.2 : Int) a (q : Int) wx
        have hgt := HHigh.out y hly
        rw [cmpV_gt (by unfold lt at hgt; simp only at hgt; omega)] at hcm
        have HC6 := hid hc6
        clear hye hly d0 d1 hgt hc6
        go_wp2_with fail
        refine wp_region_later wr.heap.size (by kernel_rfl) (by kernel_rfl) ?_
        repeat (go_big_quiet_step (first | (go_at_call 35; exact later_of (Nat.le_refl _) (hcm _)) | fail))
        refine wpQuiet_nil ?_
        rintro _ ⟨u1, rfl⟩
        go_wp2
        have R4 := hid (R3.out.below u1.h)
        have X4 := hid (blk_keep X3.out u1.h)
        have B4 := hid (then_ B3.out u1.h)
        have hb4 := Nat.lt_of_lt_of_le hs6 u1.h.size
        have HC4 := hid (show ∀ j x, (fl eEn L)[j]? = some x → u1.w.cell? ⟨b6, off6 + j, none⟩ = some x from fun j x hj => (B4.out.cell (p := ⟨b6, off6 + j, none⟩) hbl6).trans (HC6.out j x hj))
        clear c0 y0 y1 f0 f1 hcm
        generalize u1.w = W at *
        have FK : ∀ X, Below W.heap.size W X → X.cell? ⟨mb, 0, none⟩ = some (.slice (some ⟨b6, off6, none⟩) m cap) ∧ X.cell? ⟨w.heap.size, 0, none⟩ = some (.int .u32 (a : Int)) ∧ X.cell? ⟨w.heap.size, 1, none⟩ = some (.int .i64 (q : Int)) ∧ X.frozen? ⟨mb, 0, none⟩ = false ∧ Tm.Rows X 3 (.slice (some ⟨b6, off6, none⟩) k cap) k (fl eEn A) ∧ Tm.Rows X 3 (.slice (if cap = k then some ⟨b6, off6, none⟩ else some ⟨b6, off6 + k * 3, none⟩) (m - k) (cap - k)) (m - k) (fl eEn B) := fun X hX => by
          have hcX : ∀ j x, (fl eEn L)[j]? = some x → X.cell? ⟨b6, off6 + j, none⟩ = some x := fun j x hj => (hX.cell (p := ⟨b6, off6 + j, none⟩) hb4).trans (HC4.out j x hj)
          refine ⟨(hX.cell (p := ⟨mb, 0, none⟩) (blk_lt R4.out.box)).trans R4.out.cell, (hX.cell (p := ⟨w.heap.size, 0, none⟩) (blk_lt X4.out)).trans (blk_two X4.out).1.1, (hX.cell (p := ⟨w.heap.size, 1, none⟩) (blk_lt X4.out)).trans (blk_two X4.out).1.2, blk_frozen (blk_keep R4.out.box hX) 0, ?_, ?_⟩
          · have := rows_take HM.out (by omega : k ≤ m) hcX hnc cap (by omega)
            rwa [HT.out] at this
          · have := rows_drop HM.out (by omega : k ≤ m) hcX (cap - k) (by omega)
            rw [HD.out] at this
            split
            · have hz : m - k = 0 := by omega
              have hB : B = [] := by rw [← HD.out]; exact List.drop_eq_nil_of_le (by have := HM.out; omega)
              rw [hz, hB]
              exact rows_zero
            · exact this
        have FKH := hid FK
        clear FK
        have hk1 : (0 : Int) ≤ (k : Int) := by omega
        have hk2 : (k : Int) ≤ (m : Int) := by omega
        have hk3 : (k : Int) ≤ (cap : Int) := by omega
        have hk7 : (m : Int) ≤ (cap : Int) := by omega
        refine wp_region_head 21 (fun v => Below W.heap.size W v) (by kernel_rfl) (by kernel_rfl) ?_
        refine head_takes (f := 5) (le := #[true, false, true, true, true, true, true, true, false, true, true, true, false, false, true, true, true, true, true, true, false, false, false, false]) [true, false, true, true, true, true, true, true, false, true, true, true, false, false, true, true, true, true, true, true] (by kernel_rfl) (by kernel_rfl) (by decide) (by rfl) (fun c a d v w h => by cases d <;> exact h) (Below.refl _ _).drew ?_
        iterate 20 (first | refine takes_skip ?_ | (refine takes_one (v := ?_) (by rfl) ?_ ?_; rotate_left; (· intro wz hSz; obtain ⟨e, s, t, _⟩ := FKH.out wz hSz; clear hSz; go_simp; try with_reducible rfl); simp only [Act.put, List.setIfInBounds_toArray, List.set_cons_zero, List.set_cons_succ]))
        refine takes_end ?_
        have bA : Below W.heap.size W (W.alloc (.cells #[] 51)).drew := (al1 W _).drew
        have bD : Below W.heap.size W (W.alloc (.cells #[.int .u32 (a : Int), .int .i64 (q : Int), .int .i64 u] 51)).drew := (al1 W _).drew
        have bAD : Below W.heap.size W ((W.alloc (.cells #[] 51)).alloc (.cells #[.int .u32 (a : Int), .int .i64 (q : Int), .int .i64 u] 51)).drew := (al2 W _ _).drew
        have bDA : Below W.heap.size W ((W.alloc (.cells #[.int .u32 (a : Int), .int .i64 (q : Int), .int .i64 u] 51)).alloc (.cells #[] 51)).drew := (al2 W _ _).drew
        obtain ⟨_, _, _, _, rA, _⟩ := FKH.out _ bA
        obtain ⟨_, _, _, _, rAD, _⟩ := FKH.out _ bAD
        obtain ⟨_, _, _, _, rDA, _⟩ := FKH.out _ bDA
        have ownA := own_new W [] 51 3 W.heap.size 0 rfl (by decide) (Nat.le_refl _)
        have ownAD := ownA.alloc (.cells #[.int .u32 (a : Int), .int .i64 (q : Int), .int .i64 u] 51)
        have ownDA : ((W.alloc (.cells #[.int .u32 (a : Int), .int .i64 (q : Int), .int .i64 u] 51)).alloc (.cells #[] 51)).drew.ownsRow W.heap.size 51 3 (.slice (some ⟨W.heap.size + 1, 0, none⟩) 0 0) 0 [] := by
          have h := own_new (W.alloc (.cells #[.int .u32 (a : Int), .int .i64 (q : Int), .int .i64 u] 51)) [] 51 3 W.heap.size 0 rfl (by decide) (by simp)
          rw [show (W.alloc (.cells #[.int .u32 (a : Int), .int .i64 (q : Int), .int .i64 u] 51)).heap.size = W.heap.size + 1 by simp] at h
          exact h
        have gAD : ((W.alloc (.cells #[] 51)).alloc (.cells #[.int .u32 (a : Int), .int .i64 (q : Int), .int .i64 u] 51)).drew.heap[W.heap.size + 1]? = some (Obj.cells #[.int .u32 (a : Int), .int .i64 (q : Int), .int .i64 u] 51) := by
          have h := heap_new (W.alloc (.cells #[] 51)) (.cells #[.int .u32 (a : Int), .int .i64 (q : Int), .int .i64 u] 51)
          rw [show (W.alloc (.cells #[] 51)).heap.size = W.heap.size + 1 by simp] at h
          exact h
        have gDA : ((W.alloc (.cells #[.int .u32 (a : Int), .int .i64 (q : Int), .int .i64 u] 51)).alloc (.cells #[] 51)).drew.heap[W.heap.size]? = some (Obj.cells #[.int .u32 (a : Int), .int .i64 (q : Int), .int .i64 u] 51) := blk_keep (heap_new W (.cells #[.int .u32 (a : Int), .int .i64 (q : Int), .int .i64 u] 51)) (al1 (W.alloc (.cells #[.int .u32 (a : Int), .int .i64 (q : Int), .int .i64 u] 51)) (.cells #[] 51)).drew
        have dRow : ∀ X g, X.heap[g]? = some (Obj.cells #[.int .u32 (a : Int), .int .i64 (q : Int), .int .i64 u] 51) → Tm.Rows X 3 (.slice (some ⟨g, 0, none⟩) 1 1) 1 (eEn ((a, q), u)) := fun X g hg => by
          refine rows_at rfl (Nat.le_refl _) fun j x hj => ?_
          have := blk_cell hg j
          rw [Nat.zero_add, this]
          simpa [eEn] using hj
        have DR := hid dRow
        clear dRow
        obtain ⟨i0, hi0, hz0, hz1, hz2⟩ := info_parts enInfo
        refine head_ways [false, true, false, false, false, false, false, false, false, false, false, false, true] (by kernel_rfl) (by rfl) (by decide) (by decide) ?_
        repeat refine ways_skip ?_
        refine ways_one (fun K hK => ?_) ?_
        · go_simp
          refine hK.out _ _ ⟨bA, ?_⟩; clear hK K; simp only [Act.put, List.setIfInBounds_toArray, List.set_cons_zero, List.set_cons_succ]
          refine head_ways [false, false, false, false, false, false, false, false, true, false, false, false, true] (by kernel_rfl) (by rfl) (by decide) (by decide) ?_
          repeat refine ways_skip ?_
          refine ways_one (fun K hK => ?_) ?_
          · refine step2 (by rfl) _ _ _ (by rfl) 51 i0 _ 3 24 Try.underlying26 hi0 hz0 hz1 hz2 (by rfl) (by decide) (by decide) W.heap.size _ _ _ 0 k [] (fl eEn A) (by rfl) ownA bA.size (by rfl) rA (fl_oneCell eEn_one _) (by omega) (by omega) ?_
            intro v2 w2 own2 bel2 keep2
            have b2 := bA.trans bel2
            refine hK.out _ _ ⟨b2, ?_⟩; clear hK K; simp only [Act.put, List.setIfInBounds_toArray, List.set_cons_zero, List.set_cons_succ]
            refine head_ways [false, false, false, false, false, false, false, false, false, false, false, false, true] (by kernel_rfl) (by rfl) (by decide) (by decide) ?_
            repeat refine ways_skip ?_
            refine ways_one (fun K hK => ?_) ?_
            · go_simp
              have own2 := own2.alloc (.cells #[.int .u32 (a : Int), .int .i64 (q : Int), .int .i64 u] 51)
              have d2 := DR.out (w2.alloc (.cells #[.int .u32 (a : Int), .int .i64 (q : Int), .int .i64 u] 51)) _ (heap_new w2 (.cells #[.int .u32 (a : Int), .int .i64 (q : Int), .int .i64 u] 51))
              have b2 := b2.trans ((al1 w2 (.cells #[.int .u32 (a : Int), .int .i64 (q : Int), .int .i64 u] 51)).mono b2.size)
              refine hK.out _ _ ⟨b2, ?_⟩; clear hK K; simp only [Act.put, List.setIfInBounds_toArray, List.set_cons_zero, List.set_cons_succ]
              refine head_ways [false, false, false, false, false, false, false, false, false, false, false, false, false, true] (by kernel_rfl) (by rfl) (by decide) (by decide) ?_
              repeat refine ways_skip ?_
              refine ways_one (fun K hK => ?_) ?_
              · refine step2 (by rfl) _ _ _ (by rfl) 51 i0 _ 3 24 Try.underlying26 hi0 hz0 hz1 hz2 (by rfl) (by decide) (by decide) W.heap.size _ _ _ (0 + k) 1 ([] ++ fl eEn A) (eEn ((a, q), u)) (by rfl) own2 b2.size (by rfl) d2 (eEn_one _) (by omega) (by omega) ?_
                intro v3 w3 own3 bel3 keep3
                have b3 := b2.trans bel3
                obtain ⟨_, _, _, _, _, r3⟩ := FKH.out _ b3
                refine hK.out _ _ ⟨b3, ?_⟩; clear hK K; simp only [Act.put, List.setIfInBounds_toArray, List.set_cons_zero, List.set_cons_succ]
                refine head_ways [false, false, false, false, false, false, false, false, false, false, false, false, false, false, false, false, false, false, false, false, true] (by kernel_rfl) (by rfl) (by decide) (by decide) ?_
                repeat refine ways_skip ?_
                refine ways_one (fun K hK => ?_) ?_
                · refine step2 (by rfl) _ _ _ (by rfl) 51 i0 _ 3 24 Try.underlying26 hi0 hz0 hz1 hz2 (by rfl) (by decide) (by decide) W.heap.size _ _ _ (0 + k + 1) (m - k) ([] ++ fl eEn A ++ eEn ((a, q), u)) (fl eEn B) (by rfl) own3 b3.size (by rfl) r3 (fl_oneCell eEn_one _) (by omega) (by omega) ?_
                  intro v4 w4 own4 bel4 keep4
                  have b4 := b3.trans bel4
                  refine hK.out _ _ ⟨b4, ?_⟩; clear hK K; simp only [Act.put, List.setIfInBounds_toArray, List.set_cons_zero, List.set_cons_succ]
                  refine head_done (by kernel_rfl) ?_
                  simp only [List.drop_succ_cons, List.drop_zero]
                  obtain ⟨e4, s4, t4, f4, _, _⟩ := FKH.out _ b4
                  obtain ⟨a4, l4, c4, rfl⟩ := own_slice own4
                  have own5 : w4.ownsRow W.heap.size 51 3 (.slice a4 l4 c4) (A ++ ((a, q), u) :: B).length (fl eEn (A ++ ((a, q), u) :: B)) := by
                    have h1 : A.length = k := by rw [← HT.out, List.length_take]; have := HM.out; omega
                    have h2 : B.length = m - k := by rw [← HD.out, List.length_drop]; have := HM.out; omega
                    rw [show fl eEn (A ++ ((a, q), u) :: B) = fl eEn A ++ (eEn ((a, q), u) ++ fl eEn B) by rw [fl_append]; rfl, List.length_append, List.length_cons, h1, h2]
                    rw [show k + (m - k + 1) = 0 + k + 1 + (m - k) by omega]
                    simpa using own4
                  have hs1 : w.heap.size ≤ W.heap.size := B4.out.size
                  have b5 : Below w.heap.size w w4 := B4.out.trans (b4.mono hs1)
                  have HF := hid (ref_done HR.out hn0 hs1 b5 own5)
                  clear own4 own5 b5 b4 hs1 FKH
                  go_wp2_with fail
                  all_goals
                    go_ret
                    first | exact HF.out | (have hcq : cap = k := by assumption
                                            subst hcq; exact HF.out)
                exact ways_end
              exact ways_end
            exact ways_end
          repeat refine ways_skip ?_
          refine ways_one (fun K hK => ?_) ?_
          · go_simp
            refine hK.out _ _ ⟨bAD, ?_⟩; clear hK K; simp only [Act.put, List.setIfInBounds_toArray, List.set_cons_zero, List.set_cons_succ]
            refine head_ways [false, false, false, false, false, false, false, false, true] (by kernel_rfl) (by rfl) (by decide) (by decide) ?_
            repeat refine ways_skip ?_
            refine ways_one (fun K hK => ?_) ?_
            · refine step2 (by rfl) _ _ _ (by rfl) 51 i0 _ 3 24 Try.underlying26 hi0 hz0 hz1 hz2 (by rfl) (by decide) (by decide) W.heap.size _ _ _ 0 k [] (fl eEn A) (by rfl) ownAD bAD.size (by rfl) rAD (fl_oneCell eEn_one _) (by omega) (by omega) ?_
              intro v2 w2 own2 bel2 keep2
              have b2 := bAD.trans bel2
              have d2 := DR.out w2 _ (keep2 _ _ gAD (by simp [Value.ownBlock]))
              refine hK.out _ _ ⟨b2, ?_⟩; clear hK K; simp only [Act.put, List.setIfInBounds_toArray, List.set_cons_zero, List.set_cons_succ]
              refine head_ways [false, false, false, false, false, false, false, false, false, false, false, false, false, true] (by kernel_rfl) (by rfl) (by decide) (by decide) ?_
              repeat refine ways_skip ?_
              refine ways_one (fun K hK => ?_) ?_
              · refine step2 (by rfl) _ _ _ (by rfl) 51 i0 _ 3 24 Try.underlying26 hi0 hz0 hz1 hz2 (by rfl) (by decide) (by decide) W.heap.size _ _ _ (0 + k) 1 ([] ++ fl eEn A) (eEn ((a, q), u)) (by rfl) own2 b2.size (by rfl) d2 (eEn_one _) (by omega) (by omega) ?_
                intro v3 w3 own3 bel3 keep3
                have b3 := b2.trans bel3
                obtain ⟨_, _, _, _, _, r3⟩ := FKH.out _ b3
                refine hK.out _ _ ⟨b3, ?_⟩; clear hK K; simp only [Act.put, List.setIfInBounds_toArray, List.set_cons_zero, List.set_cons_succ]
                refine head_ways [false, false, false, false, false, false, false, false, false, false, false, false, false, false, false, false, false, false, false, false, true] (by kernel_rfl) (by rfl) (by decide) (by decide) ?_
                repeat refine ways_skip ?_
                refine ways_one (fun K hK => ?_) ?_
                · refine step2 (by rfl) _ _ _ (by rfl) 51 i0 _ 3 24 Try.underlying26 hi0 hz0 hz1 hz2 (by rfl) (by decide) (by decide) W.heap.size _ _ _ (0 + k + 1) (m - k) ([] ++ fl eEn A ++ eEn ((a, q), u)) (fl eEn B) (by rfl) own3 b3.size (by rfl) r3 (fl_oneCell eEn_one _) (by omega) (by omega) ?_
                  intro v4 w4 own4 bel4 keep4
                  have b4 := b3.trans bel4
                  refine hK.out _ _ ⟨b4, ?_⟩; clear hK K; simp only [Act.put, List.setIfInBounds_toArray, List.set_cons_zero, List.set_cons_succ]
                  refine head_done (by kernel_rfl) ?_
                  simp only [List.drop_succ_cons, List.drop_zero]
                  obtain ⟨e4, s4, t4, f4, _, _⟩ := FKH.out _ b4
                  obtain ⟨a4, l4, c4, rfl⟩ := own_slice own4
                  have own5 : w4.ownsRow W.heap.size 51 3 (.slice a4 l4 c4) (A ++ ((a, q), u) :: B).length (fl eEn (A ++ ((a, q), u) :: B)) := by
                    have h1 : A.length = k := by rw [← HT.out, List.length_take]; have := HM.out; omega
                    have h2 : B.length = m - k := by rw [← HD.out, List.length_drop]; have := HM.out; omega
                    rw [show fl eEn (A ++ ((a, q), u) :: B) = fl eEn A ++ (eEn ((a, q), u) ++ fl eEn B) by rw [fl_append]; rfl, List.length_append, List.length_cons, h1, h2]
                    rw [show k + (m - k + 1) = 0 + k + 1 + (m - k) by omega]
                    simpa using own4
                  have hs1 : w.heap.size ≤ W.heap.size := B4.out.size
                  have b5 : Below w.heap.size w w4 := B4.out.trans (b4.mono hs1)
                  have HF := hid (ref_done HR.out hn0 hs1 b5 own5)
                  clear own4 own5 b5 b4 hs1 FKH
                  go_wp2_with fail
                  all_goals
                    go_ret
                    first | exact HF.out | (have hcq : cap = k := by assumption
                                            subst hcq; exact HF.out)
                exact ways_end
              exact ways_end
            exact ways_end
          exact ways_end
        repeat refine ways_skip ?_
        refine ways_one (fun K hK => ?_) ?_
        · go_simp
          refine hK.out _ _ ⟨bD, ?_⟩; clear hK K; simp only [Act.put, List.setIfInBounds_toArray, List.set_cons_zero, List.set_cons_succ]
          refine head_ways [false, true] (by kernel_rfl) (by rfl) (by decide) (by decide) ?_
          repeat refine ways_skip ?_
          refine ways_one (fun K hK => ?_) ?_
          · go_simp
            refine hK.out _ _ ⟨bDA, ?_⟩; clear hK K; simp only [Act.put, List.setIfInBounds_toArray, List.set_cons_zero, List.set_cons_succ]
            refine head_ways [false, false, false, false, false, false, false, false, true] (by kernel_rfl) (by rfl) (by decide) (by decide) ?_
            repeat refine ways_skip ?_
            refine ways_one (fun K hK => ?_) ?_
            · refine step2 (by rfl) _ _ _ (by rfl) 51 i0 _ 3 24 Try.underlying26 hi0 hz0 hz1 hz2 (by rfl) (by decide) (by decide) W.heap.size _ _ _ 0 k [] (fl eEn A) (by rfl) ownDA bDA.size (by rfl) rDA (fl_oneCell eEn_one _) (by omega) (by omega) ?_
              intro v2 w2 own2 bel2 keep2
              have b2 := bDA.trans bel2
              have d2 := DR.out w2 _ (keep2 _ _ gDA (by simp [Value.ownBlock]))
              refine hK.out _ _ ⟨b2, ?_⟩; clear hK K; simp only [Act.put, List.setIfInBounds_toArray, List.set_cons_zero, List.set_cons_succ]
              refine head_ways [false, false, false, false, false, false, false, false, false, false, false, false, false, true] (by kernel_rfl) (by rfl) (by decide) (by decide) ?_
              repeat refine ways_skip ?_
              refine ways_one (fun K hK => ?_) ?_
              · refine step2 (by rfl) _ _ _ (by rfl) 51 i0 _ 3 24 Try.underlying26 hi0 hz0 hz1 hz2 (by rfl) (by decide) (by decide) W.heap.size _ _ _ (0 + k) 1 ([] ++ fl eEn A) (eEn ((a, q), u)) (by rfl) own2 b2.size (by rfl) d2 (eEn_one _) (by omega) (by omega) ?_
                intro v3 w3 own3 bel3 keep3
                have b3 := b2.trans bel3
                obtain ⟨_, _, _, _, _, r3⟩ := FKH.out _ b3
                refine hK.out _ _ ⟨b3, ?_⟩; clear hK K; simp only [Act.put, List.setIfInBounds_toArray, List.set_cons_zero, List.set_cons_succ]
                refine head_ways [false, false, false, false, false, false, false, false, false, false, false, false, false, false, false, false, false, false, false, false, true] (by kernel_rfl) (by rfl) (by decide) (by decide) ?_
                repeat refine ways_skip ?_
                refine ways_one (fun K hK => ?_) ?_
                · refine step2 (by rfl) _ _ _ (by rfl) 51 i0 _ 3 24 Try.underlying26 hi0 hz0 hz1 hz2 (by rfl) (by decide) (by decide) W.heap.size _ _ _ (0 + k + 1) (m - k) ([] ++ fl eEn A ++ eEn ((a, q), u)) (fl eEn B) (by rfl) own3 b3.size (by rfl) r3 (fl_oneCell eEn_one _) (by omega) (by omega) ?_
                  intro v4 w4 own4 bel4 keep4
                  have b4 := b3.trans bel4
                  refine hK.out _ _ ⟨b4, ?_⟩; clear hK K; simp only [Act.put, List.setIfInBounds_toArray, List.set_cons_zero, List.set_cons_succ]
                  refine head_done (by kernel_rfl) ?_
                  simp only [List.drop_succ_cons, List.drop_zero]
                  obtain ⟨e4, s4, t4, f4, _, _⟩ := FKH.out _ b4
                  obtain ⟨a4, l4, c4, rfl⟩ := own_slice own4
                  have own5 : w4.ownsRow W.heap.size 51 3 (.slice a4 l4 c4) (A ++ ((a, q), u) :: B).length (fl eEn (A ++ ((a, q), u) :: B)) := by
                    have h1 : A.length = k := by rw [← HT.out, List.length_take]; have := HM.out; omega
                    have h2 : B.length = m - k := by rw [← HD.out, List.length_drop]; have := HM.out; omega
                    rw [show fl eEn (A ++ ((a, q), u) :: B) = fl eEn A ++ (eEn ((a, q), u) ++ fl eEn B) by rw [fl_append]; rfl, List.length_append, List.length_cons, h1, h2]
                    rw [show k + (m - k + 1) = 0 + k + 1 + (m - k) by omega]
                    simpa using own4
                  have hs1 : w.heap.size ≤ W.heap.size := B4.out.size
                  have b5 : Below w.heap.size w w4 := B4.out.trans (b4.mono hs1)
                  have HF := hid (ref_done HR.out hn0 hs1 b5 own5)
                  clear own4 own5 b5 b4 hs1 FKH
                  go_wp2_with fail
                  all_goals
                    go_ret
                    first | exact HF.out | (have hcq : cap = k := by assumption
                                            subst hcq; exact HF.out)
                exact ways_end
              exact ways_end
            exact ways_end
          exact ways_end
        exact ways_end
      · rcases HX2.out with ⟨b6, off6, rfl, hbl6, hc6⟩ | ⟨rfl, hm0, hc0⟩
        · have hlt : ¬ (k : Int) < (m : Int) := by omega
          have HC6 := hid hc6
          have hs6 := Nat.lt_of_lt_of_le hbl6 B3.out.size
          clear hc6
          go_wp2_with fail
          refine wp_region_later wr.heap.size (by kernel_rfl) (by kernel_rfl) ?_
          repeat (go_big_quiet_step (fail))
          refine wpQuiet_nil ?_
          rintro _ ⟨u1, rfl⟩
          go_wp2
          have R4 := hid (R3.out.below u1.h)
          have X4 := hid (blk_keep X3.out u1.h)
          have B4 := hid (then_ B3.out u1.h)
          have hb4 := Nat.lt_of_lt_of_le hs6 u1.h.size
          have HC4 := hid (show ∀ j x, (fl eEn L)[j]? = some x → u1.w.cell? ⟨b6, off6 + j, none⟩ = some x from fun j x hj => (B4.out.cell (p := ⟨b6, off6 + j, none⟩) hbl6).trans (HC6.out j x hj))
          clear c0 y0 y1 hkm
          generalize u1.w = W at *
          have FK : ∀ X, Below W.heap.size W X → X.cell? ⟨mb, 0, none⟩ = some (.slice (some ⟨b6, off6, none⟩) m cap) ∧ X.cell? ⟨w.heap.size, 0, none⟩ = some (.int .u32 (a : Int)) ∧ X.cell? ⟨w.heap.size, 1, none⟩ = some (.int .i64 (q : Int)) ∧ X.frozen? ⟨mb, 0, none⟩ = false ∧ Tm.Rows X 3 (.slice (some ⟨b6, off6, none⟩) k cap) k (fl eEn A) ∧ Tm.Rows X 3 (.slice (if cap = k then some ⟨b6, off6, none⟩ else some ⟨b6, off6 + k * 3, none⟩) (m - k) (cap - k)) (m - k) (fl eEn B) := fun X hX => by
            have hcX : ∀ j x, (fl eEn L)[j]? = some x → X.cell? ⟨b6, off6 + j, none⟩ = some x := fun j x hj => (hX.cell (p := ⟨b6, off6 + j, none⟩) hb4).trans (HC4.out j x hj)
            refine ⟨(hX.cell (p := ⟨mb, 0, none⟩) (blk_lt R4.out.box)).trans R4.out.cell, (hX.cell (p := ⟨w.heap.size, 0, none⟩) (blk_lt X4.out)).trans (blk_two X4.out).1.1, (hX.cell (p := ⟨w.heap.size, 1, none⟩) (blk_lt X4.out)).trans (blk_two X4.out).1.2, blk_frozen (blk_keep R4.out.box hX) 0, ?_, ?_⟩
            · have := rows_take HM.out (by omega : k ≤ m) hcX hnc cap (by omega)
              rwa [HT.out] at this
            · have := rows_drop HM.out (by omega : k ≤ m) hcX (cap - k) (by omega)
              rw [HD.out] at this
              split
              · have hz : m - k = 0 := by omega
                have hB : B = [] := by rw [← HD.out]; exact List.drop_eq_nil_of_le (by have := HM.out; omega)
                rw [hz, hB]
                exact rows_zero
              · exact this
          have FKH := hid FK
          clear FK
          have hk1 : (0 : Int) ≤ (k : Int) := by omega
          have hk2 : (k : Int) ≤ (m : Int) := by omega
          have hk3 : (k : Int) ≤ (cap : Int) := by omega
          have hk7 : (m : Int) ≤ (cap : Int) := by omega
          refine wp_region_head 21 (fun v => Below W.heap.size W v) (by kernel_rfl) (by kernel_rfl) ?_
          refine head_takes (f := 5) (le := #[true, false, true, true, true, true, true, true, false, true, true, true, false, false, true, true, true, true, true, true, false, false, false, false]) [true, false, true, true, true, true, true, true, false, true, true, true, false, false, true, true, true, true, true, true] (by kernel_rfl) (by kernel_rfl) (by decide) (by rfl) (fun c a d v w h => by cases d <;> exact h) (Below.refl _ _).drew ?_
          iterate 20 (first | refine takes_skip ?_ | (refine takes_one (v := ?_) (by rfl) ?_ ?_; rotate_left; (· intro wz hSz; obtain ⟨e, s, t, _⟩ := FKH.out wz hSz; clear hSz; go_simp; try with_reducible rfl); simp only [Act.put, List.setIfInBounds_toArray, List.set_cons_zero, List.set_cons_succ]))
          refine takes_end ?_
          have bA : Below W.heap.size W (W.alloc (.cells #[] 51)).drew := (al1 W _).drew
          have bD : Below W.heap.size W (W.alloc (.cells #[.int .u32 (a : Int), .int .i64 (q : Int), .int .i64 u] 51)).drew := (al1 W _).drew
          have bAD : Below W.heap.size W ((W.alloc (.cells #[] 51)).alloc (.cells #[.int .u32 (a : Int), .int .i64 (q : Int), .int .i64 u] 51)).drew := (al2 W _ _).drew
          have bDA : Below W.heap.size W ((W.alloc (.cells #[.int .u32 (a : Int), .int .i64 (q : Int), .int .i64 u] 51)).alloc (.cells #[] 51)).drew := (al2 W _ _).drew
          obtain ⟨_, _, _, _, rA, _⟩ := FKH.out _ bA
          obtain ⟨_, _, _, _, rAD, _⟩ := FKH.out _ bAD
          obtain ⟨_, _, _, _, rDA, _⟩ := FKH.out _ bDA
          have ownA := own_new W [] 51 3 W.heap.size 0 rfl (by decide) (Nat.le_refl _)
          have ownAD := ownA.alloc (.cells #[.int .u32 (a : Int), .int .i64 (q : Int), .int .i64 u] 51)
          have ownDA : ((W.alloc (.cells #[.int .u32 (a : Int), .int .i64 (q : Int), .int .i64 u] 51)).alloc (.cells #[] 51)).drew.ownsRow W.heap.size 51 3 (.slice (some ⟨W.heap.size + 1, 0, none⟩) 0 0) 0 [] := by
            have h := own_new (W.alloc (.cells #[.int .u32 (a : Int), .int .i64 (q : Int), .int .i64 u] 51)) [] 51 3 W.heap.size 0 rfl (by decide) (by simp)
            rw [show (W.alloc (.cells #[.int .u32 (a : Int), .int .i64 (q : Int), .int .i64 u] 51)).heap.size = W.heap.size + 1 by simp] at h
            exact h
          have gAD : ((W.alloc (.cells #[] 51)).alloc (.cells #[.int .u32 (a : Int), .int .i64 (q : Int), .int .i64 u] 51)).drew.heap[W.heap.size + 1]? = some (Obj.cells #[.int .u32 (a : Int), .int .i64 (q : Int), .int .i64 u] 51) := by
            have h := heap_new (W.alloc (.cells #[] 51)) (.cells #[.int .u32 (a : Int), .int .i64 (q : Int), .int .i64 u] 51)
            rw [show (W.alloc (.cells #[] 51)).heap.size = W.heap.size + 1 by simp] at h
            exact h
          have gDA : ((W.alloc (.cells #[.int .u32 (a : Int), .int .i64 (q : Int), .int .i64 u] 51)).alloc (.cells #[] 51)).drew.heap[W.heap.size]? = some (Obj.cells #[.int .u32 (a : Int), .int .i64 (q : Int), .int .i64 u] 51) := blk_keep (heap_new W (.cells #[.int .u32 (a : Int), .int .i64 (q : Int), .int .i64 u] 51)) (al1 (W.alloc (.cells #[.int .u32 (a : Int), .int .i64 (q : Int), .int .i64 u] 51)) (.cells #[] 51)).drew
          have dRow : ∀ X g, X.heap[g]? = some (Obj.cells #[.int .u32 (a : Int), .int .i64 (q : Int), .int .i64 u] 51) → Tm.Rows X 3 (.slice (some ⟨g, 0, none⟩) 1 1) 1 (eEn ((a, q), u)) := fun X g hg => by
            refine rows_at rfl (Nat.le_refl _) fun j x hj => ?_
            have := blk_cell hg j
            rw [Nat.zero_add, this]
            simpa [eEn] using hj
          have DR := hid dRow
          clear dRow
          obtain ⟨i0, hi0, hz0, hz1, hz2⟩ := info_parts enInfo
          refine head_ways [false, true, false, false, false, false, false, false, false, false, false, false, true] (by kernel_rfl) (by rfl) (by decide) (by decide) ?_
          repeat refine ways_skip ?_
          refine ways_one (fun K hK => ?_) ?_
          · go_simp
            refine hK.out _ _ ⟨bA, ?_⟩; clear hK K; simp only [Act.put, List.setIfInBounds_toArray, List.set_cons_zero, List.set_cons_succ]
            refine head_ways [false, false, false, false, false, false, false, false, true, false, false, false, true] (by kernel_rfl) (by rfl) (by decide) (by decide) ?_
            repeat refine ways_skip ?_
            refine ways_one (fun K hK => ?_) ?_
            · refine step2 (by rfl) _ _ _ (by rfl) 51 i0 _ 3 24 Try.underlying26 hi0 hz0 hz1 hz2 (by rfl) (by decide) (by decide) W.heap.size _ _ _ 0 k [] (fl eEn A) (by rfl) ownA bA.size (by rfl) rA (fl_oneCell eEn_one _) (by omega) (by omega) ?_
              intro v2 w2 own2 bel2 keep2
              have b2 := bA.trans bel2
              refine hK.out _ _ ⟨b2, ?_⟩; clear hK K; simp only [Act.put, List.setIfInBounds_toArray, List.set_cons_zero, List.set_cons_succ]
              refine head_ways [false, false, false, false, false, false, false, false, false, false, false, false, true] (by kernel_rfl) (by rfl) (by decide) (by decide) ?_
              repeat refine ways_skip ?_
              refine ways_one (fun K hK => ?_) ?_
              · go_simp
                have own2 := own2.alloc (.cells #[.int .u32 (a : Int), .int .i64 (q : Int), .int .i64 u] 51)
                have d2 := DR.out (w2.alloc (.cells #[.int .u32 (a : Int), .int .i64 (q : Int), .int .i64 u] 51)) _ (heap_new w2 (.cells #[.int .u32 (a : Int), .int .i64 (q : Int), .int .i64 u] 51))
                have b2 := b2.trans ((al1 w2 (.cells #[.int .u32 (a : Int), .int .i64 (q : Int), .int .i64 u] 51)).mono b2.size)
                refine hK.out _ _ ⟨b2, ?_⟩; clear hK K; simp only [Act.put, List.setIfInBounds_toArray, List.set_cons_zero, List.set_cons_succ]
                refine head_ways [false, false, false, false, false, false, false, false, false, false, false, false, false, true] (by kernel_rfl) (by rfl) (by decide) (by decide) ?_
                repeat refine ways_skip ?_
                refine ways_one (fun K hK => ?_) ?_
                · refine step2 (by rfl) _ _ _ (by rfl) 51 i0 _ 3 24 Try.underlying26 hi0 hz0 hz1 hz2 (by rfl) (by decide) (by decide) W.heap.size _ _ _ (0 + k) 1 ([] ++ fl eEn A) (eEn ((a, q), u)) (by rfl) own2 b2.size (by rfl) d2 (eEn_one _) (by omega) (by omega) ?_
                  intro v3 w3 own3 bel3 keep3
                  have b3 := b2.trans bel3
                  obtain ⟨_, _, _, _, _, r3⟩ := FKH.out _ b3
                  refine hK.out _ _ ⟨b3, ?_⟩; clear hK K; simp only [Act.put, List.setIfInBounds_toArray, List.set_cons_zero, List.set_cons_succ]
                  refine head_ways [false, false, false, false, false, false, false, false, false, false, false, false, false, false, false, false, false, false, false, false, true] (by kernel_rfl) (by rfl) (by decide) (by decide) ?_
                  repeat refine ways_skip ?_
                  refine ways_one (fun K hK => ?_) ?_
                  · refine step2 (by rfl) _ _ _ (by rfl) 51 i0 _ 3 24 Try.underlying26 hi0 hz0 hz1 hz2 (by rfl) (by decide) (by decide) W.heap.size _ _ _ (0 + k + 1) (m - k) ([] ++ fl eEn A ++ eEn ((a, q), u)) (fl eEn B) (by rfl) own3 b3.size (by rfl) r3 (fl_oneCell eEn_one _) (by omega) (by omega) ?_
                    intro v4 w4 own4 bel4 keep4
                    have b4 := b3.trans bel4
                    refine hK.out _ _ ⟨b4, ?_⟩; clear hK K; simp only [Act.put, List.setIfInBounds_toArray, List.set_cons_zero, List.set_cons_succ]
                    refine head_done (by kernel_rfl) ?_
                    simp only [List.drop_succ_cons, List.drop_zero]
                    obtain ⟨e4, s4, t4, f4, _, _⟩ := FKH.out _ b4
                    obtain ⟨a4, l4, c4, rfl⟩ := own_slice own4
                    have own5 : w4.ownsRow W.heap.size 51 3 (.slice a4 l4 c4) (A ++ ((a, q), u) :: B).length (fl eEn (A ++ ((a, q), u) :: B)) := by
                      have h1 : A.length = k := by rw [← HT.out, List.length_take]; have := HM.out; omega
                      have h2 : B.length = m - k := by rw [← HD.out, List.length_drop]; have := HM.out; omega
                      rw [show fl eEn (A ++ ((a, q), u) :: B) = fl eEn A ++ (eEn ((a, q), u) ++ fl eEn B) by rw [fl_append]; rfl, List.length_append, List.length_cons, h1, h2]
                      rw [show k + (m - k + 1) = 0 + k + 1 + (m - k) by omega]
                      simpa using own4
                    have hs1 : w.heap.size ≤ W.heap.size := B4.out.size
                    have b5 : Below w.heap.size w w4 := B4.out.trans (b4.mono hs1)
                    have HF := hid (ref_done HR.out hn0 hs1 b5 own5)
                    clear own4 own5 b5 b4 hs1 FKH
                    go_wp2_with fail
                    all_goals
                      go_ret
                      first | exact HF.out | (have hcq : cap = k := by assumption
                                              subst hcq; exact HF.out)
                  exact ways_end
                exact ways_end
              exact ways_end
            repeat refine ways_skip ?_
            refine ways_one (fun K hK => ?_) ?_
            · go_simp
              refine hK.out _ _ ⟨bAD, ?_⟩; clear hK K; simp only [Act.put, List.setIfInBounds_toArray, List.set_cons_zero, List.set_cons_succ]
              refine head_ways [false, false, false, false, false, false, false, false, true] (by kernel_rfl) (by rfl) (by decide) (by decide) ?_
              repeat refine ways_skip ?_
              refine ways_one (fun K hK => ?_) ?_
              · refine step2 (by rfl) _ _ _ (by rfl) 51 i0 _ 3 24 Try.underlying26 hi0 hz0 hz1 hz2 (by rfl) (by decide) (by decide) W.heap.size _ _ _ 0 k [] (fl eEn A) (by rfl) ownAD bAD.size (by rfl) rAD (fl_oneCell eEn_one _) (by omega) (by omega) ?_
                intro v2 w2 own2 bel2 keep2
                have b2 := bAD.trans bel2
                have d2 := DR.out w2 _ (keep2 _ _ gAD (by simp [Value.ownBlock]))
                refine hK.out _ _ ⟨b2, ?_⟩; clear hK K; simp only [Act.put, List.setIfInBounds_toArray, List.set_cons_zero, List.set_cons_succ]
                refine head_ways [false, false, false, false, false, false, false, false, false, false, false, false, false, true] (by kernel_rfl) (by rfl) (by decide) (by decide) ?_
                repeat refine ways_skip ?_
                refine ways_one (fun K hK => ?_) ?_
                · refine step2 (by rfl) _ _ _ (by rfl) 51 i0 _ 3 24 Try.underlying26 hi0 hz0 hz1 hz2 (by rfl) (by decide) (by decide) W.heap.size _ _ _ (0 + k) 1 ([] ++ fl eEn A) (eEn ((a, q), u)) (by rfl) own2 b2.size (by rfl) d2 (eEn_one _) (by omega) (by omega) ?_
                  intro v3 w3 own3 bel3 keep3
                  have b3 := b2.trans bel3
                  obtain ⟨_, _, _, _, _, r3⟩ := FKH.out _ b3
                  refine hK.out _ _ ⟨b3, ?_⟩; clear hK K; simp only [Act.put, List.setIfInBounds_toArray, List.set_cons_zero, List.set_cons_succ]
                  refine head_ways [false, false, false, false, false, false, false, false, false, false, false, false, false, false, false, false, false, false, false, false, true] (by kernel_rfl) (by rfl) (by decide) (by decide) ?_
                  repeat refine ways_skip ?_
                  refine ways_one (fun K hK => ?_) ?_
                  · refine step2 (by rfl) _ _ _ (by rfl) 51 i0 _ 3 24 Try.underlying26 hi0 hz0 hz1 hz2 (by rfl) (by decide) (by decide) W.heap.size _ _ _ (0 + k + 1) (m - k) ([] ++ fl eEn A ++ eEn ((a, q), u)) (fl eEn B) (by rfl) own3 b3.size (by rfl) r3 (fl_oneCell eEn_one _) (by omega) (by omega) ?_
                    intro v4 w4 own4 bel4 keep4
                    have b4 := b3.trans bel4
                    refine hK.out _ _ ⟨b4, ?_⟩; clear hK K; simp only [Act.put, List.setIfInBounds_toArray, List.set_cons_zero, List.set_cons_succ]
                    refine head_done (by kernel_rfl) ?_
                    simp only [List.drop_succ_cons, List.drop_zero]
                    obtain ⟨e4, s4, t4, f4, _, _⟩ := FKH.out _ b4
                    obtain ⟨a4, l4, c4, rfl⟩ := own_slice own4
                    have own5 : w4.ownsRow W.heap.size 51 3 (.slice a4 l4 c4) (A ++ ((a, q), u) :: B).length (fl eEn (A ++ ((a, q), u) :: B)) := by
                      have h1 : A.length = k := by rw [← HT.out, List.length_take]; have := HM.out; omega
                      have h2 : B.length = m - k := by rw [← HD.out, List.length_drop]; have := HM.out; omega
                      rw [show fl eEn (A ++ ((a, q), u) :: B) = fl eEn A ++ (eEn ((a, q), u) ++ fl eEn B) by rw [fl_append]; rfl, List.length_append, List.length_cons, h1, h2]
                      rw [show k + (m - k + 1) = 0 + k + 1 + (m - k) by omega]
                      simpa using own4
                    have hs1 : w.heap.size ≤ W.heap.size := B4.out.size
                    have b5 : Below w.heap.size w w4 := B4.out.trans (b4.mono hs1)
                    have HF := hid (ref_done HR.out hn0 hs1 b5 own5)
                    clear own4 own5 b5 b4 hs1 FKH
                    go_wp2_with fail
                    all_goals
                      go_ret
                      first | exact HF.out | (have hcq : cap = k := by assumption
                                              subst hcq; exact HF.out)
                  exact ways_end
                exact ways_end
              exact ways_end
            exact ways_end
          repeat refine ways_skip ?_
          refine ways_one (fun K hK => ?_) ?_
          · go_simp
            refine hK.out _ _ ⟨bD, ?_⟩; clear hK K; simp only [Act.put, List.setIfInBounds_toArray, List.set_cons_zero, List.set_cons_succ]
            refine head_ways [false, true] (by kernel_rfl) (by rfl) (by decide) (by decide) ?_
            repeat refine ways_skip ?_
            refine ways_one (fun K hK => ?_) ?_
            · go_simp
              refine hK.out _ _ ⟨bDA, ?_⟩; clear hK K; simp only [Act.put, List.setIfInBounds_toArray, List.set_cons_zero, List.set_cons_succ]
              refine head_ways [false, false, false, false, false, false, false, false, true] (by kernel_rfl) (by rfl) (by decide) (by decide) ?_
              repeat refine ways_skip ?_
              refine ways_one (fun K hK => ?_) ?_
              · refine step2 (by rfl) _ _ _ (by rfl) 51 i0 _ 3 24 Try.underlying26 hi0 hz0 hz1 hz2 (by rfl) (by decide) (by decide) W.heap.size _ _ _ 0 k [] (fl eEn A) (by rfl) ownDA bDA.size (by rfl) rDA (fl_oneCell eEn_one _) (by omega) (by omega) ?_
                intro v2 w2 own2 bel2 keep2
                have b2 := bDA.trans bel2
                have d2 := DR.out w2 _ (keep2 _ _ gDA (by simp [Value.ownBlock]))
                refine hK.out _ _ ⟨b2, ?_⟩; clear hK K; simp only [Act.put, List.setIfInBounds_toArray, List.set_cons_zero, List.set_cons_succ]
                refine head_ways [false, false, false, false, false, false, false, false, false, false, false, false, false, true] (by kernel_rfl) (by rfl) (by decide) (by decide) ?_
                repeat refine ways_skip ?_
                refine ways_one (fun K hK => ?_) ?_
                · refine step2 (by rfl) _ _ _ (by rfl) 51 i0 _ 3 24 Try.underlying26 hi0 hz0 hz1 hz2 (by rfl) (by decide) (by decide) W.heap.size _ _ _ (0 + k) 1 ([] ++ fl eEn A) (eEn ((a, q), u)) (by rfl) own2 b2.size (by rfl) d2 (eEn_one _) (by omega) (by omega) ?_
                  intro v3 w3 own3 bel3 keep3
                  have b3 := b2.trans bel3
                  obtain ⟨_, _, _, _, _, r3⟩ := FKH.out _ b3
                  refine hK.out _ _ ⟨b3, ?_⟩; clear hK K; simp only [Act.put, List.setIfInBounds_toArray, List.set_cons_zero, List.set_cons_succ]
                  refine head_ways [false, false, false, false, false, false, false, false, false, false, false, false, false, false, false, false, false, false, false, false, true] (by kernel_rfl) (by rfl) (by decide) (by decide) ?_
                  repeat refine ways_skip ?_
                  refine ways_one (fun K hK => ?_) ?_
                  · refine step2 (by rfl) _ _ _ (by rfl) 51 i0 _ 3 24 Try.underlying26 hi0 hz0 hz1 hz2 (by rfl) (by decide) (by decide) W.heap.size _ _ _ (0 + k + 1) (m - k) ([] ++ fl eEn A ++ eEn ((a, q), u)) (fl eEn B) (by rfl) own3 b3.size (by rfl) r3 (fl_oneCell eEn_one _) (by omega) (by omega) ?_
                    intro v4 w4 own4 bel4 keep4
                    have b4 := b3.trans bel4
                    refine hK.out _ _ ⟨b4, ?_⟩; clear hK K; simp only [Act.put, List.setIfInBounds_toArray, List.set_cons_zero, List.set_cons_succ]
                    refine head_done (by kernel_rfl) ?_
                    simp only [List.drop_succ_cons, List.drop_zero]
                    obtain ⟨e4, s4, t4, f4, _, _⟩ := FKH.out _ b4
                    obtain ⟨a4, l4, c4, rfl⟩ := own_slice own4
                    have own5 : w4.ownsRow W.heap.size 51 3 (.slice a4 l4 c4) (A ++ ((a, q), u) :: B).length (fl eEn (A ++ ((a, q), u) :: B)) := by
                      have h1 : A.length = k := by rw [← HT.out, List.length_take]; have := HM.out; omega
                      have h2 : B.length = m - k := by rw [← HD.out, List.length_drop]; have := HM.out; omega
                      rw [show fl eEn (A ++ ((a, q), u) :: B) = fl eEn A ++ (eEn ((a, q), u) ++ fl eEn B) by rw [fl_append]; rfl, List.length_append, List.length_cons, h1, h2]
                      rw [show k + (m - k + 1) = 0 + k + 1 + (m - k) by omega]
                      simpa using own4
                    have hs1 : w.heap.size ≤ W.heap.size := B4.out.size
                    have b5 : Below w.heap.size w w4 := B4.out.trans (b4.mono hs1)
                    have HF := hid (ref_done HR.out hn0 hs1 b5 own5)
                    clear own4 own5 b5 b4 hs1 FKH
                    go_wp2_with fail
                    all_goals
                      go_ret
                      first | exact HF.out | (have hcq : cap = k := by assumption
                                              subst hcq; exact HF.out)
                  exact ways_end
                exact ways_end
              exact ways_end
            exact ways_end
          exact ways_end
        · subst hm0 hc0
          obtain rfl : k = 0 := by omega
          have hlt : ¬ ((0 : Nat) : Int) < ((0 : Nat) : Int) := by omega
          have hA : A = [] := by rw [← HT.out]; rfl
          have hB : B = [] := by rw [← HD.out]; exact List.drop_eq_nil_of_le (by have := HM.out; omega)
          subst hA hB
          clear HT HD HM
          go_wp2_with fail
          refine wp_region_later wr.heap.size (by kernel_rfl) (by kernel_rfl) ?_
          repeat (go_big_quiet_step (fail))
          refine wpQuiet_nil ?_
          rintro _ ⟨u1, rfl⟩
          go_wp2
          have R4 := hid (R3.out.below u1.h)
          have X4 := hid (blk_keep X3.out u1.h)
          have B4 := hid (then_ B3.out u1.h)
          clear c0 y0 y1 hkm
          generalize u1.w = W at *
          have FK : ∀ X, Below W.heap.size W X → X.cell? ⟨mb, 0, none⟩ = some (.slice none 0 0) ∧ X.cell? ⟨w.heap.size, 0, none⟩ = some (.int .u32 (a : Int)) ∧ X.cell? ⟨w.heap.size, 1, none⟩ = some (.int .i64 (q : Int)) ∧ X.frozen? ⟨mb, 0, none⟩ = false ∧ Tm.Rows X 3 (.slice none 0 0) 0 [] ∧ Tm.Rows X 3 (.slice none 0 0) 0 [] := fun X hX =>
            ⟨(hX.cell (p := ⟨mb, 0, none⟩) (blk_lt R4.out.box)).trans R4.out.cell, (hX.cell (p := ⟨w.heap.size, 0, none⟩) (blk_lt X4.out)).trans (blk_two X4.out).1.1, (hX.cell (p := ⟨w.heap.size, 1, none⟩) (blk_lt X4.out)).trans (blk_two X4.out).1.2, blk_frozen (blk_keep R4.out.box hX) 0, rows_nil, rows_nil⟩
          have FKH := hid FK
          clear FK
          refine wp_region_head 21 (fun v => Below W.heap.size W v) (by kernel_rfl) (by kernel_rfl) ?_
          refine head_takes (f := 5) (le := #[true, false, true, true, true, true, true, true, false, true, true, true, false, false, true, true, true, true, true, true, false, false, false, false]) [true, false, true, true, true, true, true, true, false, true, true, true, false, false, true, true, true, true, true, true] (by kernel_rfl) (by kernel_rfl) (by decide) (by rfl) (fun c a d v w h => by cases d <;> exact h) (Below.refl _ _).drew ?_
          iterate 20 (first | refine takes_skip ?_ | (refine takes_one (v := ?_) (by rfl) ?_ ?_; rotate_left; (· intro wz hSz; obtain ⟨e, s, t, _⟩ := FKH.out wz hSz; clear hSz; go_simp; try with_reducible rfl); simp only [Act.put, List.setIfInBounds_toArray, List.set_cons_zero, List.set_cons_succ]))
          refine takes_end ?_
          have bA : Below W.heap.size W (W.alloc (.cells #[] 51)).drew := (al1 W _).drew
          have bD : Below W.heap.size W (W.alloc (.cells #[.int .u32 (a : Int), .int .i64 (q : Int), .int .i64 u] 51)).drew := (al1 W _).drew
          have bAD : Below W.heap.size W ((W.alloc (.cells #[] 51)).alloc (.cells #[.int .u32 (a : Int), .int .i64 (q : Int), .int .i64 u] 51)).drew := (al2 W _ _).drew
          have bDA : Below W.heap.size W ((W.alloc (.cells #[.int .u32 (a : Int), .int .i64 (q : Int), .int .i64 u] 51)).alloc (.cells #[] 51)).drew := (al2 W _ _).drew
          obtain ⟨_, _, _, _, rA, _⟩ := FKH.out _ bA
          obtain ⟨_, _, _, _, rAD, _⟩ := FKH.out _ bAD
          obtain ⟨_, _, _, _, rDA, _⟩ := FKH.out _ bDA
          have ownA := own_new W [] 51 3 W.heap.size 0 rfl (by decide) (Nat.le_refl _)
          have ownAD := ownA.alloc (.cells #[.int .u32 (a : Int), .int .i64 (q : Int), .int .i64 u] 51)
          have ownDA : ((W.alloc (.cells #[.int .u32 (a : Int), .int .i64 (q : Int), .int .i64 u] 51)).alloc (.cells #[] 51)).drew.ownsRow W.heap.size 51 3 (.slice (some ⟨W.heap.size + 1, 0, none⟩) 0 0) 0 [] := by
            have h := own_new (W.alloc (.cells #[.int .u32 (a : Int), .int .i64 (q : Int), .int .i64 u] 51)) [] 51 3 W.heap.size 0 rfl (by decide) (by simp)
            rw [show (W.alloc (.cells #[.int .u32 (a : Int), .int .i64 (q : Int), .int .i64 u] 51)).heap.size = W.heap.size + 1 by simp] at h
            exact h
          have gAD : ((W.alloc (.cells #[] 51)).alloc (.cells #[.int .u32 (a : Int), .int .i64 (q : Int), .int .i64 u] 51)).drew.heap[W.heap.size + 1]? = some (Obj.cells #[.int .u32 (a : Int), .int .i64 (q : Int), .int .i64 u] 51) := by
            have h := heap_new (W.alloc (.cells #[] 51)) (.cells #[.int .u32 (a : Int), .int .i64 (q : Int), .int .i64 u] 51)
            rw [show (W.alloc (.cells #[] 51)).heap.size = W.heap.size + 1 by simp] at h
            exact h
          have gDA : ((W.alloc (.cells #[.int .u32 (a : Int), .int .i64 (q : Int), .int .i64 u] 51)).alloc (.cells #[] 51)).drew.heap[W.heap.size]? = some (Obj.cells #[.int .u32 (a : Int), .int .i64 (q : Int), .int .i64 u] 51) := blk_keep (heap_new W (.cells #[.int .u32 (a : Int), .int .i64 (q : Int), .int .i64 u] 51)) (al1 (W.alloc (.cells #[.int .u32 (a : Int), .int .i64 (q : Int), .int .i64 u] 51)) (.cells #[] 51)).drew
          have dRow : ∀ X g, X.heap[g]? = some (Obj.cells #[.int .u32 (a : Int), .int .i64 (q : Int), .int .i64 u] 51) → Tm.Rows X 3 (.slice (some ⟨g, 0, none⟩) 1 1) 1 (eEn ((a, q), u)) := fun X g hg => by
            refine rows_at rfl (Nat.le_refl _) fun j x hj => ?_
            have := blk_cell hg j
            rw [Nat.zero_add, this]
            simpa [eEn] using hj
          have DR := hid dRow
          clear dRow
          obtain ⟨i0, hi0, hz0, hz1, hz2⟩ := info_parts enInfo
          refine head_ways [false, true, false, false, false, false, false, false, false, false, false, false, true] (by kernel_rfl) (by rfl) (by decide) (by decide) ?_
          repeat refine ways_skip ?_
          refine ways_one (fun K hK => ?_) ?_
          · go_simp
            refine hK.out _ _ ⟨bA, ?_⟩; clear hK K; simp only [Act.put, List.setIfInBounds_toArray, List.set_cons_zero, List.set_cons_succ]
            refine head_ways [false, false, false, false, false, false, false, false, true, false, false, false, true] (by kernel_rfl) (by rfl) (by decide) (by decide) ?_
            repeat refine ways_skip ?_
            refine ways_one (fun K hK => ?_) ?_
            · refine step2 (by rfl) _ _ _ (by rfl) 51 i0 _ 3 24 Try.underlying26 hi0 hz0 hz1 hz2 (by rfl) (by decide) (by decide) W.heap.size _ _ _ 0 0 [] (fl eEn []) (by rfl) ownA bA.size (by rfl) rA (fl_oneCell eEn_one _) (by omega) (by omega) ?_
              intro v2 w2 own2 bel2 keep2
              have b2 := bA.trans bel2
              refine hK.out _ _ ⟨b2, ?_⟩; clear hK K; simp only [Act.put, List.setIfInBounds_toArray, List.set_cons_zero, List.set_cons_succ]
              refine head_ways [false, false, false, false, false, false, false, false, false, false, false, false, true] (by kernel_rfl) (by rfl) (by decide) (by decide) ?_
              repeat refine ways_skip ?_
              refine ways_one (fun K hK => ?_) ?_
              · go_simp
                have own2 := own2.alloc (.cells #[.int .u32 (a : Int), .int .i64 (q : Int), .int .i64 u] 51)
                have d2 := DR.out (w2.alloc (.cells #[.int .u32 (a : Int), .int .i64 (q : Int), .int .i64 u] 51)) _ (heap_new w2 (.cells #[.int .u32 (a : Int), .int .i64 (q : Int), .int .i64 u] 51))
                have b2 := b2.trans ((al1 w2 (.cells #[.int .u32 (a : Int), .int .i64 (q : Int), .int .i64 u] 51)).mono b2.size)
                refine hK.out _ _ ⟨b2, ?_⟩; clear hK K; simp only [Act.put, List.setIfInBounds_toArray, List.set_cons_zero, List.set_cons_succ]
                refine head_ways [false, false, false, false, false, false, false, false, false, false, false, false, false, true] (by kernel_rfl) (by rfl) (by decide) (by decide) ?_
                repeat refine ways_skip ?_
                refine ways_one (fun K hK => ?_) ?_
                · refine step2 (by rfl) _ _ _ (by rfl) 51 i0 _ 3 24 Try.underlying26 hi0 hz0 hz1 hz2 (by rfl) (by decide) (by decide) W.heap.size _ _ _ (0 + 0) 1 ([] ++ fl eEn []) (eEn ((a, q), u)) (by rfl) own2 b2.size (by rfl) d2 (eEn_one _) (by omega) (by omega) ?_
                  intro v3 w3 own3 bel3 keep3
                  have b3 := b2.trans bel3
                  obtain ⟨_, _, _, _, _, r3⟩ := FKH.out _ b3
                  refine hK.out _ _ ⟨b3, ?_⟩; clear hK K; simp only [Act.put, List.setIfInBounds_toArray, List.set_cons_zero, List.set_cons_succ]
                  refine head_ways [false, false, false, false, false, false, false, false, false, false, false, false, false, false, false, false, false, false, false, false, true] (by kernel_rfl) (by rfl) (by decide) (by decide) ?_
                  repeat refine ways_skip ?_
                  refine ways_one (fun K hK => ?_) ?_
                  · refine step2 (by rfl) _ _ _ (by rfl) 51 i0 _ 3 24 Try.underlying26 hi0 hz0 hz1 hz2 (by rfl) (by decide) (by decide) W.heap.size _ _ _ (0 + 0 + 1) 0 ([] ++ fl eEn [] ++ eEn ((a, q), u)) (fl eEn []) (by rfl) own3 b3.size (by rfl) r3 (fl_oneCell eEn_one _) (by omega) (by omega) ?_
                    intro v4 w4 own4 bel4 keep4
                    have b4 := b3.trans bel4
                    refine hK.out _ _ ⟨b4, ?_⟩; clear hK K; simp only [Act.put, List.setIfInBounds_toArray, List.set_cons_zero, List.set_cons_succ]
                    refine head_done (by kernel_rfl) ?_
                    simp only [List.drop_succ_cons, List.drop_zero]
                    obtain ⟨e4, s4, t4, f4, _, _⟩ := FKH.out _ b4
                    obtain ⟨a4, l4, c4, rfl⟩ := own_slice own4
                    have own5 : w4.ownsRow W.heap.size 51 3 (.slice a4 l4 c4) (([] : List En) ++ ((a, q), u) :: []).length (fl eEn (([] : List En) ++ ((a, q), u) :: [])) := by
                      simpa [fl] using own4
                    have hs1 : w.heap.size ≤ W.heap.size := B4.out.size
                    have b5 : Below w.heap.size w w4 := B4.out.trans (b4.mono hs1)
                    have HF := hid (ref_done HR.out hn0 hs1 b5 own5)
                    clear own4 own5 b5 b4 hs1 FKH
                    go_wp2_with fail
                    all_goals
                      go_ret
                      exact HF.out
                  exact ways_end
                exact ways_end
              exact ways_end
            repeat refine ways_skip ?_
            refine ways_one (fun K hK => ?_) ?_
            · go_simp
              refine hK.out _ _ ⟨bAD, ?_⟩; clear hK K; simp only [Act.put, List.setIfInBounds_toArray, List.set_cons_zero, List.set_cons_succ]
              refine head_ways [false, false, false, false, false, false, false, false, true] (by kernel_rfl) (by rfl) (by decide) (by decide) ?_
              repeat refine ways_skip ?_
              refine ways_one (fun K hK => ?_) ?_
              · refine step2 (by rfl) _ _ _ (by rfl) 51 i0 _ 3 24 Try.underlying26 hi0 hz0 hz1 hz2 (by rfl) (by decide) (by decide) W.heap.size _ _ _ 0 0 [] (fl eEn []) (by rfl) ownAD bAD.size (by rfl) rAD (fl_oneCell eEn_one _) (by omega) (by omega) ?_
                intro v2 w2 own2 bel2 keep2
                have b2 := bAD.trans bel2
                have d2 := DR.out w2 _ (keep2 _ _ gAD (by simp [Value.ownBlock]))
                refine hK.out _ _ ⟨b2, ?_⟩; clear hK K; simp only [Act.put, List.setIfInBounds_toArray, List.set_cons_zero, List.set_cons_succ]
                refine head_ways [false, false, false, false, false, false, false, false, false, false, false, false, false, true] (by kernel_rfl) (by rfl) (by decide) (by decide) ?_
                repeat refine ways_skip ?_
                refine ways_one (fun K hK => ?_) ?_
                · refine step2 (by rfl) _ _ _ (by rfl) 51 i0 _ 3 24 Try.underlying26 hi0 hz0 hz1 hz2 (by rfl) (by decide) (by decide) W.heap.size _ _ _ (0 + 0) 1 ([] ++ fl eEn []) (eEn ((a, q), u)) (by rfl) own2 b2.size (by rfl) d2 (eEn_one _) (by omega) (by omega) ?_
                  intro v3 w3 own3 bel3 keep3
                  have b3 := b2.trans bel3
                  obtain ⟨_, _, _, _, _, r3⟩ := FKH.out _ b3
                  refine hK.out _ _ ⟨b3, ?_⟩; clear hK K; simp only [Act.put, List.setIfInBounds_toArray, List.set_cons_zero, List.set_cons_succ]
                  refine head_ways [false, false, false, false, false, false, false, false, false, false, false, false, false, false, false, false, false, false, false, false, true] (by kernel_rfl) (by rfl) (by decide) (by decide) ?_
                  repeat refine ways_skip ?_
                  refine ways_one (fun K hK => ?_) ?_
                  · refine step2 (by rfl) _ _ _ (by rfl) 51 i0 _ 3 24 Try.underlying26 hi0 hz0 hz1 hz2 (by rfl) (by decide) (by decide) W.heap.size _ _ _ (0 + 0 + 1) 0 ([] ++ fl eEn [] ++ eEn ((a, q), u)) (fl eEn []) (by rfl) own3 b3.size (by rfl) r3 (fl_oneCell eEn_one _) (by omega) (by omega) ?_
                    intro v4 w4 own4 bel4 keep4
                    have b4 := b3.trans bel4
                    refine hK.out _ _ ⟨b4, ?_⟩; clear hK K; simp only [Act.put, List.setIfInBounds_toArray, List.set_cons_zero, List.set_cons_succ]
                    refine head_done (by kernel_rfl) ?_
                    simp only [List.drop_succ_cons, List.drop_zero]
                    obtain ⟨e4, s4, t4, f4, _, _⟩ := FKH.out _ b4
                    obtain ⟨a4, l4, c4, rfl⟩ := own_slice own4
                    have own5 : w4.ownsRow W.heap.size 51 3 (.slice a4 l4 c4) (([] : List En) ++ ((a, q), u) :: []).length (fl eEn (([] : List En) ++ ((a, q), u) :: [])) := by
                      simpa [fl] using own4
                    have hs1 : w.heap.size ≤ W.heap.size := B4.out.size
                    have b5 : Below w.heap.size w w4 := B4.out.trans (b4.mono hs1)
                    have HF := hid (ref_done HR.out hn0 hs1 b5 own5)
                    clear own4 own5 b5 b4 hs1 FKH
                    go_wp2_with fail
                    all_goals
                      go_ret
                      exact HF.out
                  exact ways_end
                exact ways_end
              exact ways_end
            exact ways_end
          repeat refine ways_skip ?_
          refine ways_one (fun K hK => ?_) ?_
          · go_simp
            refine hK.out _ _ ⟨bD, ?_⟩; clear hK K; simp only [Act.put, List.setIfInBounds_toArray, List.set_cons_zero, List.set_cons_succ]
            refine head_ways [false, true] (by kernel_rfl) (by rfl) (by decide) (by decide) ?_
            repeat refine ways_skip ?_
            refine ways_one (fun K hK => ?_) ?_
            · go_simp
              refine hK.out _ _ ⟨bDA, ?_⟩; clear hK K; simp only [Act.put, List.setIfInBounds_toArray, List.set_cons_zero, List.set_cons_succ]
              refine head_ways [false, false, false, false, false, false, false, false, true] (by kernel_rfl) (by rfl) (by decide) (by decide) ?_
              repeat refine ways_skip ?_
              refine ways_one (fun K hK => ?_) ?_
              · refine step2 (by rfl) _ _ _ (by rfl) 51 i0 _ 3 24 Try.underlying26 hi0 hz0 hz1 hz2 (by rfl) (by decide) (by decide) W.heap.size _ _ _ 0 0 [] (fl eEn []) (by rfl) ownDA bDA.size (by rfl) rDA (fl_oneCell eEn_one _) (by omega) (by omega) ?_
                intro v2 w2 own2 bel2 keep2
                have b2 := bDA.trans bel2
                have d2 := DR.out w2 _ (keep2 _ _ gDA (by simp [Value.ownBlock]))
                refine hK.out _ _ ⟨b2, ?_⟩; clear hK K; simp only [Act.put, List.setIfInBounds_toArray, List.set_cons_zero, List.set_cons_succ]
                refine head_ways [false, false, false, false, false, false, false, false, false, false, false, false, false, true] (by kernel_rfl) (by rfl) (by decide) (by decide) ?_
                repeat refine ways_skip ?_
                refine ways_one (fun K hK => ?_) ?_
                · refine step2 (by rfl) _ _ _ (by rfl) 51 i0 _ 3 24 Try.underlying26 hi0 hz0 hz1 hz2 (by rfl) (by decide) (by decide) W.heap.size _ _ _ (0 + 0) 1 ([] ++ fl eEn []) (eEn ((a, q), u)) (by rfl) own2 b2.size (by rfl) d2 (eEn_one _) (by omega) (by omega) ?_
                  intro v3 w3 own3 bel3 keep3
                  have b3 := b2.trans bel3
                  obtain ⟨_, _, _, _, _, r3⟩ := FKH.out _ b3
                  refine hK.out _ _ ⟨b3, ?_⟩; clear hK K; simp only [Act.put, List.setIfInBounds_toArray, List.set_cons_zero, List.set_cons_succ]
                  refine head_ways [false, false, false, false, false, false, false, false, false, false, false, false, false, false, false, false, false, false, false, false, true] (by kernel_rfl) (by rfl) (by decide) (by decide) ?_
                  repeat refine ways_skip ?_
                  refine ways_one (fun K hK => ?_) ?_
                  · refine step2 (by rfl) _ _ _ (by rfl) 51 i0 _ 3 24 Try.underlying26 hi0 hz0 hz1 hz2 (by rfl) (by decide) (by decide) W.heap.size _ _ _ (0 + 0 + 1) 0 ([] ++ fl eEn [] ++ eEn ((a, q), u)) (fl eEn []) (by rfl) own3 b3.size (by rfl) r3 (fl_oneCell eEn_one _) (by omega) (by omega) ?_
                    intro v4 w4 own4 bel4 keep4
                    have b4 := b3.trans bel4
                    refine hK.out _ _ ⟨b4, ?_⟩; clear hK K; simp only [Act.put, List.setIfInBounds_toArray, List.set_cons_zero, List.set_cons_succ]
                    refine head_done (by kernel_rfl) ?_
                    simp only [List.drop_succ_cons, List.drop_zero]
                    obtain ⟨e4, s4, t4, f4, _, _⟩ := FKH.out _ b4
                    obtain ⟨a4, l4, c4, rfl⟩ := own_slice own4
                    have own5 : w4.ownsRow W.heap.size 51 3 (.slice a4 l4 c4) (([] : List En) ++ ((a, q), u) :: []).length (fl eEn (([] : List En) ++ ((a, q), u) :: [])) := by
                      simpa [fl] using own4
                    have hs1 : w.heap.size ≤ W.heap.size := B4.out.size
                    have b5 : Below w.heap.size w w4 := B4.out.trans (b4.mono hs1)
                    have HF := hid (ref_done HR.out hn0 hs1 b5 own5)
                    clear own4 own5 b5 b4 hs1 FKH
                    go_wp2_with fail
                    all_goals
                      go_ret
                      exact HF.out
                  exact ways_end
                exact ways_end
              exact ways_end
            exact ways_end
          exact ways_end
    | succ g1 =>
      have hkn : k < k0 := by omega
      have hlt : (k : Int) < (m : Int) := by omega
      obtain ⟨b6, off6, rfl, hbl6, hc6⟩ := HX.out (by omega)
      obtain ⟨y, hye⟩ : ∃ y, y = (L[k]'(by rw [← HM.out]; omega)) := ⟨_, rfl⟩
      have hly : L[k]? = some y := by rw [hye]; exact List.getElem?_eq_getElem _
      obtain ⟨d0, d1, _⟩ := eEn_cells hc6 hly
      have hs6 := Nat.lt_of_lt_of_le hbl6 B3.out.size
      have f0 := later_cell (B := wr.heap.size) (p := ⟨b6, off6 + k * 3, none⟩) hs6 ((B3.out.cell (p := ⟨b6, off6 + k * 3, none⟩) hbl6).trans d0)
      have f1 := later_cell (B := wr.heap.size) (p := ⟨b6, off6 + k * 3 + 1, none⟩) hs6 ((B3.out.cell (p := ⟨b6, off6 + k * 3 + 1, none⟩) hbl6).trans d1)
      have hcm := fun wx => refCompare y.1.1 (y.1.2 : Int) a (q : Int) wx
      have hgt := HLow.out k y hkn hly
      rw [cmpV_lt (by unfold lt at hgt; simp only at hgt; omega)] at hcm
      clear hye hly d0 d1 hgt hc6 hbel
      go_wp2_with fail
      refine wp_region_later wr.heap.size (by kernel_rfl) (by kernel_rfl) ?_
      repeat (go_big_quiet_step (first | (go_at_call 35; exact later_of (Nat.le_refl _) (hcm _)) | fail))
      refine wpQuiet_nil ?_
      rintro _ ⟨u1, rfl⟩
      have B7 := hid (HBL.out.trans (u1.h.mono HBL.out.size))
      go_wp2
      go_roundg g1
      case measure => omega
      case rel => exact ⟨k + 1, by omega, by go_num, B7.out⟩

/-- A sorted list parts at a prefix that it does not hold. -/
theorem part_at {p : Px} : ∀ L : List En, Srt L → (∀ x ∈ L, x.1 ≠ p) → ∃ A B, L = A ++ B ∧ (∀ x ∈ A, lt x.1 p) ∧ ∀ x ∈ B, lt p x.1
  | [], _, _ => ⟨[], [], rfl, fun _ h => (by cases h), fun _ h => (by cases h)⟩
  | x :: L, hs, hn => by
    have hs' := hs
    unfold Srt at hs'
    rw [List.pairwise_cons] at hs'
    rcases lt_or (hn x (by simp)) with h | h
    · obtain ⟨A, B, rfl, hA, hB⟩ := part_at L hs'.2 fun y hy => hn y (List.mem_cons_of_mem _ hy)
      refine ⟨x :: A, B, rfl, fun y hy => ?_, hB⟩
      rcases List.mem_cons.1 hy with rfl | hy
      · exact h
      · exact hA y hy
    · refine ⟨[], x :: L, rfl, fun _ h => (by cases h), fun y hy => ?_⟩
      rcases List.mem_cons.1 hy with rfl | hy
      · exact h
      · exact lt_trans h (hs'.1 y hy)

theorem refIns (n0 mb : Nat) (v : Value) (L : List En) (a : Nat) (n u : Int) (w : World) (h : Ref w n0 mb v L) (hn0 : n0 ≤ w.heap.size) (hs : Srt L) (ho : Oks L) (ha : a < 4294967296) (hl : L.length ≤ 1000000) :
    Calls Try.prog 19 #[pt mb, px a n, .int .i64 u] w (RefPost w n0 mb v (validB a n) (insF L ((a, n), u))) := by
  cases hv : validB a n with
  | false =>
    have hi : insF L ((a, n), u) = L := by unfold insF; rw [if_neg (by simp only [hv]; decide)]
    rw [hi]
    exact refIns_no n0 mb v L a n u w h ha hv
  | true =>
    obtain ⟨hp, hn⟩ := okp_valid ha hv
    obtain ⟨q, hq⟩ : ∃ q, q = n.toNat := ⟨_, rfl⟩
    rw [← hq] at hp hn
    subst hn
    clear hq hv
    have hi : insF L ((a, (q : Int)), u) = ins L (a, q) u := insF_ok (p := (a, q)) u hp
    rw [hi]
    rcases atV_cases L a (q : Int) with ⟨_, h2⟩ | ⟨k, x, _, h2, h3, h4⟩
    · have hne : ∀ x ∈ L, x.1 ≠ (a, q) := fun x hx e => by
        have := h2 x hx
        unfold eqB at this
        simp only [decide_eq_false_iff_not] at this
        exact this ⟨by rw [e], by rw [e]⟩
      obtain ⟨A, B, rfl, hA, hB⟩ := part_at L hs hne
      rw [ins_split hA hB]
      exact refIns_new n0 mb v A B a q u w h hn0 hp hA hB hl
    · have hx := List.mem_of_getElem? h2
      obtain ⟨A, B, rfl⟩ := List.append_of_mem hx
      have e : (a, q) = x.1 := Prod.ext h3.symm (by have := h4; simp only; omega)
      rw [e, ins_mid hs, ← h3, ← h4]
      exact refIns_old n0 mb v A B x u w h (by rw [← e]; exact hp) hs hl
end Go.Proofs.Ytnlmplllfgfgoaa.Ad
