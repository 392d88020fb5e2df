/-
  THE CONTRACTS OF appendEntries AND OF A TABLE's Entries.
-/
import Derived.Test.YtnlmplllfgfgoaaTriC
import Derived.Test.YtnlmplllfgfgoaaTriE
import Derived.Deep.RegionWith
namespace Go.Proofs.Ytnlmplllfgfgoaa.Ad
set_option linter.unusedSimpArgs false
set_option linter.unusedVariables false
open Go.RowKit Am Kt Tp Tm Tr

theorem enInfo : (Try.prog.info? 51).map (fun i => (i.zero, i.size, i.bytes)) = some (some (.agg #[.int .u32 0, .int .i64 0, .int .i64 0]), 3, 24) := by kernel_rfl
/-- A row of one type is no block of another type. -/
theorem own_type {w : World} {B e z n k : Nat} {v : Value} {xs : List Value} {cs : Array Value} {t : TypeId} (h : w.ownsRow B e z v n xs) (hk : w.heap[k]? = some (.cells cs t (0, 0))) (ht : t ≠ e) : v.ownBlock ≠ some k := by
  rcases h.2 with ⟨rfl, _⟩ | ⟨g, cap, cur, rfl, _, hgb, _⟩
  · simp [Value.ownBlock]
  · intro e'
    obtain rfl : g = k := by simpa [Value.ownBlock] using e'
    have := hk.symm.trans hgb
    simp at this
    exact ht this.2
/-- What appendEntries leaves: the row v of xs with more behind it; boxes of prefixes stay. -/
def KeepsPx (w w' : World) : Prop := ∀ (k : Nat) (cs : Array Value), w.heap[k]? = some (Obj.cells cs 31 (0, 0)) → w'.heap[k]? = some (Obj.cells cs 31 (0, 0))
theorem KeepsPx.trans {a b c : World} (h : KeepsPx a b) (k : KeepsPx b c) : KeepsPx a c := fun i cs hi => k i cs (h i cs hi)
theorem KeepsPx.of {a b : World} (h : Below a.heap.size a b) : KeepsPx a b := fun i cs hi => blk_keep hi h
def AppPost (w : World) (B : Nat) (xs ys : List En) (e : Ending) (w' : World) : Prop :=
  ∃ v', e = .returned v' ∧ w'.ownsRow B 51 3 v' (xs ++ ys).length (fl eEn (xs ++ ys)) ∧ Below B w w' ∧ KeepsPx w w'

set_option maxHeartbeats 1000000 in
theorem app_nil (v p : Value) (xs : List En) (B : Nat) (w : World) (x0 x1 : Value) (hp : p = .agg #[x0, x1]) (hown : w.ownsRow B 51 3 v xs.length (fl eEn xs)) (hB : B ≤ w.heap.size) :
    Calls Try.prog 36 #[.pointer none, v, p] w (AppPost w B xs []) := by
  subst hp
  have H := hid hown
  clear hown
  go_enter Try.func36, Try.ntmps36
  go_wp2_with fail
  go_ret
  refine ⟨_, rfl, ?_, (al1 w _).mono hB, KeepsPx.of (al1 w _)⟩
  rw [List.append_nil]
  exact own_keep H.out (al1 w _)

theorem low_high {a k : Nat} (hp : OkP (a, k)) (hk : k < 32) : net a ((k : Int) + 1) = a ∧ net (lastV a (k : Int)) ((k : Int) + 1) = a + blk (k + 1) ∧ cl ((k : Int) + 1) = k + 1 ∧ OkP (a, k + 1) ∧ OkP (a + blk (k + 1), k + 1) := by
  have hc : cl (k : Int) = k := cl_nat k (by omega)
  have hv : validB a (k : Int) = true := by rw [valid_iff, hc]; exact ⟨by omega, hp.2.1⟩
  have h2 := high_half hv (by omega)
  rw [hc] at h2
  have hm := mod_half hk hp.2.1
  have hle := half_le hv (by omega) hp.2.2
  rw [hc] at hle
  have hb := blk_succ k hk
  have hpos := blk_pos (k + 1)
  have hlt := hp.2.2
  simp only at hlt
  exact ⟨low_half hv (by omega), h2, by unfold cl; omega, ⟨by simp only; omega, hm.1, hlt⟩, ⟨by simp only; omega, hm.2, by simp only; omega⟩⟩

set_option maxHeartbeats 8000000 in
set_option maxRecDepth 100000 in
theorem app_ents : ∀ (X : Tr) (a k : Nat) (v : Value) (xs : List En) (B : Nat) (w : World), X.deep (33 - k) → k ≤ 32 → OkP (a, k) → In w X → (∀ c ∈ X.blocks, c < B) → w.ownsRow B 51 3 v xs.length (fl eEn xs) → B ≤ w.heap.size → (xs ++ X.ents a k).length ≤ 1000000 →
    Calls Try.prog 36 #[X.ptr, v, px a (k : Int)] w (AppPost w B xs (X.ents a k))
  | .nil, a, k, v, xs, B, w, hd, hk, hp, hi, hlt, hown, hB, hl => app_nil v _ xs B w _ _ rfl hown hB
  | .node b none l r, a, k, v, xs, B, w, hd, hk, hp, hi, hlt, hown, hB, hl => by
    show Calls Try.prog 36 #[pt b, v, px a (k : Int)] w (AppPost w B xs ((Tr.node b none l r).ents a k))
    have c2 := hi.1.c2
    simp only [Option.isSome_none] at c2
    have hbx := heap_new w (.cells #[.int .u32 (a : Int), .int .i64 (k : Int)] 31)
    have al0 := al1 w (.cells #[.int .u32 (a : Int), .int .i64 (k : Int)] 31)
    have HI := hid (And.intro hi hlt)
    have hblt : b < w.heap.size := hi.1.lt
    have H5 := hid (And.intro (own_keep hown al0) (And.intro (al0.mono hB) (And.intro (Nat.le_trans hB al0.size) (And.intro (KeepsPx.of al0) (And.intro hl (show xs ++ (l.ents a (k + 1) ++ r.ents (a + blk (k + 1)) (k + 1)) = xs ++ (Tr.node b none l r).ents a k by rfl))))))
    obtain ⟨y0, y1⟩ := (blk_two hbx).1
    clear hi hlt hown al0 hbx hl
    go_enter Try.func36, Try.ntmps36
    by_cases hk32 : k = 32
    · subst hk32
      have hnil : l = .nil ∧ r = .nil := by
        have hd' : l.deep 0 ∧ r.deep 0 := hd
        constructor
        · cases l with
          | nil => rfl
          | node _ _ _ _ => exact hd'.1.elim
        · cases r with
          | nil => rfl
          | node _ _ _ _ => exact hd'.2.elim
      obtain ⟨rfl, rfl⟩ := hnil
      have hH := fun wx => halves_32 a wx hp.2.2 (by rw [valid_iff]; exact ⟨by omega, hp.2.1⟩)
      go_wp2_with fail
      refine (hH _).mono ?_
      rintro e w6 ⟨rfl, b6⟩
      have H6 := hid (And.intro (own_keep H5.out.1 b6) (And.intro (H5.out.2.1.trans (b6.mono H5.out.2.2.1)) (H5.out.2.2.2.1.trans (KeepsPx.of b6))))
      clear b6
      go_wp2_with fail
      go_ret
      have al := al2 w6 (.cells #[.int .u32 0, .int .i64 0] 31) (.cells #[.int .u32 0, .int .i64 0] 31)
      refine ⟨_, rfl, ?_, H6.out.2.1.trans (al.mono ?_), H6.out.2.2.trans (KeepsPx.of al)⟩
      · have := own_keep H6.out.1 al
        rw [← H5.out.2.2.2.2.2]
        simpa [Tr.ents] using this
      · exact Nat.le_trans hB H6.out.2.1.size
    · have hlt32 : k < 32 := by omega
      obtain ⟨n1, n2, n3, ok1, ok2⟩ := low_high hp hlt32
      have hd' : l.deep (33 - (k + 1)) ∧ r.deep (33 - (k + 1)) := by
        have : 33 - k = (33 - (k + 1)) + 1 := by omega
        rw [this] at hd; exact hd
      have hH : ∀ wx, Calls Try.prog 43 #[px a (k : Int)] wx fun e w' => e = .returned (.tuple #[px a ((k + 1 : Nat) : Int), px (a + blk (k + 1)) ((k + 1 : Nat) : Int), .bool true]) ∧ Below wx.heap.size wx w' := fun wx => by
        have := halves a (k : Int) wx hp.2.2 (by omega) (by omega) (by rw [valid_iff, cl_nat k hk]; exact ⟨by omega, hp.2.1⟩)
        rw [n1, n2, n3] at this
        exact this
      have iL := app_ents l a (k + 1)
      have iR := app_ents r (a + blk (k + 1)) (k + 1)
      have HD := hid (And.intro hd' (And.intro ok1 ok2))
      obtain ⟨a2, ha2⟩ : ∃ a2, a2 = a + blk (k + 1) := ⟨_, rfl⟩
      obtain ⟨k1, hk1⟩ : ∃ k1 : Nat, k1 = k + 1 := ⟨_, rfl⟩
      have HK1 := hid hk1
      rw [← ha2, ← hk1] at hH iR HD
      rw [← hk1] at iL
      have HA2 := hid ha2
      clear n1 n2 n3 ok1 ok2 hd' ha2 hk1
      go_wp2_with fail
      refine (hH _).mono ?_
      rintro e w6 ⟨rfl, b6⟩
      have H6 := hid (And.intro (own_keep H5.out.1 b6) (And.intro (H5.out.2.1.trans (b6.mono H5.out.2.2.1)) (H5.out.2.2.2.1.trans (KeepsPx.of b6))))
      clear b6 hH
      have e0 := pair_0 w6 (.cells #[.int .u32 (a : Int), .int .i64 (k1 : Int)] 31) (.cells #[.int .u32 (a2 : Int), .int .i64 (k1 : Int)] 31)
      have e1 := pair_1 w6 (.cells #[.int .u32 (a : Int), .int .i64 (k1 : Int)] 31) (.cells #[.int .u32 (a2 : Int), .int .i64 (k1 : Int)] 31)
      have al := al2 w6 (.cells #[.int .u32 (a : Int), .int .i64 (k1 : Int)] 31) (.cells #[.int .u32 (a2 : Int), .int .i64 (k1 : Int)] 31)
      have W7 := hid (And.intro (own_keep H6.out.1 al) (And.intro (H6.out.2.1.trans (al.mono (Nat.le_trans hB H6.out.2.1.size))) (H6.out.2.2.trans (KeepsPx.of al))))
      go_upto_region 8 with fail
      generalize (w6.alloc (.cells #[.int .u32 (a : Int), .int .i64 (k1 : Int)] 31)).alloc (.cells #[.int .u32 (a2 : Int), .int .i64 (k1 : Int)] 31) = w7 at *
      have hbB := HI.out.2 b (by simp [Tr.blocks])
      have hat7 := HI.out.1.1.keep (W7.out.2.1.block b hbB)
      have c0 := hat7.c0
      obtain ⟨⟨l0, l1⟩, _⟩ := blk_two e0
      have E1 := hid e1
      have hlen := H5.out.2.2.2.2.1
      have heq := H5.out.2.2.2.2.2
      rw [← heq, ← HA2.out, ← HK1.out] at hlen
      have HE := hid heq
      have hCL : ∀ wx, Below w7.heap.size w7 wx → Calls Try.prog 36 #[l.ptr, v, px a (k1 : Int)] wx (AppPost wx B xs (l.ents a k1)) := fun wx hx => by
        have hs7 : B ≤ w7.heap.size := Nat.le_trans hB W7.out.2.1.size
        have hbx : Below B w wx := W7.out.2.1.trans (hx.mono hs7)
        exact iL v xs B wx HD.out.1.1 (by have := HK1.out; omega) HD.out.2.1 (HI.out.1.2.1.keep fun c hc => hbx.block c (HI.out.2 c (by simp [Tr.blocks, hc]))) (fun c hc => HI.out.2 c (by simp [Tr.blocks, hc])) (own_keep W7.out.1 hx) (Nat.le_trans hs7 hx.size) (by simp only [List.length_append] at hlen ⊢; omega)
      have hCR : ∀ (v8 : Value) (wx : World), Below B w wx → wx.ownsRow B 51 3 v8 (xs ++ l.ents a k1).length (fl eEn (xs ++ l.ents a k1)) → B ≤ wx.heap.size → Calls Try.prog 36 #[r.ptr, v8, px a2 (k1 : Int)] wx (AppPost wx B (xs ++ l.ents a k1) (r.ents a2 k1)) := fun v8 wx hbx hox hsx => by
        exact iR v8 (xs ++ l.ents a k1) B wx HD.out.1.2 (by have := HK1.out; omega) HD.out.2.2 (HI.out.1.2.2.keep fun c hc => hbx.block c (HI.out.2 c (by simp [Tr.blocks, hc]))) (fun c hc => HI.out.2 c (by simp [Tr.blocks, hc])) hox hsx (by rw [List.append_assoc]; exact hlen)
      have hw : Hid (Below w7.heap.size w7 w7.drew) := (Below.refl _ w7).drew
      have HAT := hid hat7
      have HBB := hid (And.intro hbB hB)
      clear iL iR hat7 al e0 e1 hlen heq H6 hbB
      go_region_with (go_at_call 36; refine (hCL _ hw.out).mono ?_; rintro e w8 ⟨v8, rfl, hP⟩; have HP := hid hP; clear hP)
      all_goals
        clear hCL c0 l0 l1
        have hs8 : B ≤ w8.heap.size := Nat.le_trans (Nat.le_trans HBB.out.2 W7.out.2.1.size) HP.out.2.1.size
        have hb8 : Below B w w8 := W7.out.2.1.trans ⟨HP.out.2.1.os, HP.out.2.1.tape, HP.out.2.1.output, HP.out.2.1.size, HP.out.2.1.block⟩
        have hat8 := HI.out.1.1.keep (hb8.block b HBB.out.1)
        have c1 := hat8.c1
        have e1 := HP.out.2.2 _ _ E1.out
        obtain ⟨⟨l0, l1⟩, _⟩ := blk_two e1
        have hCR2 : ∀ wx, Below w8.heap.size w8 wx → Calls Try.prog 36 #[r.ptr, v8, px a2 (k1 : Int)] wx (AppPost wx B (xs ++ l.ents a k1) (r.ents a2 k1)) := fun wx hx =>
          hCR v8 wx (hb8.trans (hx.mono hs8)) (own_keep HP.out.1 hx) (Nat.le_trans hs8 hx.size)
        have hw8 : Hid (Below w8.heap.size w8 w8.drew) := (Below.refl _ w8).drew
        have H8 := hid (And.intro hb8 (W7.out.2.2.trans (fun i cs hi => HP.out.2.2 i cs hi)))
        clear hat8 hb8 hs8 e1 hCR
        go_upto_region 9 with fail
        go_region_with (go_at_call 36; refine (hCR2 _ hw8.out).mono ?_; rintro e w9 ⟨v9, rfl, hP⟩; have HP9 := hid hP; clear hP)
      all_goals go_wp2_with fail
      all_goals go_ret
      all_goals
        have hend : (xs ++ l.ents a k1) ++ r.ents a2 k1 = xs ++ (Tr.node b none l r).ents a k := by rw [List.append_assoc, ← HE.out, HK1.out, HA2.out]
        have hown9 := HP9.out.1
        rw [hend] at hown9
        exact ⟨v9, rfl, hown9, H8.out.1.trans ⟨HP9.out.2.1.os, HP9.out.2.1.tape, HP9.out.2.1.output, HP9.out.2.1.size, HP9.out.2.1.block⟩, H8.out.2.trans (fun i cs hi => HP9.out.2.2 i cs hi)⟩
  | .node b (some q) l r, a, k, v, xs, B, w, hd, hk, hp, hi, hlt, hown, hB, hl => by
    show Calls Try.prog 36 #[pt b, v, px a (k : Int)] w (AppPost w B xs ((Tr.node b (some q) l r).ents a k))
    obtain ⟨i0, hi0, hz0, hz1, hz2⟩ := info_parts enInfo
    have c2 := hi.1.c2
    have c3 := hi.1.c3
    simp only [Option.isSome_some, Option.getD_some] at c2 c3
    have hbx := heap_new w (.cells #[.int .u32 (a : Int), .int .i64 (k : Int)] 31)
    have al0 := al1 w (.cells #[.int .u32 (a : Int), .int .i64 (k : Int)] 31)
    have HI := hid (And.intro hi hlt)
    have hblt : b < w.heap.size := hi.1.lt
    have hxl : xs.length ≤ 10000000000 := by rw [List.length_append] at hl; omega
    have H0 := hid (And.intro (own_keep hown al0) (And.intro (al0.mono hB) (And.intro (Nat.le_trans hB al0.size) (And.intro (KeepsPx.of al0) (And.intro hl (show (xs ++ [((a, k), q)]) ++ (l.ents a (k + 1) ++ r.ents (a + blk (k + 1)) (k + 1)) = xs ++ (Tr.node b (some q) l r).ents a k by rw [List.append_assoc]; rfl))))))
    obtain ⟨y0, y1⟩ := (blk_two hbx).1
    clear hi hlt hown al0 hl
    go_enter Try.func36, Try.ntmps36
    go_upto_region 4 with fail
    have d3 : (w.alloc (.cells #[.int .u32 (a : Int), .int .i64 (k : Int)] 31)).cell? ⟨b, 3, none⟩ = some (.int .i64 q) := by rw [World.cell?_alloc_lt _ _ _ hblt]; exact c3
    clear c2 c3
    generalize w.alloc (.cells #[.int .u32 (a : Int), .int .i64 (k : Int)] 31) = w1 at *
    go_region_law (refine step1 (by rfl) _ _ _ (by rfl) 51 i0 _ 3 24 Try.underlying26 hi0 hz0 hz1 hz2 (by rfl) (by decide) (by decide) B w w1 _ v xs.length (fl eEn xs) [.int .u32 (a : Int), .int .i64 (k : Int), .int .i64 q] (by rfl) H0.out.1 H0.out.2.1 H0.out.2.2.1 (by rfl) (by rfl) (by rfl) (by simp [Value.oneCell']) hxl ?_; intro v5 w5 own5 bel5 hs5 keep5; have HK5 := hid (And.intro own5 (And.intro bel5 (And.intro hs5 keep5))); clear own5 bel5 hs5 keep5)
    all_goals
      have own5 : w5.ownsRow B 51 3 v5 (xs ++ [((a, k), q)]).length (fl eEn (xs ++ [((a, k), q)])) := by
        have h := HK5.out.1
        rw [fl_append, fl_one, List.length_append]
        exact h
      have kp5 : KeepsPx w1 w5 := fun i cs hi => HK5.out.2.2.2 i _ hi (own_type H0.out.1 hi (by decide))
      have hbx5 := kp5 _ _ hbx
      have H5 := hid (And.intro own5 (And.intro HK5.out.2.1 (And.intro HK5.out.2.2.1 (And.intro (H0.out.2.2.2.1.trans kp5) (And.intro H0.out.2.2.2.2.1 H0.out.2.2.2.2.2)))))
      obtain ⟨z0, z1⟩ := (blk_two hbx5).1
      have HBX := hid hbx
      clear own5 kp5 hbx5 hbx y0 y1 d3
      by_cases hk32 : k = 32
      · subst hk32
        have hnil : l = .nil ∧ r = .nil := by
          have hd' : l.deep 0 ∧ r.deep 0 := hd
          constructor
          · cases l with
            | nil => rfl
            | node _ _ _ _ => exact hd'.1.elim
          · cases r with
            | nil => rfl
            | node _ _ _ _ => exact hd'.2.elim
        obtain ⟨rfl, rfl⟩ := hnil
        have hH := fun wx => halves_32 a wx hp.2.2 (by rw [valid_iff]; exact ⟨by omega, hp.2.1⟩)
        go_wp2_with fail
        refine (hH _).mono ?_
        rintro e w6 ⟨rfl, b6⟩
        have H6 := hid (And.intro (own_keep H5.out.1 b6) (And.intro (H5.out.2.1.trans (b6.mono H5.out.2.2.1)) (H5.out.2.2.2.1.trans (KeepsPx.of b6))))
        clear b6
        go_wp2_with fail
        go_ret
        have al := al2 w6 (.cells #[.int .u32 0, .int .i64 0] 31) (.cells #[.int .u32 0, .int .i64 0] 31)
        refine ⟨_, rfl, ?_, H6.out.2.1.trans (al.mono ?_), H6.out.2.2.trans (KeepsPx.of al)⟩
        · have := own_keep H6.out.1 al
          rw [← H5.out.2.2.2.2.2]
          simpa [Tr.ents] using this
        · exact Nat.le_trans hB H6.out.2.1.size
      · have hlt32 : k < 32 := by omega
        obtain ⟨n1, n2, n3, ok1, ok2⟩ := low_high hp hlt32
        have hd' : l.deep (33 - (k + 1)) ∧ r.deep (33 - (k + 1)) := by
          have : 33 - k = (33 - (k + 1)) + 1 := by omega
          rw [this] at hd; exact hd
        have hH : ∀ wx, Calls Try.prog 43 #[px a (k : Int)] wx fun e w' => e = .returned (.tuple #[px a ((k + 1 : Nat) : Int), px (a + blk (k + 1)) ((k + 1 : Nat) : Int), .bool true]) ∧ Below wx.heap.size wx w' := fun wx => by
          have := halves a (k : Int) wx hp.2.2 (by omega) (by omega) (by rw [valid_iff, cl_nat k hk]; exact ⟨by omega, hp.2.1⟩)
          rw [n1, n2, n3] at this
          exact this
        have iL := app_ents l a (k + 1)
        have iR := app_ents r (a + blk (k + 1)) (k + 1)
        have HD := hid (And.intro hd' (And.intro ok1 ok2))
        obtain ⟨a2, ha2⟩ : ∃ a2, a2 = a + blk (k + 1) := ⟨_, rfl⟩
        obtain ⟨k1, hk1⟩ : ∃ k1 : Nat, k1 = k + 1 := ⟨_, rfl⟩
        have HK1 := hid hk1
        rw [← ha2, ← hk1] at hH iR HD
        rw [← hk1] at iL
        have HA2 := hid ha2
        clear n1 n2 n3 ok1 ok2 hd' ha2 hk1
        go_wp2_with fail
        refine (hH _).mono ?_
        rintro e w6 ⟨rfl, b6⟩
        have H6 := hid (And.intro (own_keep H5.out.1 b6) (And.intro (H5.out.2.1.trans (b6.mono H5.out.2.2.1)) (H5.out.2.2.2.1.trans (KeepsPx.of b6))))
        clear b6 hH
        have e0 := pair_0 w6 (.cells #[.int .u32 (a : Int), .int .i64 (k1 : Int)] 31) (.cells #[.int .u32 (a2 : Int), .int .i64 (k1 : Int)] 31)
        have e1 := pair_1 w6 (.cells #[.int .u32 (a : Int), .int .i64 (k1 : Int)] 31) (.cells #[.int .u32 (a2 : Int), .int .i64 (k1 : Int)] 31)
        have al := al2 w6 (.cells #[.int .u32 (a : Int), .int .i64 (k1 : Int)] 31) (.cells #[.int .u32 (a2 : Int), .int .i64 (k1 : Int)] 31)
        have W7 := hid (And.intro (own_keep H6.out.1 al) (And.intro (H6.out.2.1.trans (al.mono (Nat.le_trans hB H6.out.2.1.size))) (H6.out.2.2.trans (KeepsPx.of al))))
        go_upto_region 8 with fail
        generalize (w6.alloc (.cells #[.int .u32 (a : Int), .int .i64 (k1 : Int)] 31)).alloc (.cells #[.int .u32 (a2 : Int), .int .i64 (k1 : Int)] 31) = w7 at *
        have hbB := HI.out.2 b (by simp [Tr.blocks])
        have hat7 := HI.out.1.1.keep (W7.out.2.1.block b hbB)
        have c0 := hat7.c0
        obtain ⟨⟨l0, l1⟩, _⟩ := blk_two e0
        have E1 := hid e1
        have hlen := H5.out.2.2.2.2.1
        have heq := H5.out.2.2.2.2.2
        rw [← heq, ← HA2.out, ← HK1.out] at hlen
        have HE := hid heq
        have hCL : ∀ wx, Below w7.heap.size w7 wx → Calls Try.prog 36 #[l.ptr, v5, px a (k1 : Int)] wx (AppPost wx B (xs ++ [((a, k), q)]) (l.ents a k1)) := fun wx hx => by
          have hs7 : B ≤ w7.heap.size := Nat.le_trans hB W7.out.2.1.size
          have hbx : Below B w wx := W7.out.2.1.trans (hx.mono hs7)
          exact iL v5 (xs ++ [((a, k), q)]) B wx HD.out.1.1 (by have := HK1.out; omega) HD.out.2.1 (HI.out.1.2.1.keep fun c hc => hbx.block c (HI.out.2 c (by simp [Tr.blocks, hc]))) (fun c hc => HI.out.2 c (by simp [Tr.blocks, hc])) (own_keep W7.out.1 hx) (Nat.le_trans hs7 hx.size) (by simp only [List.length_append] at hlen ⊢; omega)
        have hCR : ∀ (v8 : Value) (wx : World), Below B w wx → wx.ownsRow B 51 3 v8 ((xs ++ [((a, k), q)]) ++ l.ents a k1).length (fl eEn ((xs ++ [((a, k), q)]) ++ l.ents a k1)) → B ≤ wx.heap.size → Calls Try.prog 36 #[r.ptr, v8, px a2 (k1 : Int)] wx (AppPost wx B ((xs ++ [((a, k), q)]) ++ l.ents a k1) (r.ents a2 k1)) := fun v8 wx hbx hox hsx => by
          exact iR v8 ((xs ++ [((a, k), q)]) ++ l.ents a k1) B wx HD.out.1.2 (by have := HK1.out; omega) HD.out.2.2 (HI.out.1.2.2.keep fun c hc => hbx.block c (HI.out.2 c (by simp [Tr.blocks, hc]))) (fun c hc => HI.out.2 c (by simp [Tr.blocks, hc])) hox hsx (by rw [List.append_assoc]; exact hlen)
        have hw : Hid (Below w7.heap.size w7 w7.drew) := (Below.refl _ w7).drew
        have HAT := hid hat7
        have HBB := hid (And.intro hbB hB)
        clear iL iR hat7 al e0 e1 hlen heq H6 hbB
        go_region_with (go_at_call 36; refine (hCL _ hw.out).mono ?_; rintro e w8 ⟨v8, rfl, hP⟩; have HP := hid hP; clear hP)
        all_goals
          clear hCL c0 l0 l1
          have hs8 : B ≤ w8.heap.size := Nat.le_trans (Nat.le_trans HBB.out.2 W7.out.2.1.size) HP.out.2.1.size
          have hb8 : Below B w w8 := W7.out.2.1.trans ⟨HP.out.2.1.os, HP.out.2.1.tape, HP.out.2.1.output, HP.out.2.1.size, HP.out.2.1.block⟩
          have hat8 := HI.out.1.1.keep (hb8.block b HBB.out.1)
          have c1 := hat8.c1
          have e1 := HP.out.2.2 _ _ E1.out
          obtain ⟨⟨l0, l1⟩, _⟩ := blk_two e1
          have hCR2 : ∀ wx, Below w8.heap.size w8 wx → Calls Try.prog 36 #[r.ptr, v8, px a2 (k1 : Int)] wx (AppPost wx B ((xs ++ [((a, k), q)]) ++ l.ents a k1) (r.ents a2 k1)) := fun wx hx =>
            hCR v8 wx (hb8.trans (hx.mono hs8)) (own_keep HP.out.1 hx) (Nat.le_trans hs8 hx.size)
          have hw8 : Hid (Below w8.heap.size w8 w8.drew) := (Below.refl _ w8).drew
          have H8 := hid (And.intro hb8 (W7.out.2.2.trans (fun i cs hi => HP.out.2.2 i cs hi)))
          clear hat8 hb8 hs8 e1 hCR
          go_upto_region 9 with fail
          go_region_with (go_at_call 36; refine (hCR2 _ hw8.out).mono ?_; rintro e w9 ⟨v9, rfl, hP⟩; have HP9 := hid hP; clear hP)
        all_goals go_wp2_with fail
        all_goals go_ret
        all_goals
          have hend : ((xs ++ [((a, k), q)]) ++ l.ents a k1) ++ r.ents a2 k1 = xs ++ (Tr.node b (some q) l r).ents a k := by rw [List.append_assoc, ← HE.out, HK1.out, HA2.out]
          have hown9 := HP9.out.1
          rw [hend] at hown9
          exact ⟨v9, rfl, hown9, H8.out.1.trans ⟨HP9.out.2.1.os, HP9.out.2.1.tape, HP9.out.2.1.output, HP9.out.2.1.size, HP9.out.2.1.block⟩, H8.out.2.trans (fun i cs hi => HP9.out.2.2 i cs hi)⟩
end Go.Proofs.Ytnlmplllfgfgoaa.Ad
