/-
  THE WALK OF TriePlays.
-/
import Derived.Test.YtnlmplllfgfgoaaRefS
import Derived.Test.YtnlmplllfgfgoaaRefC
import Derived.Test.YtnlmplllfgfgoaaRefE
import Derived.Test.YtnlmplllfgfgoaaTriW
import Derived.Deep.RegionHeld3
namespace Go.Proofs.Ytnlmplllfgfgoaa.Ad
set_option linter.unusedSimpArgs false
set_option linter.unusedVariables false
open Go.RowKit Am Kt Tp Tm Tr
theorem delF_oks {L : List En} (h : Oks L) (a : Nat) (n : Int) : Oks (delF L a n) := by
  unfold delF; split
  · exact oks_del h _
  · exact h
theorem delF_len (L : List En) (a : Nat) (n : Int) : (delF L a n).length ≤ L.length := by
  unfold delF; split
  · unfold del; exact List.length_filter_le _ _
  · exact Nat.le_refl _
def BdA (l : List RAct) : Prop := ∀ x ∈ l, x.1.2.1 < 4294967296 ∧ x.2.2 < 4294967296
set_option maxHeartbeats 1000000 in
theorem plays_big (v : Value) (n : Nat) (xs : List Value) (w : World) (h : Tm.Rows w 5 v n xs) (hn : 60 < n) :
    Calls Try.prog 3 #[v] w (BoolPost true w) := by
  obtain ⟨p1, cap, rfl, hnc, X⟩ := rows_open (by decide) h
  clear h X
  go_enter Try.func3, Try.ntmps3
  go_wp2_with fail
  go_ret
  exact ⟨rfl, Below.refl _ _⟩
set_option maxHeartbeats 8000000 in
set_option maxRecDepth 100000 in
theorem plays_main (v : Value) (l : List RAct) (w : World) (h : IsRow rAct 5 w v l) (hbd : BdA l) (hl : l.length ≤ 60) :
    Calls Try.prog 3 #[v] w (BoolPost true w) := by
  have hSn : ∀ wx, Calls Try.prog 23 #[] wx fun e w' => e = .returned (.bool true) ∧ Below wx.heap.size wx w' := fun wx => sane wx
  obtain ⟨n, hn⟩ : ∃ n, n = l.length := ⟨_, rfl⟩
  have h := row_n h hn
  obtain ⟨p1, cap, rfl, hnc, X⟩ := rows_open (by decide) h
  rw [← hn] at hl
  have HN := hid hn
  have HX := hid X
  have HBd := hid hbd
  clear h X hn hbd
  go_enter Try.func3, Try.ntmps3
  go_wp2_with fail
  refine (new _).mono ?_
  rintro e w1 ⟨rfl, ht, hb1, hs1⟩
  have hlt := ht.lt w.heap.size (by simp [Tr.blocks])
  obtain ⟨T0, hT0⟩ : ∃ T0, T0 = Tr.node w.heap.size none .nil .nil := ⟨_, rfl⟩
  rw [← hT0] at ht
  have S1 : Sim w (w1.alloc (.cells #[.slice none 0 0] 28)) w.heap.size T0 w1.heap.size (.slice none 0 0) [] [] :=
    ⟨(OT.mk ht hb1 (fun c hc => by rw [hT0] at hc; simp [Tr.blocks] at hc; omega) : OT w w.heap.size T0 [] w1).below (al1 w1 _),
      ⟨heap_new w1 _, World.ownsRow_nil _ _ _ _, by omega⟩, fun hm => by rw [hT0] at hm; simp [Tr.blocks] at hm; omega, fun g hg => by simp [Value.ownBlock] at hg⟩
  obtain ⟨tb, htb⟩ : ∃ tb, tb = w.heap.size := ⟨_, rfl⟩
  have S1' : Sim w (w1.alloc (.cells #[.slice none 0 0] 28)) tb T0 w1.heap.size (.slice none 0 0) [] [] := by rw [htb]; exact S1
  rw [← htb]
  have HS1 := hid S1'
  clear ht hb1 hs1 hT0 S1 S1' htb hlt
  go_wp2_with fail
  obtain ⟨mb, hmb⟩ : ∃ mb, mb = w1.heap.size := ⟨_, rfl⟩
  rw [← hmb] at HS1 ⊢
  clear hmb
  go_loopg [5] n (fun gg iv wr => ∃ (k : Nat) (T : Tr) (v : Value) (L : List En), k + gg = n ∧ iv = .int .i64 k ∧ Hid (Sim w wr tb T mb v L L) ∧ Hid (Oks L) ∧ L.length ≤ k)
  case atStart => exact ⟨0, T0, _, [], by omega, rfl, HS1, hid (fun x h => by cases h), by simp⟩
  case round =>
    obtain ⟨k, T, v, L, hk, rfl, S2, hO, hLk⟩ := hrel
    cases gk with
    | zero =>
      have hlt : ¬ ((k : Int) < (n : Int)) := by omega
      obtain ⟨p5, cap5, rfl, _, _⟩ := rows_open (by decide) (rows_own S2.out.rf.row)
      go_wp2_with fail
      have W0 : Hid (Sim w wr.drew tb T mb (.slice p5 L.length cap5) L L) := S2.out.below ((Below.refl _ _).drew)
      have s0 := S2.out.rf.cell
      have hl9 : L.length ≤ 1000000 := by omega
      go_region_held3 (fun v => v.cell? ⟨mb, 0, none⟩ = some (.slice p5 L.length cap5)) (assumption) (first
        | (go_at_call 22; refine (entriesO tb T L _ W0.out.ot.tab hl9).mono ?_; rintro e w4 ⟨v4, rfl, r4, b4⟩; have S4 := hid (W0.out.below b4); have s4 := S4.out.rf.cell; have R4 := hid (rows_own r4))
        | (go_at_call 21; refine (keepEn v4 _ L _ R4.out (rows_own S4.out.rf.row) hl9).mono ?_; rintro e w5 ⟨rfl, b5⟩; have S5 := hid (S4.out.below b5); have s5 := S5.out.rf.cell)
        | (go_at_call 23; refine (hSn _).mono ?_; rintro e w6 ⟨rfl, b6⟩; have S6 := hid (S5.out.below b6); have s6 := S6.out.rf.cell)
        | fail)
      go_wp2_with fail
      go_ret
      exact ⟨rfl, S6.out.ot.bel⟩
    | succ g1 =>
      have hkn : k < n := by omega
      have hlt : (k : Int) < (n : Int) := by omega
      obtain ⟨b6, off6, rfl, hbl6, hc6⟩ := HX.out (by omega)
      obtain ⟨x, hxe⟩ : ∃ x, x = (l[k]'(by rw [← HN.out]; exact hkn)) := ⟨_, rfl⟩
      have hlx : l[k]? = some x := by rw [hxe]; exact List.getElem?_eq_getElem _
      have hxb := HBd.out x (List.mem_of_getElem? hlx)
      have hrc := row_cells rAct_len hc6 hlx
      have d0 := (S2.out.ot.bel.cell (p := ⟨b6, off6 + k * 5, none⟩) hbl6).trans (hrc 0 _ rfl)
      have d1 := (S2.out.ot.bel.cell (p := ⟨b6, off6 + k * 5 + 1, none⟩) hbl6).trans (hrc 1 _ rfl)
      have d2 := (S2.out.ot.bel.cell (p := ⟨b6, off6 + k * 5 + 2, none⟩) hbl6).trans (hrc 2 _ rfl)
      have d3 := (S2.out.ot.bel.cell (p := ⟨b6, off6 + k * 5 + 3, none⟩) hbl6).trans (hrc 3 _ rfl)
      have d4 := (S2.out.ot.bel.cell (p := ⟨b6, off6 + k * 5 + 4, none⟩) hbl6).trans (hrc 4 _ rfl)
      clear hxe hlx hrc hc6
      have S3 := hid (S2.out.below (al1 wr (.cells (rAct x).toArray 33)))
      have X3 := hid (heap_new wr (.cells (rAct x).toArray 33))
      have HF := hid (show wr.heap.size ∉ T.blocks ∧ wr.heap.size ∉ mb :: v.ownBlock.toList from by
        refine ⟨fun h => by have := S2.out.ot.tab.lt _ h; omega, fun h => ?_⟩
        have h1 := blk_lt S2.out.rf.box
        rcases List.mem_cons.1 h with h | h
        · omega
        · have := (S2.out.rf.row.lt _ (by simpa using h)).2; omega)
      go_wp2_with fail
      · -- Delete
        have W0 : Hid (Sim w (wr.alloc (.cells #[.int .i64 x.1.1, .int .u32 (x.1.2.1 : Int), .int .i64 x.1.2.2, .int .i64 x.2.1, .int .u32 (x.2.2 : Int)] 33)).drew tb T mb v L L) := S3.out.below ((Below.refl _ _).drew)
        have X0 : Hid ((wr.alloc (.cells #[.int .i64 x.1.1, .int .u32 (x.1.2.1 : Int), .int .i64 x.1.2.2, .int .i64 x.2.1, .int .u32 (x.2.2 : Int)] 33)).drew.heap[wr.heap.size]? = some (Obj.cells #[.int .i64 x.1.1, .int .u32 (x.1.2.1 : Int), .int .i64 x.1.2.2, .int .i64 x.2.1, .int .u32 (x.2.2 : Int)] 33)) := X3.out
        have hD := delK W0.out.ot x.1.2.1 x.1.2.2 hxb.1 (by omega)
        have s0 : (wr.alloc (.cells #[.int .i64 x.1.1, .int .u32 (x.1.2.1 : Int), .int .i64 x.1.2.2, .int .i64 x.2.1, .int .u32 (x.2.2 : Int)] 33)).drew.cell? ⟨wr.heap.size, 1, none⟩ = some (.int .u32 (x.1.2.1 : Int)) := by rw [blk_cell X0.out 1]; rfl
        have t0 : (wr.alloc (.cells #[.int .i64 x.1.1, .int .u32 (x.1.2.1 : Int), .int .i64 x.1.2.2, .int .i64 x.2.1, .int .u32 (x.2.2 : Int)] 33)).drew.cell? ⟨wr.heap.size, 2, none⟩ = some (.int .i64 x.1.2.2) := by rw [blk_cell X0.out 2]; rfl
        have hbl : wr.heap.size < (wr.alloc (.cells #[.int .i64 x.1.1, .int .u32 (x.1.2.1 : Int), .int .i64 x.1.2.2, .int .i64 x.2.1, .int .u32 (x.2.2 : Int)] 33)).drew.heap.size := blk_lt X0.out
        clear d0 d1 d2 d3 d4
        go_region_held3 (fun v => v.cell? ⟨wr.heap.size, 1, none⟩ = some (.int .u32 (x.1.2.1 : Int)) ∧ v.cell? ⟨wr.heap.size, 2, none⟩ = some (.int .i64 x.1.2.2)) (first | (constructor <;> assumption) | assumption) (first
          | (go_at_call 9; refine hD.mono ?_; rintro e w4 ⟨rfl, T4, t4⟩; have S4 := hid (W0.out.turn t4); have X4 := hid ((t4.keep.block _ hbl HF.out.1).trans X0.out); have s4 := (blk_cell X4.out 1).trans rfl; have t4' := (blk_cell X4.out 2).trans rfl; have hR := refDel w.heap.size mb v L x.1.2.1 x.1.2.2 w4 S4.out.rf S4.out.ot.bel.size W0.out.ot.tab.srt hO.out (by omega))
          | (go_at_call 10; refine hR.mono ?_; rintro e w5 ⟨rfl, v5, r5, c5⟩; have S5 := hid (S4.out.chg r5 c5); have X5 := hid ((c5.keep.block _ (blk_lt X4.out) HF.out.2).trans X4.out); have s5 := (blk_cell X5.out 1).trans rfl; have t5 := (blk_cell X5.out 2).trans rfl)
          | fail)
        have hok := hid (delF_oks hO.out x.1.2.1 x.1.2.2)
        have hle := delF_len L x.1.2.1 x.1.2.2
        clear hD hR s0 t0 s4 t4 t4' r5 c5 s5 t5 S4 X4 X5 W0 X0 hbl
        generalize delF L x.1.2.1 x.1.2.2 = L5 at *
        obtain ⟨p5, cap5, rfl, _, _⟩ := rows_open (by decide) (rows_own S5.out.rf.row)
        have cm := later_cell (B := w5.heap.size) (blk_lt S5.out.rf.box) S5.out.rf.cell
        have hLn := fun u : Later w5.heap.size w5 => len tb T4 L5 u.w (S5.out.ot.tab.below u.h)
        go_wp2_with fail
        refine wp_region_later w5.heap.size (by kernel_rfl) (by kernel_rfl) ?_
        repeat (go_big_quiet_step (first | (go_at_call 20; exact later_same (hLn _)) | fail))
        refine wpQuiet_nil ?_
        rintro _ ⟨u6, rfl⟩
        have S6 := hid (S5.out.below u6.h)
        go_wp2
        go_roundg g1
        case measure => omega
        case rel => exact ⟨k + 1, T4, _, L5, by omega, by go_num, S6, hok, by omega⟩
      · -- Get
        have hG := get tb x.1.2.1 x.1.2.2 T L _ S3.out.ot.tab hxb.1
        have hR := fun wx (h : Ref wx w.heap.size mb v L) => refGet w.heap.size mb v L x.1.2.1 x.1.2.2 wx h S3.out.ot.tab.srt hO.out (by omega)
        generalize getV L x.1.2.1 x.1.2.2 = o at *
        clear d0 d1 d2 d3 d4
        refine hG.mono ?_
        rintro e w4 ⟨rfl, b4⟩
        have S4 := hid (S3.out.below b4)
        have X4 := hid (blk_keep X3.out b4)
        have c1 : w4.cell? ⟨wr.heap.size, 1, none⟩ = some (.int .u32 (x.1.2.1 : Int)) := by rw [blk_cell X4.out 1]; rfl
        have c2 : w4.cell? ⟨wr.heap.size, 2, none⟩ = some (.int .i64 x.1.2.2) := by rw [blk_cell X4.out 2]; rfl
        clear b4 hG
        go_wp2_with fail
        refine (hR _ S4.out.rf).mono ?_
        rintro e w5 ⟨rfl, b5⟩
        have S5 := hid (S4.out.below b5)
        clear b5 hR c1 c2
        obtain ⟨p5, cap5, rfl, _, _⟩ := rows_open (by decide) (rows_own S5.out.rf.row)
        have cm := later_cell (B := w5.heap.size) (blk_lt S5.out.rf.box) S5.out.rf.cell
        have hLn := fun u : Later w5.heap.size w5 => len tb T L u.w (S5.out.ot.tab.below u.h)
        go_wp2_with fail
        refine wp_region_later w5.heap.size (by kernel_rfl) (by kernel_rfl) ?_
        repeat (go_big_quiet_step (first | (go_at_call 20; exact later_same (hLn _)) | fail))
        refine wpQuiet_nil ?_
        rintro _ ⟨u6, rfl⟩
        have S6 := hid (S5.out.below u6.h)
        go_wp2
        go_roundg g1
        case measure => omega
        case rel => exact ⟨k + 1, T, _, L, by omega, by go_num, S6, hO, by omega⟩
      · -- Lookup
        obtain ⟨z0, z1, z2, zb, hz⟩ : ∃ (z0 z1 : Nat) (z2 : Int) (zb : Bool), ∀ w e w', LookPost w (lookV L x.2.2) e w' → e = .returned (.tuple #[px z0 (z1 : Int), .int .i64 z2, .bool zb]) ∧ Below w.heap.size w w' := ⟨_, _, _, _, fun _ _ _ h => h⟩
        have hG := (lookup tb x.2.2 T L _ S3.out.ot.tab hxb.2).mono (hz _)
        have hR := fun wx (h : Ref wx w.heap.size mb v L) => (refLook w.heap.size mb v L x.2.2 wx h S3.out.ot.tab.srt hO.out hxb.2 (by omega)).mono (hz _)
        clear d0 d1 d2 d3 d4 hz
        refine hG.mono ?_
        rintro e w4 ⟨rfl, b4⟩
        have al4 := al1 w4 (.cells #[.int .u32 (z0 : Int), .int .i64 (z1 : Int)] 31)
        have S4 := hid ((S3.out.below b4).below al4)
        have X4 := hid (blk_keep (blk_keep X3.out b4) al4)
        have P4 := hid (heap_new w4 (.cells #[.int .u32 (z0 : Int), .int .i64 (z1 : Int)] 31))
        have c4 : (w4.alloc (.cells #[.int .u32 (z0 : Int), .int .i64 (z1 : Int)] 31)).cell? ⟨wr.heap.size, 4, none⟩ = some (.int .u32 (x.2.2 : Int)) := by rw [blk_cell X4.out 4]; rfl
        obtain ⟨⟨y0, y1⟩, _⟩ := blk_two P4.out
        clear b4 hG al4
        go_wp2_with fail
        refine (hR _ S4.out.rf).mono ?_
        rintro e w5 ⟨rfl, b5⟩
        have al5 := al1 w5 (.cells #[.int .u32 (z0 : Int), .int .i64 (z1 : Int)] 31)
        have S5 := hid ((S4.out.below b5).below al5)
        have P5 := hid (blk_keep (blk_keep P4.out b5) al5)
        have Q5 := hid (heap_new w5 (.cells #[.int .u32 (z0 : Int), .int .i64 (z1 : Int)] 31))
        clear b5 hR c4 al5 y0 y1
        obtain ⟨⟨y0, y1⟩, _⟩ := blk_two P5.out
        obtain ⟨⟨q0, q1⟩, _⟩ := blk_two Q5.out
        obtain ⟨p5, cap5, rfl, _, _⟩ := rows_open (by decide) (rows_own S5.out.rf.row)
        have cm := later_cell (B := (w5.alloc (.cells #[.int .u32 (z0 : Int), .int .i64 (z1 : Int)] 31)).heap.size) (blk_lt S5.out.rf.box) S5.out.rf.cell
        have hLn := fun u : Later (w5.alloc (.cells #[.int .u32 (z0 : Int), .int .i64 (z1 : Int)] 31)).heap.size (w5.alloc (.cells #[.int .u32 (z0 : Int), .int .i64 (z1 : Int)] 31)) => len tb T L u.w (S5.out.ot.tab.below u.h)
        go_wp2_with fail
        refine wp_region_later (w5.alloc (.cells #[.int .u32 (z0 : Int), .int .i64 (z1 : Int)] 31)).heap.size (by kernel_rfl) (by kernel_rfl) ?_
        repeat (go_big_quiet_step (first | (go_at_call 20; exact later_same (hLn _)) | fail))
        refine wpQuiet_nil ?_
        rintro _ ⟨u6, rfl⟩
        have S6 := hid (S5.out.below u6.h)
        go_wp2
        go_roundg g1
        case measure => omega
        case rel => exact ⟨k + 1, T, _, L, by omega, by go_num, S6, hO, by omega⟩
      · -- Covering
        have W0 : Hid (Sim w (wr.alloc (.cells #[.int .i64 x.1.1, .int .u32 (x.1.2.1 : Int), .int .i64 x.1.2.2, .int .i64 x.2.1, .int .u32 (x.2.2 : Int)] 33)).drew tb T mb v L L) := S3.out.below ((Below.refl _ _).drew)
        have X0 : Hid ((wr.alloc (.cells #[.int .i64 x.1.1, .int .u32 (x.1.2.1 : Int), .int .i64 x.1.2.2, .int .i64 x.2.1, .int .u32 (x.2.2 : Int)] 33)).drew.heap[wr.heap.size]? = some (Obj.cells #[.int .i64 x.1.1, .int .u32 (x.1.2.1 : Int), .int .i64 x.1.2.2, .int .i64 x.2.1, .int .u32 (x.2.2 : Int)] 33)) := X3.out
        have hG := cover tb x.1.2.1 x.1.2.2 T L _ W0.out.ot.tab hxb.1
        have hR := fun wx (h : Ref wx w.heap.size mb v L) => refCov w.heap.size mb v L x.1.2.1 x.1.2.2 wx h W0.out.ot.tab.srt hO.out hxb.1 (by omega)
        have hcl : (covsV L x.1.2.1 x.1.2.2).length ≤ 1000000 := by
          unfold covsV
          split
          · rw [List.length_map]; unfold covF; have := List.length_filter_le (fun y : En => covB y.1.1 y.1.2 (x.1.2.1, x.1.2.2.toNat).1 (x.1.2.1, x.1.2.2.toNat).2) L; omega
          · simp
        generalize covsV L x.1.2.1 x.1.2.2 = cv at *
        have s0 : (wr.alloc (.cells #[.int .i64 x.1.1, .int .u32 (x.1.2.1 : Int), .int .i64 x.1.2.2, .int .i64 x.2.1, .int .u32 (x.2.2 : Int)] 33)).drew.cell? ⟨wr.heap.size, 1, none⟩ = some (.int .u32 (x.1.2.1 : Int)) := by rw [blk_cell X0.out 1]; rfl
        have t0 : (wr.alloc (.cells #[.int .i64 x.1.1, .int .u32 (x.1.2.1 : Int), .int .i64 x.1.2.2, .int .i64 x.2.1, .int .u32 (x.2.2 : Int)] 33)).drew.cell? ⟨wr.heap.size, 2, none⟩ = some (.int .i64 x.1.2.2) := by rw [blk_cell X0.out 2]; rfl
        clear d0 d1 d2 d3 d4
        go_region_held3 (fun v => v.cell? ⟨wr.heap.size, 1, none⟩ = some (.int .u32 (x.1.2.1 : Int)) ∧ v.cell? ⟨wr.heap.size, 2, none⟩ = some (.int .i64 x.1.2.2)) (first | (constructor <;> assumption) | assumption) (first
          | (go_at_call 16; refine hG.mono ?_; rintro e w4 ⟨v4, rfl, r4, b4⟩; have S4 := hid (W0.out.below b4); have X4 := hid (blk_keep X0.out b4); have s4 := (blk_cell X4.out 1).trans rfl; have t4' := (blk_cell X4.out 2).trans rfl; have R4 := hid r4)
          | (go_at_call 17; refine (hR _ S4.out.rf).mono ?_; rintro e w5 ⟨v5, rfl, r5, b5⟩; have S5 := hid (S4.out.below b5); have X5 := hid (blk_keep X4.out b5); have s5 := (blk_cell X5.out 1).trans rfl; have t5' := (blk_cell X5.out 2).trans rfl; have R5 := hid r5; have P5 := hid (rows_keep R4.out b5))
          | (go_at_call 15; refine (keepPx v4 v5 cv _ P5.out R5.out hcl).mono ?_; rintro e w6 ⟨rfl, b6⟩; have S7 := hid (S5.out.below b6); have X7 := hid (blk_keep X5.out b6); have s7 := (blk_cell X7.out 1).trans rfl; have t7' := (blk_cell X7.out 2).trans rfl)
          | fail)
        clear s0 t0 s4 t4' s5 t5' s7 t7' r4 r5 b4 b5 b6 hG hR
        obtain ⟨p5, cap5, rfl, _, _⟩ := rows_open (by decide) (rows_own S7.out.rf.row)
        have cm := later_cell (B := w6.heap.size) (blk_lt S7.out.rf.box) S7.out.rf.cell
        have hLn := fun u : Later w6.heap.size w6 => len tb T L u.w (S7.out.ot.tab.below u.h)
        go_wp2_with fail
        refine wp_region_later w6.heap.size (by kernel_rfl) (by kernel_rfl) ?_
        repeat (go_big_quiet_step (first | (go_at_call 20; exact later_same (hLn _)) | fail))
        refine wpQuiet_nil ?_
        rintro _ ⟨u6, rfl⟩
        have S6 := hid (S7.out.below u6.h)
        go_wp2
        go_roundg g1
        case measure => omega
        case rel => exact ⟨k + 1, T, _, L, by omega, by go_num, S6, hO, by omega⟩
      · -- Insert
        have W0 : Hid (Sim w (wr.alloc (.cells #[.int .i64 x.1.1, .int .u32 (x.1.2.1 : Int), .int .i64 x.1.2.2, .int .i64 x.2.1, .int .u32 (x.2.2 : Int)] 33)).drew tb T mb v L L) := S3.out.below ((Below.refl _ _).drew)
        have X0 : Hid ((wr.alloc (.cells #[.int .i64 x.1.1, .int .u32 (x.1.2.1 : Int), .int .i64 x.1.2.2, .int .i64 x.2.1, .int .u32 (x.2.2 : Int)] 33)).drew.heap[wr.heap.size]? = some (Obj.cells #[.int .i64 x.1.1, .int .u32 (x.1.2.1 : Int), .int .i64 x.1.2.2, .int .i64 x.2.1, .int .u32 (x.2.2 : Int)] 33)) := X3.out
        have hD := insK W0.out.ot x.1.2.1 x.1.2.2 x.2.1 hxb.1 (by omega)
        have s0 : (wr.alloc (.cells #[.int .i64 x.1.1, .int .u32 (x.1.2.1 : Int), .int .i64 x.1.2.2, .int .i64 x.2.1, .int .u32 (x.2.2 : Int)] 33)).drew.cell? ⟨wr.heap.size, 1, none⟩ = some (.int .u32 (x.1.2.1 : Int)) := by rw [blk_cell X0.out 1]; rfl
        have q0 : (wr.alloc (.cells #[.int .i64 x.1.1, .int .u32 (x.1.2.1 : Int), .int .i64 x.1.2.2, .int .i64 x.2.1, .int .u32 (x.2.2 : Int)] 33)).drew.cell? ⟨wr.heap.size, 3, none⟩ = some (.int .i64 x.2.1) := by rw [blk_cell X0.out 3]; rfl
        have t0 : (wr.alloc (.cells #[.int .i64 x.1.1, .int .u32 (x.1.2.1 : Int), .int .i64 x.1.2.2, .int .i64 x.2.1, .int .u32 (x.2.2 : Int)] 33)).drew.cell? ⟨wr.heap.size, 2, none⟩ = some (.int .i64 x.1.2.2) := by rw [blk_cell X0.out 2]; rfl
        have hbl : wr.heap.size < (wr.alloc (.cells #[.int .i64 x.1.1, .int .u32 (x.1.2.1 : Int), .int .i64 x.1.2.2, .int .i64 x.2.1, .int .u32 (x.2.2 : Int)] 33)).drew.heap.size := blk_lt X0.out
        clear d0 d1 d2 d3 d4
        go_region_held3 (fun v => v.cell? ⟨wr.heap.size, 1, none⟩ = some (.int .u32 (x.1.2.1 : Int)) ∧ v.cell? ⟨wr.heap.size, 2, none⟩ = some (.int .i64 x.1.2.2) ∧ v.cell? ⟨wr.heap.size, 3, none⟩ = some (.int .i64 x.2.1)) (first | (refine ⟨?_, ?_, ?_⟩ <;> assumption) | assumption) (first
          | (go_at_call 18; refine hD.mono ?_; rintro e w4 ⟨rfl, T4, t4⟩; have S4 := hid (W0.out.turn t4); have X4 := hid ((t4.keep.block _ hbl HF.out.1).trans X0.out); have s4 := (blk_cell X4.out 1).trans rfl; have t4' := (blk_cell X4.out 2).trans rfl; have q4 := (blk_cell X4.out 3).trans rfl; have hR := refIns w.heap.size mb v L x.1.2.1 x.1.2.2 x.2.1 w4 S4.out.rf S4.out.ot.bel.size W0.out.ot.tab.srt hO.out hxb.1 (by omega))
          | (go_at_call 19; refine hR.mono ?_; rintro e w5 ⟨rfl, v5, r5, c5⟩; have S5 := hid (S4.out.chg r5 c5); have X5 := hid ((c5.keep.block _ (blk_lt X4.out) HF.out.2).trans X4.out); have s5 := (blk_cell X5.out 1).trans rfl; have t5 := (blk_cell X5.out 2).trans rfl; have q5 := (blk_cell X5.out 3).trans rfl)
          | fail)
        have hok := hid (insF_oks hO.out (x := (x.1.2, x.2.1)) hxb.1)
        have hle := insF_len W0.out.ot.tab.srt (x.1.2, x.2.1)
        clear q0 q4 q5 hD hR s0 t0 s4 t4 t4' r5 c5 s5 t5 S4 X4 X5 W0 X0 hbl
        generalize insF L (x.1.2, x.2.1) = L5 at *
        obtain ⟨p5, cap5, rfl, _, _⟩ := rows_open (by decide) (rows_own S5.out.rf.row)
        have cm := later_cell (B := w5.heap.size) (blk_lt S5.out.rf.box) S5.out.rf.cell
        have hLn := fun u : Later w5.heap.size w5 => len tb T4 L5 u.w (S5.out.ot.tab.below u.h)
        go_wp2_with fail
        refine wp_region_later w5.heap.size (by kernel_rfl) (by kernel_rfl) ?_
        repeat (go_big_quiet_step (first | (go_at_call 20; exact later_same (hLn _)) | fail))
        refine wpQuiet_nil ?_
        rintro _ ⟨u6, rfl⟩
        have S6 := hid (S5.out.below u6.h)
        go_wp2
        go_roundg g1
        case measure => omega
        case rel => exact ⟨k + 1, T4, _, L5, by omega, by go_num, S6, hok, by omega⟩

theorem walkTriePlays (v : Value) (l : List RAct) (w : World) (h : IsRow rAct 5 w v l) (hbd : BdA l) :
    Calls Try.prog 3 #[v] w (BoolPost true w) := by
  by_cases hl : l.length ≤ 60
  · exact plays_main v l w h hbd hl
  · exact plays_big v l.length _ w h (by omega)
end Go.Proofs.Ytnlmplllfgfgoaa.Ad
