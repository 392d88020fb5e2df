/-
  THE WALK OF TrieLongest.
-/
import Derived.Test.YtnlmplllfgfgoaaTriV
import Derived.Test.YtnlmplllfgfgoaaTriR
namespace Go.Proofs.Ytnlmplllfgfgoaa.Ad
set_option linter.unusedSimpArgs false
set_option linter.unusedVariables false
open Go.RowKit Am Kt Tp Tm Tr

set_option maxHeartbeats 1000000 in
theorem longest_big (v : Value) (n : Nat) (xs : List Value) (a : Nat) (w : World) (h : Tm.Rows w 3 v n xs) (hn : 40 < n) :
    Calls Try.prog 4 #[v, .int .u32 (a : Int)] w (BoolPost true w) := by
  obtain ⟨p1, cap, rfl, hnc, X⟩ := rows_open (by decide) h
  clear h X
  go_enter Try.func4, Try.ntmps4
  go_wp2_with fail
  go_ret
  exact ⟨rfl, Below.refl _ _⟩

set_option maxHeartbeats 8000000 in
set_option maxRecDepth 100000 in
theorem longest_none (v : Value) (l : List REn) (a : Nat) (w : World) (h : IsRow rEn 3 w v l) (hbd : BdE l) (ha : a < 4294967296) (hl : l.length ≤ 40) (ho : lookV (bldL l) a = none) :
    Calls Try.prog 4 #[v, .int .u32 (a : Int)] w (BoolPost true w) := by
  have hSrt := bldL_srt l
  have hOk := bldL_oks hbd
  have hIn := look_none ho
  have hBnd : ∀ x ∈ l, validB x.1.1 x.1.2 = true → contB x.1.1 x.1.2 a = true → False := fun x hx hv hc => by
    obtain ⟨y, hy⟩ := bldL_has l [] (x.1.1, x.1.2.toNat) (.inr ⟨x, hx, hv, rfl⟩)
    have hn := valid_nat hv
    have := hIn _ hy
    simp only at this
    rw [← hn, hc] at this
    cases this
  have hLk : ∀ tb T wx, OT w tb T (bldL l) wx → Calls Try.prog 13 #[pt tb, .int .u32 (a : Int)] wx fun e w' => e = .returned (.tuple #[px 0 0, .int .i64 0, .bool false]) ∧ Below wx.heap.size wx w' := fun tb T wx h => by
    have := lookup tb a T _ wx h.tab ha
    rw [ho] at this
    exact this
  obtain ⟨g, hg⟩ : ∃ g : Int, g = (getV (bldL l) 0 0).getD 0 := ⟨_, rfl⟩
  obtain ⟨gb, hgb⟩ : ∃ gb : Bool, gb = (getV (bldL l) 0 0).isSome := ⟨_, rfl⟩
  have hGt : ∀ tb T wx, OT w tb T (bldL l) wx → Calls Try.prog 11 #[pt tb, px 0 0] wx fun e w' => e = .returned (.tuple #[.int .i64 g, .bool gb]) ∧ Below wx.heap.size wx w' := fun tb T wx h => by
    have := get tb 0 0 T _ wx h.tab (by decide)
    rw [hg, hgb]
    exact this
  clear hg hgb
  have hBl := built v l w h hbd (by omega)
  have hSn := fun wx => sane wx
  obtain ⟨n, hn⟩ : ∃ n, n = l.length := ⟨_, rfl⟩
  have h := row_n h hn
  obtain ⟨p1, cap, rfl, hnc, X⟩ := rows_open (by decide) h
  rw [← hn] at hl
  have HL := hid hn
  have HX := hid X
  have HBnd := hid hBnd
  have HBd := hid hbd
  clear h X hn hbd hBnd hIn hOk hSrt ho
  go_enter Try.func4, Try.ntmps4
  go_wp2_with fail
  refine hBl.mono ?_
  rintro e w1 ⟨tb, T, rfl, ht, hb, hnw⟩
  have O1 := hid (OT.mk ht hb hnw)
  clear ht hb hnw hBl
  go_wp2_with fail
  refine (hLk tb T _ O1.out).mono ?_
  rintro e w2 ⟨rfl, b2⟩
  have O2 := hid (O1.out.below b2)
  clear b2 O1 hLk
  have hx2 := heap_new w2 (.cells #[.int .u32 0, .int .i64 0] 31)
  obtain ⟨⟨x0, x1⟩, _⟩ := blk_two hx2
  have X2 := hid hx2
  clear hx2
  go_wp2_with (first | (go_at_call 11; refine (hGt tb T _ (O2.out.below (al1 w2 _))).mono ?_; rintro e w3 ⟨rfl, b3⟩; have o3 := hid ((O2.out.below (al1 w2 _)).below b3); have hx3 := blk_keep X2.out b3; obtain ⟨⟨y0, y1⟩, _⟩ := blk_two hx3; have x3 := hid hx3; clear b3 hx3 x0 x1) )
  have O4 := hid o3.out
  have X4 := hid x3.out
  go_loopg [11] n (fun gg i wr => ∃ k : Nat, k + gg = n ∧ i = .int .i64 k ∧ Below w.heap.size w wr ∧ wr.heap[w2.heap.size]? = some (.cells #[.int .u32 0, .int .i64 0] 31 (0, 0)))
  case atStart => exact ⟨0, by omega, rfl, O4.out.bel, X4.out⟩
  case round =>
    obtain ⟨k, hk, rfl, hbel, hbox⟩ := hrel
    cases gk with
    | zero =>
      have hlt : ¬ ((k : Int) < (n : Int)) := by omega
      have HB := hid hbel
      clear hbel hbox
      go_wp2_with (go_at_call 23; refine (hSn _).mono ?_; rintro e w9 ⟨rfl, b9⟩)
      go_ret
      exact ⟨rfl, HB.out.trans (b9.mono HB.out.size)⟩
    | succ g1 =>
      have hkn : k < n := by omega
      have hlt : (k : Int) < (n : Int) := by omega
      obtain ⟨b, off, rfl, hbl, hc⟩ := HX.out (by omega)
      obtain ⟨x, hxe⟩ : ∃ x, x = (l[k]'(by rw [← HL.out]; exact hkn)) := ⟨_, rfl⟩
      have hlx : l[k]? = some x := by rw [hxe]; exact List.getElem?_eq_getElem _
      have hxm := List.mem_of_getElem? hlx
      obtain ⟨c0, c1, _⟩ := rEn_cells hc hlx
      have c0 := (hbel.cell (p := ⟨b, off + k * 3, none⟩) hbl).trans c0
      have c1 := (hbel.cell (p := ⟨b, off + k * 3 + 1, none⟩) hbl).trans c1
      have hxb := HBd.out x hxm
      clear hc hxe hlx
      have hV := fun wx => refValid x.1.1 x.1.2 wx hxb
      have hC := fun wx => refContains x.1.1 x.1.2 a wx ha
      have s3 := hbel.size
      have al3 := al1 wr (.cells #[.int .u32 (x.1.1 : Int), .int .i64 x.1.2] 31)
      have y4 := heap_new wr (.cells #[.int .u32 (x.1.1 : Int), .int .i64 x.1.2] 31)
      have z4 := blk_keep hbox al3
      have bel4 : Below w.heap.size w (wr.alloc (.cells #[.int .u32 (x.1.1 : Int), .int .i64 x.1.2] 31)) := hbel.trans (al3.mono s3)
      have s4 : w.heap.size ≤ (wr.alloc (.cells #[.int .u32 (x.1.1 : Int), .int .i64 x.1.2] 31)).heap.size := Nat.le_trans s3 al3.size
      obtain ⟨⟨k0, k1⟩, _⟩ := blk_two y4
      clear al3 hbel hbox
      rcases hv : validB x.1.1 x.1.2 with _ | _
      · rw [hv] at hV
        clear hv
        go_wp2_with (go_at_call 26; refine (hV _).mono ?_; rintro e w5 ⟨rfl, b5⟩; have B5 := hid (bel4.trans (b5.mono s4)); have Z5 := hid (blk_keep z4 b5); clear b5)
        go_roundg g1
        case measure => omega
        case rel => exact ⟨k + 1, by omega, by go_num, B5.out, Z5.out⟩
      · rcases hc : contB x.1.1 x.1.2 a with _ | _
        · rw [hv] at hV
          rw [hc] at hC
          clear hv hc
          go_wp2_with (first | (go_at_call 26; refine (hV _).mono ?_; rintro e w5 ⟨rfl, b5⟩; have y5 := blk_keep y4 b5; obtain ⟨⟨d0, d1⟩, _⟩ := blk_two y5; have B5 := hid (bel4.trans (b5.mono s4)); have Z5 := hid (blk_keep z4 b5); have s5 := hid (Nat.le_trans s4 b5.size); clear b5 y5 y4 z4 bel4 s4) | (go_at_call 25; refine (hC _).mono ?_; rintro e w6 ⟨rfl, b6⟩; have B6 := hid (B5.out.trans (b6.mono s5.out)); have Z6 := hid (blk_keep Z5.out b6); clear b6))
          go_roundg g1
          case measure => omega
          case rel => exact ⟨k + 1, by omega, by go_num, B6.out, Z6.out⟩
        · exact (HBnd.out x hxm hv hc).elim

set_option maxHeartbeats 8000000 in
set_option maxRecDepth 100000 in
theorem longest_some (v : Value) (l : List REn) (a : Nat) (w : World) (h : IsRow rEn 3 w v l) (hbd : BdE l) (ha : a < 4294967296) (hl : l.length ≤ 40) (q m : Nat) (u : Int) (ho : lookV (bldL l) a = some ((q, m), u)) :
    Calls Try.prog 4 #[v, .int .u32 (a : Int)] w (BoolPost true w) := by
  have hSrt := bldL_srt l
  have hOk := bldL_oks hbd
  have hIn := look_some hSrt hOk ho
  simp only at hIn
  have hBnd : ∀ x ∈ l, validB x.1.1 x.1.2 = true → contB x.1.1 x.1.2 a = true → x.1.2 ≤ (m : Int) := fun x hx hv hc => by
    obtain ⟨y, hy⟩ := bldL_has l [] (x.1.1, x.1.2.toNat) (.inr ⟨x, hx, hv, rfl⟩)
    have hn := valid_nat hv
    have := hIn.2.2 _ hy (by simp only; rw [← hn]; exact hc)
    simp only at this
    omega
  have hLk : ∀ tb T wx, OT w tb T (bldL l) wx → Calls Try.prog 13 #[pt tb, .int .u32 (a : Int)] wx fun e w' => e = .returned (.tuple #[px q (m : Int), .int .i64 u, .bool true]) ∧ Below wx.heap.size wx w' := fun tb T wx h => by
    have := lookup tb a T _ wx h.tab ha
    rw [ho] at this
    exact this
  have hGt : ∀ tb T wx, OT w tb T (bldL l) wx → Calls Try.prog 11 #[pt tb, px q (m : Int)] wx fun e w' => e = .returned (.tuple #[.int .i64 u, .bool true]) ∧ Below wx.heap.size wx w' := fun tb T wx h => by
    have := get tb q (m : Int) T _ wx h.tab (hOk _ hIn.1).2.2
    rw [getV_mem hSrt hOk hIn.1] at this
    exact this
  have hCn := fun wx => refContains q (m : Int) a wx ha
  rw [hIn.2.1] at hCn
  have hBl := built v l w h hbd (by omega)
  have hSn := fun wx => sane wx
  obtain ⟨n, hn⟩ : ∃ n, n = l.length := ⟨_, rfl⟩
  have h := row_n h hn
  obtain ⟨p1, cap, rfl, hnc, X⟩ := rows_open (by decide) h
  rw [← hn] at hl
  have HL := hid hn
  have HX := hid X
  have HBnd := hid hBnd
  have HBd := hid hbd
  clear h X hn hbd hBnd hIn hOk hSrt ho
  go_enter Try.func4, Try.ntmps4
  go_wp2_with fail
  refine hBl.mono ?_
  rintro e w1 ⟨tb, T, rfl, ht, hb, hnw⟩
  have O1 := hid (OT.mk ht hb hnw)
  clear ht hb hnw hBl
  go_wp2_with fail
  refine (hLk tb T _ O1.out).mono ?_
  rintro e w2 ⟨rfl, b2⟩
  have O2 := hid (O1.out.below b2)
  clear b2 O1 hLk
  have hx2 := heap_new w2 (.cells #[.int .u32 (q : Int), .int .i64 (m : Int)] 31)
  obtain ⟨⟨x0, x1⟩, _⟩ := blk_two hx2
  have X2 := hid hx2
  clear hx2
  go_wp2_with (first | (go_at_call 11; refine (hGt tb T _ (O2.out.below (al1 w2 _))).mono ?_; rintro e w3 ⟨rfl, b3⟩; have o3 := hid ((O2.out.below (al1 w2 _)).below b3); have hx3 := blk_keep X2.out b3; obtain ⟨⟨y0, y1⟩, _⟩ := blk_two hx3; have x3 := hid hx3; clear b3 hx3 x0 x1) | (go_at_call 25; refine (hCn _).mono ?_; rintro e w4 ⟨rfl, b4⟩; have o4 := hid (o3.out.below b4); have x4 := hid (blk_keep x3.out b4); clear b4 o3 x3))
  have O4 := hid o4.out
  have X4 := hid x4.out
  go_loopg [11] n (fun gg i wr => ∃ k : Nat, k + gg = n ∧ i = .int .i64 k ∧ Below w.heap.size w wr ∧ wr.heap[w2.heap.size]? = some (.cells #[.int .u32 (q : Int), .int .i64 (m : Int)] 31 (0, 0)))
  case atStart => exact ⟨0, by omega, rfl, O4.out.bel, X4.out⟩
  case round =>
    obtain ⟨k, hk, rfl, hbel, hbox⟩ := hrel
    cases gk with
    | zero =>
      have hlt : ¬ ((k : Int) < (n : Int)) := by omega
      have HB := hid hbel
      clear hbel hbox
      go_wp2_with (go_at_call 23; refine (hSn _).mono ?_; rintro e w9 ⟨rfl, b9⟩)
      go_ret
      exact ⟨rfl, HB.out.trans (b9.mono HB.out.size)⟩
    | succ g1 =>
      have hkn : k < n := by omega
      have hlt : (k : Int) < (n : Int) := by omega
      obtain ⟨b, off, rfl, hbl, hc⟩ := HX.out (by omega)
      obtain ⟨x, hxe⟩ : ∃ x, x = (l[k]'(by rw [← HL.out]; exact hkn)) := ⟨_, rfl⟩
      have hlx : l[k]? = some x := by rw [hxe]; exact List.getElem?_eq_getElem _
      have hxm := List.mem_of_getElem? hlx
      obtain ⟨c0, c1, _⟩ := rEn_cells hc hlx
      have c0 := (hbel.cell (p := ⟨b, off + k * 3, none⟩) hbl).trans c0
      have c1 := (hbel.cell (p := ⟨b, off + k * 3 + 1, none⟩) hbl).trans c1
      have hxb := HBd.out x hxm
      clear hc hxe hlx
      have hV := fun wx => refValid x.1.1 x.1.2 wx hxb
      have hC := fun wx => refContains x.1.1 x.1.2 a wx ha
      have s3 := hbel.size
      have al3 := al1 wr (.cells #[.int .u32 (x.1.1 : Int), .int .i64 x.1.2] 31)
      have y4 := heap_new wr (.cells #[.int .u32 (x.1.1 : Int), .int .i64 x.1.2] 31)
      have z4 := blk_keep hbox al3
      have bel4 : Below w.heap.size w (wr.alloc (.cells #[.int .u32 (x.1.1 : Int), .int .i64 x.1.2] 31)) := hbel.trans (al3.mono s3)
      have s4 : w.heap.size ≤ (wr.alloc (.cells #[.int .u32 (x.1.1 : Int), .int .i64 x.1.2] 31)).heap.size := Nat.le_trans s3 al3.size
      obtain ⟨⟨k0, k1⟩, _⟩ := blk_two y4
      clear al3 hbel hbox
      rcases hv : validB x.1.1 x.1.2 with _ | _
      · rw [hv] at hV
        clear hv
        go_wp2_with (go_at_call 26; refine (hV _).mono ?_; rintro e w5 ⟨rfl, b5⟩; have B5 := hid (bel4.trans (b5.mono s4)); have Z5 := hid (blk_keep z4 b5); clear b5)
        go_roundg g1
        case measure => omega
        case rel => exact ⟨k + 1, by omega, by go_num, B5.out, Z5.out⟩
      · rcases hc : contB x.1.1 x.1.2 a with _ | _
        · rw [hv] at hV
          rw [hc] at hC
          clear hv hc
          go_wp2_with (first | (go_at_call 26; refine (hV _).mono ?_; rintro e w5 ⟨rfl, b5⟩; have y5 := blk_keep y4 b5; obtain ⟨⟨d0, d1⟩, _⟩ := blk_two y5; have B5 := hid (bel4.trans (b5.mono s4)); have Z5 := hid (blk_keep z4 b5); have s5 := hid (Nat.le_trans s4 b5.size); clear b5 y5 y4 z4 bel4 s4) | (go_at_call 25; refine (hC _).mono ?_; rintro e w6 ⟨rfl, b6⟩; have B6 := hid (B5.out.trans (b6.mono s5.out)); have Z6 := hid (blk_keep Z5.out b6); clear b6))
          go_roundg g1
          case measure => omega
          case rel => exact ⟨k + 1, by omega, by go_num, B6.out, Z6.out⟩
        · -- the prefix contains the address: it is no longer than the longest one
          have hle := HBnd.out x hxm hv hc
          have hgt : ¬ (m : Int) < x.1.2 := by omega
          rw [hv] at hV
          rw [hc] at hC
          clear hv hc
          go_wp2_with (first | (go_at_call 26; refine (hV _).mono ?_; rintro e w5 ⟨rfl, b5⟩; have y5 := blk_keep y4 b5; have z5 := blk_keep z4 b5; obtain ⟨⟨d0, d1⟩, _⟩ := blk_two y5; have p1' := (blk_two z5).1.2; have B5 := hid (bel4.trans (b5.mono s4)); have Z5 := hid z5; have s5 := hid (Nat.le_trans s4 b5.size); have Y5 := hid y5; clear b5 y5 z5 y4 z4 bel4 s4) | (go_at_call 25; refine (hC _).mono ?_; rintro e w6 ⟨rfl, b6⟩; have e1 := (blk_two (blk_keep Y5.out b6)).1.2; have z6 := blk_keep Z5.out b6; have pp1 := (blk_two z6).1.2; have B6 := hid (B5.out.trans (b6.mono s5.out)); have Z6 := hid z6; clear b6 z6))
          go_roundg g1
          case measure => omega
          case rel => exact ⟨k + 1, by omega, by go_num, B6.out, Z6.out⟩

theorem walkTrieLongest (v : Value) (l : List REn) (a : Nat) (w : World) (h : IsRow rEn 3 w v l) (hbd : BdE l) (ha : a < 4294967296) :
    Calls Try.prog 4 #[v, .int .u32 (a : Int)] w (BoolPost true w) := by
  by_cases hl : l.length ≤ 40
  · cases ho : lookV (bldL l) a with
    | none => exact longest_none v l a w h hbd ha hl ho
    | some z => obtain ⟨⟨q, m⟩, u⟩ := z; exact longest_some v l a w h hbd ha hl q m u ho
  · exact longest_big v l.length _ a w h (by omega)
end Go.Proofs.Ytnlmplllfgfgoaa.Ad
