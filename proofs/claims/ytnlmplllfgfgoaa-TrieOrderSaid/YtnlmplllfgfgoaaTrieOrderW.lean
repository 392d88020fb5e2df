/-
  THE WALK OF TrieOrder.
-/
import Derived.Test.YtnlmplllfgfgoaaTriY
namespace Go.Proofs.Ytnlmplllfgfgoaa.Ad
set_option linter.unusedSimpArgs false
set_option linter.unusedVariables false
open Go.RowKit Am Kt Tp Tm Tr

/-! ### Plain facts: the order of insertion does not matter -/
theorem insF_yes {L : List En} {y : REn} (h : validB y.1.1 y.1.2 = true) : insF L y = ins L (y.1.1, y.1.2.toNat) y.2 := by unfold insF; rw [if_pos h]
theorem insF_no {L : List En} {y : REn} (h : validB y.1.1 y.1.2 = false) : insF L y = L := by unfold insF; rw [if_neg (by rw [h]; decide)]
theorem bld_mem : ∀ (l : List REn) (L : List En), l.Pairwise (fun x y => x.1 ≠ y.1) → (∀ x ∈ l, ∀ e ∈ L, validB x.1.1 x.1.2 = true → e.1 ≠ (x.1.1, x.1.2.toNat)) →
    ∀ z, z ∈ l.foldl insF L ↔ z ∈ L ∨ ∃ y ∈ l, validB y.1.1 y.1.2 = true ∧ z = ((y.1.1, y.1.2.toNat), y.2)
  | [], L, _, _, z => by simp
  | y :: l, L, hp, hd, z => by
    rw [List.pairwise_cons] at hp
    have hstep : ∀ z, z ∈ insF L y ↔ z ∈ L ∨ (validB y.1.1 y.1.2 = true ∧ z = ((y.1.1, y.1.2.toNat), y.2)) := fun z => by
      cases hv : validB y.1.1 y.1.2 with
      | false => rw [insF_no hv]; simp
      | true =>
        rw [insF_yes hv, mem_ins]
        constructor
        · rintro (h | ⟨h, _⟩)
          · exact .inr ⟨rfl, h⟩
          · exact .inl h
        · rintro (h | ⟨_, h⟩)
          · exact .inr ⟨h, hd y (by simp) z h hv⟩
          · exact .inl h
    have hd2 : ∀ x ∈ l, ∀ e ∈ insF L y, validB x.1.1 x.1.2 = true → e.1 ≠ (x.1.1, x.1.2.toNat) := fun x hx e he hv => by
      rcases (hstep e).1 he with h | ⟨hvy, h⟩
      · exact hd x (List.mem_cons_of_mem _ hx) e h hv
      · rw [h]
        intro hh
        have h1 := valid_nat hv
        have h2 := valid_nat hvy
        simp only [Prod.mk.injEq] at hh
        exact hp.1 x hx (Prod.ext hh.1 (by omega))
    rw [List.foldl_cons, bld_mem l _ hp.2 hd2 z, hstep z]
    simp only [List.mem_cons]
    constructor
    · rintro ((h | ⟨hv, h⟩) | ⟨x, hx, hv, h⟩)
      · exact .inl h
      · exact .inr ⟨y, .inl rfl, hv, h⟩
      · exact .inr ⟨x, .inr hx, hv, h⟩
    · rintro (h | ⟨x, rfl | hx, hv, h⟩)
      · exact .inl (.inl h)
      · exact .inl (.inr ⟨hv, h⟩)
      · exact .inr ⟨x, hx, hv, h⟩
theorem bld_rev {l : List REn} (h : ∀ i k, (hi : i < l.length) → (hk : k < i) → l[i].1 ≠ (l[k]'(by omega)).1) : bldL l.reverse = bldL l := by
  have hp : l.Pairwise (fun x y => x.1 ≠ y.1) := List.pairwise_iff_getElem.2 fun i j hi hj hij e => h j i hj hij e.symm
  have hq : l.reverse.Pairwise (fun x y => x.1 ≠ y.1) := List.pairwise_reverse.2 (hp.imp fun h e => h e.symm)
  refine srt_ext (bldL_srt _) (bldL_srt _) fun z => ?_
  unfold bldL
  rw [bld_mem _ _ hp (fun _ _ e he => by cases he), bld_mem _ _ hq (fun _ _ e he => by cases he)]
  simp
/-- An entry that is inserted and deleted again. -/
theorem back_del {L : List En} (hs : Srt L) {a : Nat} {n : Int} (ha : a < 4294967296) (hv : validB a n = true) (hn : getV L a n = none) (v : Int) :
    getV (insF L ((a, n), v)) a n = some v ∧ delF (insF L ((a, n), v)) a n = L := by
  have hi : insF L ((a, n), v) = ins L (a, n.toNat) v := insF_yes hv
  have hg : getL L (a, n.toNat) = none := by rw [getV_yes hv] at hn; exact hn
  have h1 : getV (insF L ((a, n), v)) a n = some v := by rw [hi, getV_yes hv, getL_ins hs, if_pos rfl]
  refine ⟨h1, ?_⟩
  unfold delF
  rw [h1, hi]
  exact del_ins hs hg

set_option maxHeartbeats 1000000 in
theorem order_big (v v2 : Value) (n n2 : Nat) (xs ys : List Value) (a : Nat) (w : World) (h : Tm.Rows w 3 v n xs) (h2 : Tm.Rows w 2 v2 n2 ys) (hn : 30 < n) :
    Calls Try.prog 5 #[v, v2, .int .u32 (a : Int)] w (BoolPost true w) := by
  obtain ⟨p1, cap, rfl, hnc, X⟩ := rows_open (by decide) h
  obtain ⟨p2, cap2, rfl, hnc2, Y⟩ := rows_open (by decide) h2
  clear h X h2 Y
  go_enter Try.func5, Try.ntmps5
  go_wp2_with fail
  go_ret
  exact ⟨rfl, Below.refl _ _⟩
set_option maxHeartbeats 1000000 in
theorem order_more (v v2 : Value) (n n2 : Nat) (xs ys : List Value) (a : Nat) (w : World) (h : Tm.Rows w 3 v n xs) (h2 : Tm.Rows w 2 v2 n2 ys) (hn : n ≤ 30) (hn2 : 20 < n2) :
    Calls Try.prog 5 #[v, v2, .int .u32 (a : Int)] w (BoolPost true w) := by
  obtain ⟨p1, cap, rfl, hnc, X⟩ := rows_open (by decide) h
  obtain ⟨p2, cap2, rfl, hnc2, Y⟩ := rows_open (by decide) h2
  clear h X h2 Y
  go_enter Try.func5, Try.ntmps5
  go_wp2_with fail
  go_ret
  exact ⟨rfl, Below.refl _ _⟩

/-- Prefixes of the first i entries differ; those of the first k entries differ from that of entry i. -/
def Dif (l : List REn) (i : Nat) : Prop := ∀ (i' k : Nat) (x y : REn), i' < i → k < i' → l[i']? = some x → l[k]? = some y → x.1 ≠ y.1
def DifAt (l : List REn) (i k : Nat) : Prop := ∀ (k' : Nat) (x y : REn), k' < k → l[i]? = some x → l[k']? = some y → x.1 ≠ y.1
theorem dif_0 (l : List REn) : Dif l 0 := fun i' _ _ _ h => absurd h (by omega)
theorem difAt_0 (l : List REn) (i : Nat) : DifAt l i 0 := fun _ _ _ h => absurd h (by omega)
theorem dif_up {l : List REn} {i : Nat} (h : Dif l i) (k : DifAt l i i) : Dif l (i + 1) := fun i' j x y hi hj hx hy => by
  by_cases e : i' = i
  · subst e; exact k j x y hj hx hy
  · exact h i' j x y (by omega) hj hx hy
theorem difAt_up {l : List REn} {i k : Nat} (h : DifAt l i k) {x y : REn} (hx : l[i]? = some x) (hy : l[k]? = some y) (hne : x.1 ≠ y.1) : DifAt l i (k + 1) := fun k' x' y' hk hx' hy' => by
  by_cases e : k' = k
  · subst e
    rw [hx] at hx'
    rw [hy] at hy'
    cases hx'
    cases hy'
    exact hne
  · exact h k' x' y' (by omega) hx' hy'
def BdP (l : List RPx) : Prop := ∀ x ∈ l, x.1 < 4294967296
theorem rPx_cells {w : World} {b off : Nat} {s : List RPx} (hc : ∀ j u, (fl rPx s)[j]? = some u → w.cell? ⟨b, off + j, none⟩ = some u) {k : Nat} {x : RPx} (hk : s[k]? = some x) :
    w.cell? ⟨b, off + k * 2, none⟩ = some (.int .u32 (x.1 : Int)) ∧ w.cell? ⟨b, off + k * 2 + 1, none⟩ = some (.int .i64 x.2) := by
  have h := row_cells rPx_len hc hk
  exact ⟨h 0 _ rfl, h 1 _ rfl⟩
set_option maxHeartbeats 8000000 in
set_option maxRecDepth 100000 in
theorem order_main (v v2 : Value) (l : List REn) (ex : List RPx) (a : Nat) (w : World) (h : IsRow rEn 3 w v l) (h2 : IsRow rPx 2 w v2 ex) (hbd : BdE l) (hbe : BdP ex) (ha : a < 4294967296) (hl : l.length ≤ 30) (he : ex.length ≤ 20) :
    Calls Try.prog 5 #[v, v2, .int .u32 (a : Int)] w (BoolPost true w) := by
  have hSn : ∀ wx, Calls Try.prog 23 #[] wx fun e w' => e = .returned (.bool true) ∧ Below wx.heap.size wx w' := fun wx => sane wx
  have hB1 := fun wx (h : IsRow rEn 3 wx v l) => built v l wx h hbd (by omega)
  have hB2 := fun wx (h : IsRow rEn 3 wx v l) => built_back v l wx h hbd (by omega)
  obtain ⟨L, hL⟩ : ∃ L, L = bldL l := ⟨_, rfl⟩
  have hS : Srt L := by rw [hL]; exact bldL_srt l
  have hO : Oks L := by rw [hL]; exact bldL_oks hbd
  have hLl : L.length ≤ 30 := by rw [hL]; have := bldL_len l; omega
  have hRev : (∀ (i k : Nat) (x y : REn), l[i]? = some x → l[k]? = some y → k < i → x.1 ≠ y.1) → bldL l.reverse = L := fun h => by
    rw [hL]; exact bld_rev fun i k hi hk => h i k _ _ (List.getElem?_eq_getElem hi) (List.getElem?_eq_getElem (by omega)) hk
  have HRow := hid h
  have HRow2 := hid h2
  obtain ⟨n, hn⟩ : ∃ n, n = l.length := ⟨_, rfl⟩
  obtain ⟨m, hm⟩ : ∃ m, m = ex.length := ⟨_, rfl⟩
  have h := row_n h hn
  have h2 := row_n h2 hm
  obtain ⟨p1, cap, rfl, hnc, X⟩ := rows_open (by decide) h
  obtain ⟨p2, cap2, rfl, hnc2, Y⟩ := rows_open (by decide) h2
  rw [← hn] at hl
  rw [← hm] at he
  have HL := hid hL
  have HN := hid hn
  have HM := hid hm
  have HX := hid X
  have HY := hid Y
  have HRev := hid hRev
  have HBe := hid hbe
  clear h h2 X Y hn hm hbd hbe hL hRev
  go_enter Try.func5, Try.ntmps5
  go_wp2_with fail
  go_loopg [7] n (fun gg iv wr => ∃ k : Nat, k + gg = n ∧ iv = .int .i64 k ∧ Below w.heap.size w wr ∧ Hid (Dif l k))
  case atStart => exact ⟨0, by omega, rfl, Below.refl _ _, dif_0 l⟩
  case round =>
    obtain ⟨i, hi, rfl, hbel, hdf⟩ := hrel
    cases gk with
    | zero =>
      have hlt : ¬ ((i : Int) < (n : Int)) := by omega
      have HB := hid hbel
      have hrev : bldL l.reverse = L := HRev.out fun i' k x y hx hy hk => by
        have hi' : i' < l.length := (List.getElem?_eq_some_iff.1 hx).1
        rw [← HN.out] at hi'
        exact hdf.out i' k x y (by omega) hk hx hy
      have HV := hid hrev
      clear hbel hrev hdf
      go_wp2_with fail
      refine (hB1 _ (rows_keep HRow.out HB.out)).mono ?_
      rintro e w2 ⟨tb, T, rfl, ht, hb, hnw⟩
      rw [← HL.out] at ht
      have O2 := hid (OT.mk ht (HB.out.trans (hb.mono HB.out.size)) (fun c hc => Nat.le_trans HB.out.size (hnw c hc)) : OT w tb T L w2)
      clear ht hb hnw hB1 HB
      go_wp2_with fail
      refine (hB2 _ (rows_keep HRow.out O2.out.bel)).mono ?_
      rintro e w3 ⟨ub, U, rfl, ht, hb, hnw⟩
      rw [HV.out] at ht
      have O3 := hid (O2.out.below hb)
      have Q3 := hid (OT.mk ht (O2.out.bel.trans (hb.mono O2.out.bel.size)) (fun c hc => Nat.le_trans O2.out.bel.size (hnw c hc)) : OT w ub U L w3)
      have A3 := hid (show Apart U T from fun c hc hm => by have h1 := hnw c hc; have h2 := O2.out.tab.lt c hm; omega)
      clear ht hb hnw hB2 O2 HV
      go_wp2_with fail
      go_loopg [11] m (fun gg iv wr => ∃ (k : Nat) (U' : Tr), k + gg = m ∧ iv = .int .i64 k ∧ Hid (OT w ub U' L wr) ∧ Hid (OT w tb T L wr) ∧ Hid (Apart U' T))
      case atStart => exact ⟨0, U, by omega, rfl, Q3, O3, A3⟩
      case round =>
        obtain ⟨k, U1, hk, rfl, Q4, O4, A4⟩ := hrel
        cases gk with
        | zero =>
          have hlt2 : ¬ ((k : Int) < (m : Int)) := by omega
          obtain ⟨z0, z1, z2, zb, hLk⟩ : ∃ (z0 z1 : Nat) (z2 : Int) (zb : Bool), ∀ wx tb T, Tab wx tb T L → Calls Try.prog 13 #[pt tb, .int .u32 (a : Int)] wx fun e w' => e = .returned (.tuple #[px z0 (z1 : Int), .int .i64 z2, .bool zb]) ∧ Below wx.heap.size wx w' :=
            ⟨_, _, _, _, fun wx tb T h => lookup tb a T L wx h ha⟩
          go_wp2_with fail
          refine (hLk _ tb T O4.out.tab).mono ?_
          rintro e w5 ⟨rfl, b5⟩
          have O5 := hid ((O4.out.below b5).below (al1 w5 (.cells #[.int .u32 (z0 : Int), .int .i64 (z1 : Int)] 31)))
          have Q5 := hid ((Q4.out.below b5).below (al1 w5 (.cells #[.int .u32 (z0 : Int), .int .i64 (z1 : Int)] 31)))
          have hx := heap_new w5 (.cells #[.int .u32 (z0 : Int), .int .i64 (z1 : Int)] 31)
          have X5 := hid hx
          obtain ⟨⟨x0, x1⟩, _⟩ := blk_two hx
          clear b5 hx O4 Q4 A4
          go_wp2_with fail
          refine (hLk _ ub U1 Q5.out.tab).mono ?_
          rintro e w6 ⟨rfl, b6⟩
          have O6 := hid ((O5.out.below b6).below (al1 w6 (.cells #[.int .u32 (z0 : Int), .int .i64 (z1 : Int)] 31)))
          have Q6 := hid ((Q5.out.below b6).below (al1 w6 (.cells #[.int .u32 (z0 : Int), .int .i64 (z1 : Int)] 31)))
          have Y6 := hid (heap_new w6 (.cells #[.int .u32 (z0 : Int), .int .i64 (z1 : Int)] 31))
          have X6 := hid (blk_keep (blk_keep X5.out b6) (al1 w6 (.cells #[.int .u32 (z0 : Int), .int .i64 (z1 : Int)] 31)))
          clear b6 O5 Q5 x0 x1 hLk X5
          obtain ⟨⟨x0, x1⟩, _⟩ := blk_two X6.out
          obtain ⟨⟨y0, y1⟩, _⟩ := blk_two Y6.out
          go_wp2_with fail
          refine (entriesO tb T L _ O6.out.tab (by omega)).mono ?_
          rintro e w7 ⟨v7, rfl, hr, b7⟩
          have R7 := hid (rows_own hr)
          have O7 := hid (O6.out.below b7)
          have Q7 := hid (Q6.out.below b7)
          have X7 := hid (blk_keep X6.out b7)
          have Y7 := hid (blk_keep Y6.out b7)
          clear hr b7 O6 Q6 X6 Y6 x0 x1 y0 y1
          obtain ⟨⟨x0, x1⟩, _⟩ := blk_two X7.out
          obtain ⟨⟨y0, y1⟩, _⟩ := blk_two Y7.out
          go_wp2_with fail
          refine (entriesO ub U1 L _ Q7.out.tab (by omega)).mono ?_
          rintro e w8 ⟨v8, rfl, hr, b8⟩
          have R8 := hid (rows_own hr)
          have P8 := hid (rows_keep R7.out b8)
          have O8 := hid (O7.out.below b8)
          have Q8 := hid (Q7.out.below b8)
          have X8 := hid (blk_keep X7.out b8)
          have Y8 := hid (blk_keep Y7.out b8)
          clear hr b8 O7 Q7 X7 Y7 x0 x1 y0 y1
          obtain ⟨⟨x0, x1⟩, _⟩ := blk_two X8.out
          obtain ⟨⟨y0, y1⟩, _⟩ := blk_two Y8.out
          go_wp2_with fail
          refine (keepEn v7 v8 L _ P8.out R8.out (by omega)).mono ?_
          rintro e w9 ⟨rfl, b9⟩
          have O9 := hid (O8.out.below b9)
          have Q9 := hid (Q8.out.below b9)
          have X9 := hid (blk_keep X8.out b9)
          have Y9 := hid (blk_keep Y8.out b9)
          clear b9 O8 Q8 X8 Y8 x0 x1 y0 y1
          obtain ⟨⟨x0, x1⟩, _⟩ := blk_two X9.out
          obtain ⟨⟨y0, y1⟩, _⟩ := blk_two Y9.out
          have hLn1 := len tb T L w9 O9.out.tab
          have hLn2 := len ub U1 L w9 Q9.out.tab
          go_wp2_with fail
          refine hLn1.mono ?_
          rintro e w10 ⟨rfl, rfl⟩
          go_wp2_with fail
          refine hLn2.mono ?_
          rintro e w10 ⟨rfl, rfl⟩
          go_wp2_with fail
          refine (hSn _).mono ?_
          rintro e w11 ⟨rfl, b11⟩
          go_wp2_with fail
          go_ret
          exact ⟨rfl, O9.out.bel.trans (b11.mono O9.out.bel.size)⟩
        | succ g2 =>
          have hkn2 : k < m := by omega
          have hlt2 : (k : Int) < (m : Int) := by omega
          obtain ⟨b6, off6, rfl, hbl6, hc6⟩ := HY.out (by omega)
          obtain ⟨x, hxe⟩ : ∃ x, x = (ex[k]'(by rw [← HM.out]; exact hkn2)) := ⟨_, rfl⟩
          have hlx : ex[k]? = some x := by rw [hxe]; exact List.getElem?_eq_getElem _
          have hxb := HBe.out x (List.mem_of_getElem? hlx)
          obtain ⟨d0, d1⟩ := rPx_cells hc6 hlx
          have D0 := hid d0
          have D1 := hid d1
          clear hc6 hxe hlx d0 d1
          have c0 := (Q4.out.bel.cell (p := ⟨b6, off6 + k * 2, none⟩) hbl6).trans D0.out
          have c1 := (Q4.out.bel.cell (p := ⟨b6, off6 + k * 2 + 1, none⟩) hbl6).trans D1.out
          have hG := get ub x.1 x.2 U1 L wr Q4.out.tab hxb
          cases hgv : getV L x.1 x.2 with
          | some g =>
            rw [hgv] at hG
            clear hgv
            go_wp2_with fail
            refine hG.mono ?_
            rintro e w5 ⟨rfl, b5⟩
            have Q5 := hid (Q4.out.below b5)
            have O5 := hid (O4.out.below b5)
            clear b5 hG
            go_wp2_with fail
            go_roundg g2
            case measure => omega
            case rel => exact ⟨k + 1, U1, by omega, by go_num, Q5, O5, A4⟩
          | none =>
            rw [hgv] at hG
            go_wp2_with fail
            refine hG.mono ?_
            rintro e w5 ⟨rfl, b5⟩
            have Q5 := hid (Q4.out.below b5)
            have O5 := hid (O4.out.below b5)
            clear b5 hG c0 c1
            have c0 := (Q5.out.bel.cell (p := ⟨b6, off6 + k * 2, none⟩) hbl6).trans D0.out
            have c1 := (Q5.out.bel.cell (p := ⟨b6, off6 + k * 2 + 1, none⟩) hbl6).trans D1.out
            have hI := insK Q5.out x.1 x.2 7 hxb (by omega)
            cases hv : validB x.1 x.2 with
            | false =>
              rw [hv, insF_no (y := ((x.1, x.2), 7)) hv] at hI
              clear hgv hv
              go_wp2_with fail
              refine hI.mono ?_
              rintro e w6 ⟨rfl, U2, t6⟩
              have Q6 := hid t6.ot
              have O6 := hid (t6.other Q5.out O5.out A4.out).1
              have A6 := hid (t6.other Q5.out O5.out A4.out).2
              clear t6 hI
              go_wp2_with fail
              go_roundg g2
              case measure => omega
              case rel => exact ⟨k + 1, U2, by omega, by go_num, Q6, O6, A6⟩
            | true =>
              obtain ⟨hd1, hd2⟩ := back_del hS hxb hv hgv 7
              rw [hv] at hI
              have hIl := insF_len hS ((x.1, x.2), 7)
              have HD1 := hid hd1
              have HD2 := hid hd2
              clear hgv hv hd1 hd2
              go_wp2_with fail
              refine hI.mono ?_
              rintro e w6 ⟨rfl, U2, t6⟩
              have Q6 := hid t6.ot
              have O6 := hid (t6.other Q5.out O5.out A4.out).1
              have A6 := hid (t6.other Q5.out O5.out A4.out).2
              clear t6 hI c0 c1
              have c0 := (Q6.out.bel.cell (p := ⟨b6, off6 + k * 2, none⟩) hbl6).trans D0.out
              have c1 := (Q6.out.bel.cell (p := ⟨b6, off6 + k * 2 + 1, none⟩) hbl6).trans D1.out
              have hDl := delK Q6.out x.1 x.2 hxb (by omega)
              rw [HD1.out, HD2.out] at hDl
              clear hIl
              go_wp2_with fail
              refine hDl.mono ?_
              rintro e w7 ⟨rfl, U3, t7⟩
              have Q7 := hid t7.ot
              have O7 := hid (t7.other Q6.out O6.out A6.out).1
              have A7 := hid (t7.other Q6.out O6.out A6.out).2
              clear t7 hDl c0 c1
              go_wp2_with fail
              go_roundg g2
              case measure => omega
              case rel => exact ⟨k + 1, U3, by omega, by go_num, Q7, O7, A7⟩
    | succ g1 =>
      have hkn : i < n := by omega
      have hlt : (i : Int) < (n : Int) := by omega
      obtain ⟨b6, off6, rfl, hbl6, hc6⟩ := HX.out (by omega)
      obtain ⟨y, hye⟩ : ∃ y, y = (l[i]'(by rw [← HN.out]; exact hkn)) := ⟨_, rfl⟩
      have hly : l[i]? = some y := by rw [hye]; exact List.getElem?_eq_getElem _
      have HLY := hid hly
      have HC6 := hid hc6
      have HB1 := hid hbel
      clear hye hly hc6 hbel
      go_wp2_with fail
      go_loopg [8] i (fun gg iv wr => ∃ k : Nat, k + gg = i ∧ iv = .int .i64 k ∧ Below w.heap.size w wr ∧ Hid (DifAt l i k))
      case atStart => exact ⟨0, by omega, rfl, HB1.out, difAt_0 l i⟩
      case round =>
        obtain ⟨k, hk, rfl, hbel, hda⟩ := hrel
        cases gk with
        | zero =>
          have hlt2 : ¬ ((k : Int) < (i : Int)) := by omega
          have HB2 := hid hbel
          clear hbel
          go_wp2_with fail
          go_roundg g1
          case measure => omega
          case rel => exact ⟨i + 1, by omega, by go_num, HB2.out, dif_up hdf.out (by have := hda.out; rwa [show k = i by omega] at this)⟩
        | succ g2 =>
          have hki : k < i := by omega
          have hlt2 : (k : Int) < (i : Int) := by omega
          have hlt3 : (k : Int) < (n : Int) := by omega
          obtain ⟨z, hze⟩ : ∃ z, z = (l[k]'(by rw [← HN.out]; omega)) := ⟨_, rfl⟩
          have hlz : l[k]? = some z := by rw [hze]; exact List.getElem?_eq_getElem _
          obtain ⟨c0, c1, _⟩ := rEn_cells HC6.out HLY.out
          obtain ⟨d0, d1, _⟩ := rEn_cells HC6.out hlz
          have c0 := (hbel.cell (p := ⟨b6, off6 + i * 3, none⟩) hbl6).trans c0
          have c1 := (hbel.cell (p := ⟨b6, off6 + i * 3 + 1, none⟩) hbl6).trans c1
          have d0 := (hbel.cell (p := ⟨b6, off6 + k * 3, none⟩) hbl6).trans d0
          have d1 := (hbel.cell (p := ⟨b6, off6 + k * 3 + 1, none⟩) hbl6).trans d1
          have HLZ := hid hlz
          have HB2 := hid hbel
          clear hze hlz hbel
          go_wp2_with fail
          by_cases hyz : y.1 = z.1
          · rw [← hyz] at d0 d1
            clear hyz
            go_quiet (fail)
            go_wp2
            go_ret
            exact ⟨rfl, HB2.out.trans (drewN_below _ _ _)⟩
          · have hup := hid (difAt_up hda.out HLY.out HLZ.out hyz)
            have hne : ¬ ((y.1.1 : Int) = (z.1.1 : Int)) ∨ (y.1.1 = z.1.1 ∧ ¬ (y.1.2 = z.1.2)) := by
              by_cases h1 : y.1.1 = z.1.1
              · exact .inr ⟨h1, fun h2 => hyz (Prod.ext h1 h2)⟩
              · exact .inl (fun h2 => h1 (by omega))
            clear hyz
            rcases hne with hne | ⟨hq, hne⟩
            · go_quiet (fail)
              go_wp2
              go_roundg g2
              case measure => omega
              case rel => exact ⟨k + 1, by omega, by go_num, HB2.out.trans (drewN_below _ _ _), hup⟩
            · rw [hq] at c0
              clear hq
              go_quiet (fail)
              go_wp2
              go_roundg g2
              case measure => omega
              case rel => exact ⟨k + 1, by omega, by go_num, HB2.out.trans (drewN_below _ _ _), hup⟩

theorem walkTrieOrder (v v2 : Value) (l : List REn) (ex : List RPx) (a : Nat) (w : World) (h : IsRow rEn 3 w v l) (h2 : IsRow rPx 2 w v2 ex) (hbd : BdE l) (hbe : BdP ex) (ha : a < 4294967296) :
    Calls Try.prog 5 #[v, v2, .int .u32 (a : Int)] w (BoolPost true w) := by
  by_cases hl : l.length ≤ 30
  · by_cases he : ex.length ≤ 20
    · exact order_main v v2 l ex a w h h2 hbd hbe ha hl he
    · exact order_more v v2 l.length ex.length _ _ a w h h2 hl (by omega)
  · exact order_big v v2 l.length ex.length _ _ a w h h2 (by omega)
end Go.Proofs.Ytnlmplllfgfgoaa.Ad
