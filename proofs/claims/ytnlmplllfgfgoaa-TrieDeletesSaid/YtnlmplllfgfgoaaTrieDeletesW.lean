/-
  THE WALK OF TrieDeletes.
-/
import Derived.Test.YtnlmplllfgfgoaaTriY
namespace Go.Proofs.Ytnlmplllfgfgoaa.Ad
set_option linter.unusedSimpArgs false
set_option linter.unusedVariables false
open Go.RowKit Am Kt Tp Tm Tr

theorem own_below {w w' : World} {B e z n : Nat} {v : Value} {xs : List Value} (h : w.ownsRow B e z v n xs) (k : Below w.heap.size w w') : w'.ownsRow B e z v n xs := by
  obtain ⟨h1, h2⟩ := h
  refine ⟨h1, ?_⟩
  rcases h2 with h2 | ⟨g, cap, cur, rfl, hg, hh, r⟩
  · exact .inl h2
  · refine .inr ⟨g, cap, cur, rfl, hg, ?_, r⟩
    rw [k.block g (blk_lt hh)]; exact hh
set_option maxHeartbeats 1000000 in
theorem deletes_big (v : Value) (n : Nat) (xs : List Value) (a : Int) (w : World) (h : Tm.Rows w 3 v n xs) (hn : 30 < n) :
    Calls Try.prog 7 #[v, .int .i64 a] w (BoolPost true w) := by
  obtain ⟨p1, cap, rfl, hnc, X⟩ := rows_open (by decide) h
  clear h X
  go_enter Try.func7, Try.ntmps7
  go_wp2_with fail
  go_ret
  exact ⟨rfl, Below.refl _ _⟩
set_option maxHeartbeats 1000000 in
theorem deletes_neg (v : Value) (n : Nat) (xs : List Value) (a : Int) (w : World) (h : Tm.Rows w 3 v n xs) (hn : n ≤ 30) (ha : a < 0) :
    Calls Try.prog 7 #[v, .int .i64 a] w (BoolPost true w) := by
  obtain ⟨p1, cap, rfl, hnc, X⟩ := rows_open (by decide) h
  clear h X
  go_enter Try.func7, Try.ntmps7
  go_wp2_with fail
  go_ret
  exact ⟨rfl, Below.refl _ _⟩
set_option maxHeartbeats 1000000 in
theorem deletes_past (v : Value) (n : Nat) (xs : List Value) (a : Int) (w : World) (h : Tm.Rows w 3 v n xs) (hn : n ≤ 30) (ha : ¬ a < 0) (hk : (n : Int) ≤ a) :
    Calls Try.prog 7 #[v, .int .i64 a] w (BoolPost true w) := by
  obtain ⟨p1, cap, rfl, hnc, X⟩ := rows_open (by decide) h
  clear h X
  go_enter Try.func7, Try.ntmps7
  go_wp2_with fail
  go_ret
  exact ⟨rfl, Below.refl _ _⟩
set_option maxHeartbeats 1000000 in
theorem deletes_bad (v : Value) (l : List REn) (j : Nat) (x : REn) (w : World) (h : IsRow rEn 3 w v l) (hbd : BdE l) (hl : l.length ≤ 30) (hx : l[j]? = some x) (hv : validB x.1.1 x.1.2 = false) :
    Calls Try.prog 7 #[v, .int .i64 (j : Int)] w (BoolPost true w) := by
  have hjl : j < l.length := (List.getElem?_eq_some_iff.1 hx).1
  have hV := fun wx => refValid x.1.1 x.1.2 wx (hbd x (List.mem_of_getElem? hx))
  rw [hv] at hV
  obtain ⟨n, hn⟩ : ∃ n, n = l.length := ⟨_, rfl⟩
  have h := row_n h hn
  obtain ⟨p1, cap, rfl, hnc, X⟩ := rows_open (by decide) h
  rw [← hn] at hl hjl
  have hj0 : ¬ (j : Int) < 0 := by omega
  have hj1 : ¬ (n : Int) ≤ (j : Int) := by omega
  have hj2 : (j : Int) < (n : Int) := by omega
  obtain ⟨b, off, rfl, hbl, hc⟩ := X (by omega)
  obtain ⟨c0, c1, _⟩ := rEn_cells hc hx
  clear h X hn hbd hv hc hx
  go_enter Try.func7, Try.ntmps7
  go_wp2_with (go_at_call 26; refine (hV _).mono ?_; rintro e w1 ⟨rfl, b1⟩)
  go_ret
  exact ⟨rfl, b1⟩

set_option maxHeartbeats 8000000 in
set_option maxRecDepth 100000 in
theorem deletes_main (v : Value) (l : List REn) (j : Nat) (x : REn) (w : World) (h : IsRow rEn 3 w v l) (hbd : BdE l) (hl : l.length ≤ 30) (hx : l[j]? = some x) (hv : validB x.1.1 x.1.2 = true) :
    Calls Try.prog 7 #[v, .int .i64 (j : Int)] w (BoolPost true w) := by
  have hjl : j < l.length := (List.getElem?_eq_some_iff.1 hx).1
  have hxm := List.mem_of_getElem? hx
  have hxb := hbd x hxm
  have hV := fun wx => refValid x.1.1 x.1.2 wx hxb
  rw [hv] at hV
  have hB := fun wx (h : IsRow rEn 3 wx v l) => built v l wx h hbd (by omega)
  have hSn := fun wx => sane wx
  obtain ⟨L, hL⟩ : ∃ L, L = bldL l := ⟨_, rfl⟩
  obtain ⟨p, hp⟩ : ∃ p : Px, p = (x.1.1, x.1.2.toNat) := ⟨_, rfl⟩
  obtain ⟨u, hu⟩ := bldL_has l [] p (.inr ⟨x, hxm, hv, hp⟩)
  have hu : (p, u) ∈ L := by rw [hL]; exact hu
  have hS : Srt L := by rw [hL]; exact bldL_srt l
  have hO : Oks L := by rw [hL]; exact bldL_oks hbd
  have hLl : L.length ≤ 30 := by rw [hL]; have := bldL_len l; omega
  have hpO : OkP p := hO _ hu
  have e1 : x.1.1 = p.1 := by rw [hp]
  have e2 : x.1.2 = (p.2 : Int) := by rw [hp]; exact valid_nat hv
  have hdl := del_len hS hu
  obtain ⟨m, hm⟩ : ∃ m, m = L.length := ⟨_, rfl⟩
  have hm0 : 0 < m := by omega
  have hm1 : m ≤ 30 := by omega
  have hEn := fun wx tb T (h : Tab wx tb T L) => entriesO tb T L wx h (by omega)
  have hG1 : ∀ wx tb T, Tab wx tb T L → Calls Try.prog 11 #[pt tb, px p.1 p.2] wx fun e w' => e = .returned (.tuple #[.int .i64 u, .bool true]) ∧ Below wx.heap.size wx w' := fun wx tb T h => by
    have := get tb p.1 p.2 T _ wx h hpO.2.2
    rw [getV_mem hS hO hu] at this
    exact this
  have hG2 : ∀ wx tb T, Tab wx tb T (del L p) → Calls Try.prog 11 #[pt tb, px p.1 p.2] wx fun e w' => e = .returned (.tuple #[.int .i64 0, .bool false]) ∧ Below wx.heap.size wx w' := fun wx tb T h => by
    have := get tb p.1 p.2 T _ wx h hpO.2.2
    rw [getV_del hS hpO] at this
    exact this
  have hG3 : ∀ wx tb T, Tab wx tb T (del L p) → ∀ y ∈ L, y.1 ≠ p → Calls Try.prog 11 #[pt tb, px y.1.1 y.1.2] wx fun e w' => e = .returned (.tuple #[.int .i64 y.2, .bool true]) ∧ Below wx.heap.size wx w' := fun wx tb T h y hy hne => by
    have := get tb y.1.1 y.1.2 T _ wx h (hO _ hy).2.2
    rw [getV_other hS hO hy hne] at this
    exact this
  have hD1 : ∀ wx tb T, OT w tb T L wx → Calls Try.prog 9 #[pt tb, px p.1 p.2] wx (InsK w tb T wx true (del L p)) := fun wx tb T h => by
    have := delK h p.1 p.2 hpO.2.2 (by omega)
    rw [getV_mem hS hO hu, delF_yes hS hO hu] at this
    exact this
  have hD2 : ∀ wx tb T, OT w tb T (del L p) wx → Calls Try.prog 9 #[pt tb, px p.1 p.2] wx (InsK w tb T wx false (del L p)) := fun wx tb T h => by
    have := delK h p.1 p.2 hpO.2.2 (by omega)
    rw [getV_del hS hpO, delF_no hS hpO] at this
    exact this
  have hI : ∀ wx tb T, OT w tb T (del L p) wx → Calls Try.prog 18 #[pt tb, px p.1 p.2, .int .i64 u] wx (InsK w tb T wx true L) := fun wx tb T h => by
    have := insK h p.1 p.2 u hpO.2.2 (by omega)
    rw [valid_of_ok hpO, insF_ok u hpO, ins_del hS hu] at this
    exact this
  have hLn : ∀ wx tb T, Tab wx tb T (del L p) → Calls Try.prog 20 #[pt tb] wx fun e w' => e = .returned (.int .i64 ((m : Int) - 1)) ∧ wx = w' := fun wx tb T h => by
    have := len tb T _ wx h
    rw [show ((del L p).length : Int) = (m : Int) - 1 by omega] at this
    exact this
  have hK := fun wx v1 v2 (h1 : IsRow eEn 3 wx v1 L) (h2 : IsRow eEn 3 wx v2 L) => keepEn v1 v2 L wx h1 h2 (by omega)
  have hrow := h
  obtain ⟨n, hn⟩ : ∃ n, n = l.length := ⟨_, rfl⟩
  have h := row_n h hn
  obtain ⟨p1, cap, rfl, hnc, X⟩ := rows_open (by decide) h
  rw [← hn] at hl hjl
  have hj0 : ¬ (j : Int) < 0 := by omega
  have hj1 : ¬ (n : Int) ≤ (j : Int) := by omega
  have hj2 : (j : Int) < (n : Int) := by omega
  obtain ⟨b, off, rfl, hbl, hc⟩ := X (by omega)
  obtain ⟨c0, c1, _⟩ := rEn_cells hc hx
  rw [e1] at c0 hV
  rw [e2] at c1 hV
  have hCell : ∀ wx, Below w.heap.size w wx → wx.cell? ⟨b, off + j * 3, none⟩ = some (.int .u32 (p.1 : Int)) ∧ wx.cell? ⟨b, off + j * 3 + 1, none⟩ = some (.int .i64 (p.2 : Int)) := fun wx hb =>
    ⟨(hb.cell (p := ⟨b, off + j * 3, none⟩) hbl).trans c0, (hb.cell (p := ⟨b, off + j * 3 + 1, none⟩) hbl).trans c1⟩
  have HCell := hid hCell
  have HG3 := hid hG3
  have HR := hid hrow
  have HL := hid hL
  have HM := hid hm
  clear hL hm h X hn hbd hv hc hx hCell hG3 hrow hp hdl e1 e2 hxb hxm hLl
  go_enter Try.func7, Try.ntmps7
  go_wp2_with (go_at_call 26; refine (hV _).mono ?_; rintro e w1 ⟨rfl, b1⟩)
  go_wp2_with fail
  refine (hB _ (rows_keep HR.out b1)).mono ?_
  rintro e w2 ⟨tb, T, rfl, ht, hb, hnw⟩
  rw [← HL.out] at ht
  have O2 := hid (OT.mk ht (b1.trans (hb.mono b1.size)) (fun c hc => Nat.le_trans b1.size (hnw c hc)) : OT w tb T L w2)
  clear ht hb hnw b1 hB
  go_wp2_with fail
  refine (hEn _ tb T O2.out.tab).mono ?_
  rintro e w3 ⟨v6, rfl, hr, b3⟩
  have R3 := hid (And.intro hr (own_off O2.out.tab hr))
  have O3 := hid (O2.out.below b3)
  obtain ⟨c0, c1⟩ := HCell.out _ O3.out.bel
  clear hr b3
  go_wp2_with fail
  refine (hG1 _ tb T O3.out.tab).mono ?_
  rintro e w4 ⟨rfl, b4⟩
  have O4 := hid (O3.out.below b4)
  have R4 := hid (And.intro (own_below R3.out.1 b4) R3.out.2)
  clear b4 c0 c1
  obtain ⟨c0, c1⟩ := HCell.out _ O4.out.bel
  go_wp2_with fail
  refine (hD1 _ tb T O4.out).mono ?_
  rintro e w5 ⟨rfl, T5, t5⟩
  have O5 := hid t5.ot
  have R5 := hid (t5.row R4.out.1 R4.out.2)
  clear t5 c0 c1
  obtain ⟨c0, c1⟩ := HCell.out _ O5.out.bel
  go_wp2_with fail
  refine (hD2 _ tb T5 O5.out).mono ?_
  rintro e w7 ⟨rfl, T7, t7⟩
  have O7 := hid t7.ot
  have R7 := hid (t7.row R5.out.1 R5.out.2)
  clear t7 c0 c1
  obtain ⟨c0, c1⟩ := HCell.out _ O7.out.bel
  go_wp2_with fail
  refine (hG2 _ tb T7 O7.out.tab).mono ?_
  rintro e w8 ⟨rfl, b8⟩
  have O8 := hid (O7.out.below b8)
  have R8 := hid (And.intro (own_below R7.out.1 b8) R7.out.2)
  clear b8 c0 c1
  obtain ⟨p6, cap6, rfl, hnc6, X6⟩ := rows_open (by decide) (rows_own R8.out.1)
  have HX6 := hid X6
  clear X6
  rw [← HM.out] at HX6 hnc6 ⊢
  have hLn8 := hLn _ tb T7 O8.out.tab
  clear hLn
  go_wp2_with fail
  refine hLn8.mono ?_
  rintro e w9 ⟨rfl, rfl⟩
  clear hLn8 c0 c1
  go_wp2_with fail
  go_loopg [11] m (fun gg i wr => ∃ k : Nat, k + gg = m ∧ i = .int .i64 k ∧ Below w8.heap.size w8 wr)
  case atStart => exact ⟨0, by omega, rfl, Below.refl _ _⟩
  case round =>
    obtain ⟨k, hk, rfl, hbel⟩ := hrel
    have O9 := hid (O8.out.below hbel)
    have R9 := hid (And.intro (own_below R8.out.1 hbel) R8.out.2)
    cases gk with
    | zero =>
      have hlt : ¬ ((k : Int) < (m : Int)) := by omega
      clear hbel
      obtain ⟨c0, c1⟩ := HCell.out _ O9.out.bel
      go_wp2_with fail
      refine (hI _ tb T7 O9.out).mono ?_
      rintro e w10 ⟨rfl, T8, t8⟩
      have O10 := hid t8.ot
      have R10 := hid (t8.row R9.out.1 R9.out.2)
      clear t8 c0 c1
      go_wp2_with fail
      refine (hEn _ tb T8 O10.out.tab).mono ?_
      rintro e w11 ⟨v11, rfl, hr, b11⟩
      have R11 := hid (rows_own (own_below R10.out.1 b11))
      rw [← HM.out] at R11
      have Q11 := hid (rows_own hr)
      have O11 := hid (O10.out.below b11)
      clear hr b11
      go_wp2_with fail
      refine (hK _ _ _ Q11.out (n_row R11.out HM.out)).mono ?_
      rintro e w12 ⟨rfl, b12⟩
      have B12 := hid (O11.out.bel.trans (b12.mono O11.out.bel.size))
      clear b12
      go_wp2_with fail
      refine (hSn _).mono ?_
      rintro e w13 ⟨rfl, b13⟩
      go_wp2_with fail
      go_ret
      exact ⟨rfl, B12.out.trans (b13.mono B12.out.size)⟩
    | succ g1 =>
      have hkn : k < m := by omega
      have hlt : (k : Int) < (m : Int) := by omega
      obtain ⟨b6, off6, rfl, hbl6, hc6⟩ := HX6.out (by omega)
      obtain ⟨y, hye⟩ : ∃ y, y = (L[k]'(by rw [← HM.out]; exact hkn)) := ⟨_, rfl⟩
      have hly : L[k]? = some y := by rw [hye]; exact List.getElem?_eq_getElem _
      have hym := List.mem_of_getElem? hly
      obtain ⟨d0, d1, d2⟩ := eEn_cells hc6 hly
      have d0 := (hbel.cell (p := ⟨b6, off6 + k * 3, none⟩) hbl6).trans d0
      have d1 := (hbel.cell (p := ⟨b6, off6 + k * 3 + 1, none⟩) hbl6).trans d1
      have d2 := (hbel.cell (p := ⟨b6, off6 + k * 3 + 2, none⟩) hbl6).trans d2
      clear hc6 hye hly
      have kn : ∀ w' : World, Below wr.heap.size wr w' → w'.cell? ⟨b6, off6 + k * 3, none⟩ = some (.int .u32 (y.1.1 : Int)) ∧ w'.cell? ⟨b6, off6 + k * 3 + 1, none⟩ = some (.int .i64 (y.1.2 : Int)) ∧ w'.cell? ⟨b6, off6 + k * 3 + 2, none⟩ = some (.int .i64 y.2) := fun w' hb =>
        have hl6 := Nat.lt_of_lt_of_le hbl6 hbel.size
        ⟨(hb.cell (p := ⟨b6, off6 + k * 3, none⟩) hl6).trans d0, (hb.cell (p := ⟨b6, off6 + k * 3 + 1, none⟩) hl6).trans d1, (hb.cell (p := ⟨b6, off6 + k * 3 + 2, none⟩) hl6).trans d2⟩
      have KN := hid kn
      clear kn d2
      by_cases hyp : y.1 = p
      · have e0 := d0
        have e1 := d1
        rw [hyp] at e0 e1
        clear d0 d1
        go_wp2_with fail
        refine (hG2 _ tb T7 O9.out.tab).mono ?_
        rintro e w10 ⟨rfl, b10⟩
        obtain ⟨d0, d1, d2⟩ := KN.out _ b10
        rw [hyp] at d0 d1
        have B10 := hid (hbel.trans (b10.mono hbel.size))
        obtain ⟨c0, c1⟩ := HCell.out _ (O9.out.below b10).bel
        clear b10 e0 e1 hbel
        go_wp2_with fail
        go_quiet (fail)
        go_wp2
        go_roundg g1
        case measure => omega
        case rel => exact ⟨k + 1, by omega, by go_num, B10.out.trans (drewN_below _ _ _)⟩
      · have hG4 := HG3.out _ tb T7 O9.out.tab y hym hyp
        go_wp2_with fail
        refine hG4.mono ?_
        rintro e w10 ⟨rfl, b10⟩
        clear hG4 d0 d1
        obtain ⟨d0, d1, d2⟩ := KN.out _ b10
        have B10 := hid (hbel.trans (b10.mono hbel.size))
        obtain ⟨c0, c1⟩ := HCell.out _ (O9.out.below b10).bel
        clear b10 hbel
        go_wp2_with fail
        have hne : ¬ ((y.1.1 : Int) = (p.1 : Int)) ∨ (y.1.1 = p.1 ∧ ¬ ((y.1.2 : Int) = (p.2 : Int))) := by
          by_cases h1 : y.1.1 = p.1
          · exact .inr ⟨h1, fun h2 => hyp (Prod.ext h1 (by omega))⟩
          · exact .inl (fun h2 => h1 (by omega))
        clear hyp
        rcases hne with hne | ⟨hq, hne⟩
        · go_quiet (fail)
          go_wp2
          go_roundg g1
          case measure => omega
          case rel => exact ⟨k + 1, by omega, by go_num, B10.out.trans (drewN_below _ _ _)⟩
        · rw [hq] at d0
          clear hq
          go_quiet (fail)
          go_wp2
          go_roundg g1
          case measure => omega
          case rel => exact ⟨k + 1, by omega, by go_num, B10.out.trans (drewN_below _ _ _)⟩

theorem walkTrieDeletes (v : Value) (l : List REn) (k : Int) (w : World) (h : IsRow rEn 3 w v l) (hbd : BdE l) :
    Calls Try.prog 7 #[v, .int .i64 k] w (BoolPost true w) := by
  by_cases hl : l.length ≤ 30
  · by_cases h0 : k < 0
    · exact deletes_neg v l.length _ k w h hl h0
    · by_cases h1 : (l.length : Int) ≤ k
      · exact deletes_past v l.length _ k w h hl h0 h1
      · obtain ⟨j, rfl⟩ : ∃ j : Nat, k = j := ⟨k.toNat, by omega⟩
        have hx : l[j]? = some (l[j]'(by omega)) := List.getElem?_eq_getElem _
        cases hv : validB (l[j]'(by omega)).1.1 (l[j]'(by omega)).1.2 with
        | false => exact deletes_bad v l j _ w h hbd hl hx hv
        | true => exact deletes_main v l j _ w h hbd hl hx hv
  · exact deletes_big v l.length _ k w h (by omega)
end Go.Proofs.Ytnlmplllfgfgoaa.Ad
