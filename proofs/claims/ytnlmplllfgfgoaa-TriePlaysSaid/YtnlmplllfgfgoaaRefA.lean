/-
  THE REFERENCE TABLE IN MEMORY, AND ITS at, Get.
-/
import Derived.Test.YtnlmplllfgfgoaaTriY
namespace Go.Proofs.Ytnlmplllfgfgoaa.Ad
set_option linter.unusedSimpArgs false
set_option linter.unusedVariables false
open Go.RowKit Am Kt Tp Tm Tr

/-- The reference's table in block mb: its one field is the row v of L, the call's own since n0. -/
structure Ref (w : World) (n0 mb : Nat) (v : Value) (L : List En) : Prop where
  box : w.heap[mb]? = some (.cells #[v] 28 (0, 0))
  row : w.ownsRow n0 51 3 v L.length (fl eEn L)
  lo : n0 ≤ mb
theorem Ref.below {w w' : World} {n0 mb : Nat} {v : Value} {L : List En} (h : Ref w n0 mb v L) (k : Below w.heap.size w w') : Ref w' n0 mb v L :=
  ⟨blk_keep h.box k, by
    obtain ⟨h1, h2⟩ := h.row
    refine ⟨h1, ?_⟩
    rcases h2 with h2 | ⟨g, cap, cur, rfl, hg, hh, r⟩
    · exact .inl h2
    · refine .inr ⟨g, cap, cur, rfl, hg, ?_, r⟩
      rw [k.block g (blk_lt hh)]; exact hh, h.lo⟩
theorem Ref.cell {w : World} {n0 mb : Nat} {v : Value} {L : List En} (h : Ref w n0 mb v L) : w.cell? ⟨mb, 0, none⟩ = some v := by
  have := blk_cell h.box 0
  simpa using this
/-- Which entry bears a prefix. -/
def eqB (a : Nat) (n : Int) (x : En) : Bool := decide (x.1.1 = a ∧ (x.1.2 : Int) = n)
def atV (L : List En) (a : Nat) (n : Int) : Int := match L.findIdx? (eqB a n) with | some k => (k : Int) | none => -1
theorem atV_at {L : List En} {a : Nat} {n : Int} {k : Nat} {x : En} (hk : L[k]? = some x) (he : eqB a n x = true) (hb : ∀ i y, i < k → L[i]? = some y → eqB a n y = false) : atV L a n = k := by
  unfold atV
  have : L.findIdx? (eqB a n) = some k := by
    rw [List.findIdx?_eq_some_iff_getElem]
    obtain ⟨h1, h2⟩ := List.getElem?_eq_some_iff.1 hk
    refine ⟨h1, by rw [h2]; exact he, fun j hj => ?_⟩
    rw [hb j _ hj (List.getElem?_eq_getElem (by omega))]
    decide
  rw [this]
theorem atV_no {L : List En} {a : Nat} {n : Int} (h : ∀ y ∈ L, eqB a n y = false) : atV L a n = -1 := by
  unfold atV
  rw [List.findIdx?_eq_none_iff.2 h]
theorem atV_cases (L : List En) (a : Nat) (n : Int) : (atV L a n = -1 ∧ ∀ y ∈ L, eqB a n y = false) ∨ ∃ (k : Nat) (x : En), atV L a n = k ∧ L[k]? = some x ∧ x.1.1 = a ∧ (x.1.2 : Int) = n := by
  unfold atV
  cases h : L.findIdx? (eqB a n) with
  | none => exact .inl ⟨rfl, List.findIdx?_eq_none_iff.1 h⟩
  | some k =>
    rw [List.findIdx?_eq_some_iff_getElem] at h
    obtain ⟨h1, h2, _⟩ := h
    unfold eqB at h2
    simp only [decide_eq_true_eq] at h2
    exact .inr ⟨k, _, rfl, List.getElem?_eq_getElem h1, h2.1, h2.2⟩
theorem getV_at {L : List En} (hs : Srt L) (ho : Oks L) {k : Nat} {x : En} (h : L[k]? = some x) : getV L x.1.1 (x.1.2 : Int) = some x.2 := getV_mem hs ho (List.mem_of_getElem? h)
theorem getV_nat {L : List En} (hs : Srt L) {a : Nat} {n : Int} (h : ∀ y ∈ L, eqB a n y = false) : getV L a n = none := by
  cases hv : validB a n with
  | false => unfold getV; rw [if_neg (by rw [hv]; decide)]
  | true =>
    rw [getV_yes hv, getL_none]
    intro x hx e
    have := h x hx
    unfold eqB at this
    simp only [decide_eq_false_iff_not] at this
    exact this ⟨by rw [e], by rw [e]; exact (valid_nat hv).symm⟩

set_option maxHeartbeats 4000000 in
theorem refAt (n0 mb : Nat) (v : Value) (L : List En) (a : Nat) (n : Int) (w : World) (h : Ref w n0 mb v L) (hl : L.length ≤ 1000000) :
    Calls Try.prog 30 #[pt mb, px a n] w fun e w' => e = .returned (.int .i64 (atV L a n)) ∧ Below w.heap.size w w' := by
  obtain ⟨m, hm⟩ : ∃ m, m = L.length := ⟨_, rfl⟩
  obtain ⟨p1, cap, rfl, hnc, X⟩ := rows_open (by decide) (rows_own h.row)
  rw [← hm] at hl h
  rw [← hm] at X hnc
  have c0 := h.cell
  have hmb := blk_lt h.box
  have HM := hid hm
  have HX := hid X
  have HV := hid (show ∀ (k : Nat) (x : En), L[k]? = some x → eqB a n x = true → (∀ i y, i < k → L[i]? = some y → eqB a n y = false) → atV L a n = k from fun _ _ h1 h2 h3 => atV_at h1 h2 h3)
  have HN := hid (show (∀ y ∈ L, eqB a n y = false) → atV L a n = -1 from fun h => atV_no h)
  generalize atV L a n = r at *
  clear h X hm
  go_enter Try.func30, Try.ntmps30
  have al := al1 w (.cells #[.int .u32 (a : Int), .int .i64 n] 31)
  have hx := heap_new w (.cells #[.int .u32 (a : Int), .int .i64 n] 31)
  have C0 := hid ((al.cell (p := ⟨mb, 0, none⟩) hmb).trans c0)
  have hmb2 := Nat.lt_of_lt_of_le hmb al.size
  have AL := hid al
  have X0 := hid hx
  clear al hx c0
  go_wp2_with fail
  go_loopg [5] m (fun gg iv wr => ∃ k : Nat, k + gg = m ∧ iv = .int .i64 k ∧ Below (w.alloc (.cells #[.int .u32 (a : Int), .int .i64 n] 31)).heap.size (w.alloc (.cells #[.int .u32 (a : Int), .int .i64 n] 31)) wr ∧ Hid (∀ (i : Nat) (y : En), i < k → L[i]? = some y → eqB a n y = false))
  case atStart => exact ⟨0, by omega, rfl, Below.refl _ _, fun i y hi => absurd hi (by omega)⟩
  case round =>
    obtain ⟨k, hk, rfl, hbel, hno⟩ := hrel
    have hc0 := (hbel.cell (p := ⟨mb, 0, none⟩) hmb2).trans C0.out
    have hx4 := blk_keep X0.out hbel
    cases gk with
    | zero =>
      have hlt : ¬ ((k : Int) < (m : Int)) := by omega
      have hr : -1 = r := (HN.out fun y hy => by
        obtain ⟨i, hi, rfl⟩ := List.getElem_of_mem hy
        exact hno.out i _ (by have := HM.out; omega) (List.getElem?_eq_getElem hi)).symm
      subst hr
      have HB := hid (then_ AL.out hbel)
      clear hbel hx4
      go_wp2_with fail
      go_ret
      exact ⟨rfl, HB.out⟩
    | succ g1 =>
      have hkn : k < m := by omega
      have hlt : (k : Int) < (m : Int) := by omega
      obtain ⟨b6, off6, rfl, hbl6, hc6⟩ := HX.out (by omega)
      obtain ⟨y, hye⟩ : ∃ y, y = (L[k]'(by rw [← HM.out]; exact hkn)) := ⟨_, rfl⟩
      have hly : L[k]? = some y := by rw [hye]; exact List.getElem?_eq_getElem _
      obtain ⟨d0, d1, _⟩ := eEn_cells hc6 hly
      have HB := hid (then_ AL.out hbel)
      have d0 := (HB.out.cell (p := ⟨b6, off6 + k * 3, none⟩) hbl6).trans d0
      have d1 := (HB.out.cell (p := ⟨b6, off6 + k * 3 + 1, none⟩) hbl6).trans d1
      have HBL := hid hbel
      have HLY := hid hly
      obtain ⟨⟨x0, x1⟩, _⟩ := blk_two hx4
      clear hc6 hye hly hbel hx4
      go_wp2_with fail
      by_cases hq : y.1.1 = a ∧ (y.1.2 : Int) = n
      · obtain rfl : (k : Int) = r := (HV.out k y HLY.out (by unfold eqB; simpa using hq) hno.out).symm
        obtain ⟨rfl, rfl⟩ := hq
        go_quiet (fail)
        go_wp2
        go_ret
        exact ⟨rfl, HB.out.trans (drewN_below _ _ _)⟩
      · have hup := hid (show ∀ (i : Nat) (z : En), i < k + 1 → L[i]? = some z → eqB a n z = false from fun i z hi hz => by
          by_cases e : i = k
          · subst e
            have := HLY.out.symm.trans hz
            cases this
            unfold eqB
            simpa using hq
          · exact hno.out i z (by omega) hz)
        have hne : ¬ ((y.1.1 : Int) = (a : Int)) ∨ (y.1.1 = a ∧ ¬ ((y.1.2 : Int) = n)) := by
          by_cases h1 : y.1.1 = a
          · exact .inr ⟨h1, fun h2 => hq ⟨h1, h2⟩⟩
          · exact .inl (fun h2 => h1 (by omega))
        clear hq
        rcases hne with hne | ⟨hq, hne⟩
        · go_quiet (fail)
          go_wp2
          go_roundg g1
          case measure => omega
          case rel => exact ⟨k + 1, by omega, by go_num, HBL.out.trans (drewN_below _ _ _), hup⟩
        · rw [hq] at d0
          clear hq
          go_quiet (fail)
          go_wp2
          go_roundg g1
          case measure => omega
          case rel => exact ⟨k + 1, by omega, by go_num, HBL.out.trans (drewN_below _ _ _), hup⟩

set_option maxHeartbeats 4000000 in
theorem refGet (n0 mb : Nat) (v : Value) (L : List En) (a : Nat) (n : Int) (w : World) (h : Ref w n0 mb v L) (hs : Srt L) (ho : Oks L) (hl : L.length ≤ 1000000) :
    Calls Try.prog 12 #[pt mb, px a n] w (GetPost w (getV L a n)) := by
  have al := al1 w (.cells #[.int .u32 (a : Int), .int .i64 n] 31)
  have hA := refAt n0 mb v L a n _ (h.below al) hl
  have hc0 := (h.below al).cell
  have hmb := blk_lt (h.below al).box
  rcases atV_cases L a n with ⟨h1, h2⟩ | ⟨k, x, h1, h2, h3, h4⟩
  · rw [h1] at hA
    rw [getV_nat hs h2]
    have AL := hid al
    clear h h1 h2 hc0 al
    go_enter Try.func12, Try.ntmps12
    go_wp2_with fail
    refine hA.mono ?_
    rintro e w1 ⟨rfl, b1⟩
    go_wp2_with fail
    go_ret2
    exact ⟨rfl, then_ AL.out b1⟩
  · rw [h1] at hA
    have hg : getV L a n = some x.2 := by rw [← h3, ← h4]; exact getV_at hs ho h2
    rw [hg]
    have hkl : k < L.length := (List.getElem?_eq_some_iff.1 h2).1
    obtain ⟨m, hm⟩ : ∃ m, m = L.length := ⟨_, rfl⟩
    obtain ⟨p1, cap, rfl, hnc, X⟩ := rows_open (by decide) (rows_own h.row)
    rw [← hm] at hl hkl X hnc
    obtain ⟨b6, off6, rfl, hbl6, hc6⟩ := X (by omega)
    obtain ⟨_, _, d2⟩ := eEn_cells hc6 h2
    rw [← hm] at hc0
    have hd2 := (al.cell (p := ⟨b6, off6 + k * 3 + 2, none⟩) hbl6).trans d2
    have hl2 := Nat.lt_of_lt_of_le hbl6 al.size
    have HD := hid hd2
    have HC := hid hc0
    have AL := hid al
    clear h X hm hc6 h2 h3 h4 hg h1 al d2 hd2 hc0
    have hki : (k : Int) < (m : Int) := by omega
    have hk0 : ¬ (k : Int) < 0 := by omega
    go_enter Try.func12, Try.ntmps12
    go_wp2_with fail
    refine hA.mono ?_
    rintro e w1 ⟨rfl, b1⟩
    have hc1 := (b1.cell (p := ⟨mb, 0, none⟩) hmb).trans HC.out
    have hd2 := (b1.cell (p := ⟨b6, off6 + k * 3 + 2, none⟩) hl2).trans HD.out
    go_wp2_with fail
    go_ret2
    exact ⟨rfl, then_ AL.out b1⟩

set_option maxHeartbeats 2000000 in
theorem keepPx (v1 v2 : Value) (s : List Px) (w : World) (h1 : IsRow ePx 2 w v1 s) (h2 : IsRow ePx 2 w v2 s) (hs : s.length ≤ 1000000) :
    Calls Try.prog 15 #[v1, v2] w (BoolPost true w) := by
  obtain ⟨n, hn⟩ : ∃ n, n = s.length := ⟨_, rfl⟩
  have h1 := row_n h1 hn
  have h2 := row_n h2 hn
  obtain ⟨p1, cap1, rfl, _, X⟩ := rows_open (by decide) h1
  obtain ⟨p2, cap2, rfl, _, Y⟩ := rows_open (by decide) h2
  rw [← hn] at hs
  have HL := hid hn
  have HX := hid X
  have HY := hid Y
  clear h1 h2 X Y hn
  go_enter Try.func15, Try.ntmps15
  go_wp2
  go_loopw [5] (fun i wr => ∃ k q : Nat, k ≤ n ∧ i = .int .i64 k ∧ wr = w.drewN q) (fun i _ => n - (intOf i).toNat)
  case atStart => exact ⟨0, 0, by omega, rfl, rfl⟩
  case round =>
    obtain ⟨k, q, hk, rfl, rfl⟩ := hrel
    by_cases hlt : k < n
    · obtain ⟨b1, o1, rfl, hb1, c⟩ := HX.out (by omega)
      obtain ⟨b2, o2, rfl, hb2, d⟩ := HY.out (by omega)
      have hk' : k < s.length := by rw [← HL.out]; exact hlt
      obtain ⟨c0, c1⟩ := ePx_cells c (List.getElem?_eq_getElem hk')
      obtain ⟨d0, d1⟩ := ePx_cells d (List.getElem?_eq_getElem hk')
      generalize s[k] = x at *
      obtain ⟨x1, x2⟩ := x
      simp only at c0 c1 d0 d1
      clear c d
      go_wp2
      go_quiet (fail)
      go_wp2
      go_roundw
      case rel => exact ⟨k + 1, _, by omega, by go_num, rfl⟩
      case measure => simp [intOf]; omega
    · go_wp2
      go_ret
      exact ⟨rfl, drewN_below _ _ _⟩
end Go.Proofs.Ytnlmplllfgfgoaa.Ad
