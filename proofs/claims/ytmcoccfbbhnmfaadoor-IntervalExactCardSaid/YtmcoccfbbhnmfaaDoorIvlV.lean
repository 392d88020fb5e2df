/-
  THE CONTRACTS OF THE REFERENCE's within AND Prefixes.
-/
import Derived.Test.YtmcoccfbbhnmfaaDoorIvlU
import Derived.Test.YtmcoccfbbhnmfaaDoorIvlC
import Derived.Test.YtmcoccfbbhnmfaaDoorPfxR
import Derived.Test.YtmcoccfbbhnmfaaDoorPfxH
import Derived.Deep.RegionHeld3
namespace Go.Proofs.YtmcoccfbbhnmfaaDoor.Ip
open Am Im
theorem wth_zero_yes {s : List Iv} {a : Nat} (h : wholeB s a a = true) : wth s 0 a = [(a, 32)] := by unfold wth; rw [if_pos h]
theorem wth_zero_no {s : List Iv} {a : Nat} (h : wholeB s a a = false) : wth s 0 a = [] := by unfold wth; rw [if_neg (by rw [h]; decide)]
theorem wth_whole {s : List Iv} {a f k : Nat} (hk : k + (f + 1) = 32) (h : wholeB s a (a + blk k - 1) = true) : wth s (f + 1) a = [(a, k)] := by
  obtain rfl : k = 32 - (f + 1) := by omega
  rw [wth, if_pos h]
theorem wth_none {s : List Iv} {a f k : Nat} (hk : k + (f + 1) = 32) (h : wholeB s a (a + blk k - 1) = false) (h2 : meetsB s a (a + blk k - 1) = false) : wth s (f + 1) a = [] := by
  obtain rfl : k = 32 - (f + 1) := by omega
  rw [wth, if_neg (by rw [h]; decide), if_neg (by rw [h2]; decide)]
theorem wth_both {s : List Iv} {a f k : Nat} (hk : k + (f + 1) = 32) (h : wholeB s a (a + blk k - 1) = false) (h2 : meetsB s a (a + blk k - 1) = true) : wth s (f + 1) a = wth s f a ++ wth s f (a + blk (k + 1)) := by
  obtain rfl : k = 32 - (f + 1) := by omega
  rw [wth, if_neg (by rw [h]; decide), if_pos h2, show 32 - (f + 1) + 1 = 32 - f by omega]
theorem wth_short (s : List Iv) {f a : Nat} (hf : f ≤ 32) : (wth s f a).length ≤ 10000000000 := by
  have h1 := wth_len s f a
  have h2 : 2 ^ f ≤ 2 ^ 32 := Nat.pow_le_pow_right (by decide) hf
  have h3 : (2 : Nat) ^ 32 = 4294967296 := by decide
  omega
theorem whole_take {s : List Iv} {k a h : Nat} (hk : k < s.length) : wholeB (s.take (k + 1)) a h = (wholeB (s.take k) a h || (decide ((nth s k).1 ≤ a) && decide (h ≤ (nth s k).2))) := by
  unfold wholeB; rw [nth_take hk, List.any_append]; simp
theorem meets_take {s : List Iv} {k a h : Nat} (hk : k < s.length) : meetsB (s.take (k + 1)) a h = (meetsB (s.take k) a h || (decide ((nth s k).1 ≤ h) && decide (a ≤ (nth s k).2))) := by
  unfold meetsB; rw [nth_take hk, List.any_append]; simp
theorem whole_mono {s : List Iv} {k a h : Nat} (hw : wholeB (s.take k) a h = true) : wholeB s a h = true := by
  unfold wholeB at *
  rw [List.any_eq_true] at hw ⊢
  obtain ⟨i, hi, hx⟩ := hw
  exact ⟨i, List.mem_of_mem_take hi, hx⟩
/-- What within gives where something was found whole, or nothing. -/
theorem wth_any_whole {s : List Iv} {a f k : Nat} (hk : k + f = 32) (h : wholeB s a (a + blk k - 1) = true) : wth s f a = [(a, k)] := by
  cases f with
  | zero =>
    obtain rfl : k = 32 := by omega
    rw [blk_32, Nat.add_sub_cancel] at h
    exact wth_zero_yes h
  | succ f => exact wth_whole hk h
theorem wth_any_none {s : List Iv} {a f k : Nat} (hk : k + f = 32) (h : wholeB s a (a + blk k - 1) = false) (h2 : meetsB s a (a + blk k - 1) = false) : wth s f a = [] := by
  cases f with
  | zero =>
    obtain rfl : k = 32 := by omega
    rw [blk_32, Nat.add_sub_cancel] at h
    exact wth_zero_no h
  | succ f => exact wth_none hk h h2
theorem wth_not_32 {s : List Iv} {a : Nat} (h : wholeB s a (a + blk 32 - 1) = false) (h2 : meetsB s a (a + blk 32 - 1) = true) : False := by
  rw [blk_32, Nat.add_sub_cancel] at h h2
  unfold wholeB at h; unfold meetsB at h2
  rw [h] at h2; cases h2
theorem okp_halves {a k : Nat} (h : OkP (a, k)) (hk : k < 32) : OkP (a, k + 1) ∧ OkP (a + blk (k + 1), k + 1) := by
  obtain ⟨h1, h2, h3⟩ := h
  simp only at h1 h2 h3
  have bs := blk_succ k hk
  obtain ⟨u, hu⟩ := Nat.dvd_of_mod_eq_zero h2
  have hu2 : a = blk (k + 1) * (2 * u) := by rw [hu, bs, Nat.mul_comm 2 (blk (k + 1)), Nat.mul_assoc]
  refine ⟨⟨by simp only; omega, ?_, by simp only; omega⟩, ⟨by simp only; omega, ?_, by simp only; omega⟩⟩
  · simp only; rw [hu2]; exact Nat.mul_mod_right _ _
  · simp only; rw [Nat.add_mod_right, hu2]; exact Nat.mul_mod_right _ _
end Go.Proofs.YtmcoccfbbhnmfaaDoor.Ip
namespace Go.Proofs.YtmcoccfbbhnmfaaDoor.Iw
set_option linter.unusedSimpArgs false
set_option linter.unusedVariables false
open Go.RowKit Sm Ip Im Kt Am

/-- A prefix as the program holds it, its length a letter. -/
abbrev pz (a k : Nat) : Value := .agg #[.int .u32 (a : Int), .int .i64 (k : Int)]

set_option maxHeartbeats 8000000 in
set_option maxRecDepth 100000 in
theorem withinStep (s : List Iv) (hb : Bd 4294967296 s) (hs : s.length ≤ 10000000000) (f k a : Nat)
    (IH : ∀ f', f = f' + 1 → ∀ (a' : Nat) (v : Value) (w : World), OkP (a', k + 1) → IsIv w v s → Calls Tryd.prog 51 #[v, pz a' (k + 1)] w (PxPost (wth s f' a') w))
    (v : Value) (w : World) (hkf : k + f = 32) (hok : OkP (a, k)) (hv : IsIv w v s) :
    Calls Tryd.prog 51 #[v, pz a k] w (PxPost (wth s f a) w) := by
  obtain ⟨i0, hi, hz0, hz1, hz2⟩ := info_parts pxInfo
  have bp := blk_pos k
  have ha : a + blk k ≤ 4294967296 := hok.2.2
  have hk32 : k ≤ 32 := hok.1
  obtain ⟨hi', hhi⟩ : ∃ h, h = a + blk k - 1 := ⟨_, rfl⟩
  have hL : ∀ wx, Calls Tryd.prog 35 #[pz a k] wx fun e w' => e = .returned (.int .u32 (hi' : Int)) ∧ Below wx.heap.size wx w' := by
    intro wx
    refine (Ad.refLast a (k : Int) wx (by omega)).mono ?_
    rintro e w' ⟨rfl, hb⟩
    have := last_ok hok
    simp only at this
    exact ⟨by rw [this, hhi], hb⟩
  have hh1 : hi' < 4294967296 := by omega
  have ha1 : a < 4294967296 := by omega
  have HW := hid (fun h => wth_any_whole (s := s) (a := a) (f := f) hkf (by rw [← hhi]; exact h))
  have HNo := hid (fun h h2 => wth_any_none (s := s) (a := a) (f := f) hkf (by rw [← hhi]; exact h) (by rw [← hhi]; exact h2))
  have HHi := hid hhi
  have HOk := hid hok
  have HIH := hid IH
  have HV := hid hv
  have HB := hid hb
  obtain ⟨n, hn⟩ : ∃ n, n = s.length := ⟨_, rfl⟩
  obtain ⟨p1, cap, rfl, hcell⟩ := rows_open hv
  rw [← hn] at hs hcell HV ⊢
  have HL := hid hn
  have HC := hid hcell
  clear hv hcell hn hok IH hb hhi bp ha
  go_enter Tryd.func51, Tryd.ntmps51
  go_wp2_with fail
  refine (hL _).mono ?_
  rintro e w1 ⟨rfl, bel1⟩
  have b1 := then_ (al1 w _) bel1
  have hx1 := box_all bel1
  have s1 := b1.size
  have hbl0 : w.heap.size < w1.heap.size := blk_lt hx1
  clear bel1 hL
  go_wp2_with fail
  go_loopg [6, 7] n (fun gg mv i wr => ∃ j q : Nat, ∃ m : Bool, j + gg = n ∧ i = .int .i64 j ∧ mv = .bool m ∧ wr = w1.drewN q ∧ Hid (wholeB (s.take j) a hi' = false ∧ m = meetsB (s.take j) a hi'))
  case atStart => exact ⟨0, 0, false, by omega, rfl, rfl, rfl, hid ⟨rfl, rfl⟩⟩
  case round =>
    obtain ⟨j, q, m, hj, rfl, rfl, rfl, HR⟩ := hrel
    cases gk with
    | zero =>
      have hlt : ¬ ((j : Int) < (n : Int)) := by omega
      have hjn : s.take j = s := List.take_of_length_le (by rw [← HL.out]; omega)
      have HR2 := hid (show wholeB s a hi' = false ∧ m = meetsB s a hi' by have := HR.out; rwa [hjn] at this)
      clear hjn HR
      have b2 := b1.trans (drewN_below w.heap.size w1 q)
      have hx2 := blk_keep hx1 (drewN_below w1.heap.size w1 q)
      have s2 := b2.size
      clear b1 hx1 s1
      have hbl2 : w.heap.size < (w1.drewN q).heap.size := blk_lt hx2
      clear hbl0
      generalize w1.drewN q = w2 at *
      cases m with
      | false =>
        have HE := hid (HNo.out HR2.out.1 HR2.out.2.symm)
        go_wp2_with fail
        go_ret
        refine ⟨_, rfl, ?_, b2⟩
        rw [HE.out]
        exact own_nil rfl rfl
      | true =>
        cases f with
        | zero =>
          exfalso
          obtain rfl : k = 32 := by omega
          have e := HHi.out
          exact wth_not_32 (s := s) (a := a) (by rw [← e]; exact HR2.out.1) (by rw [← e]; exact HR2.out.2.symm)
        | succ f =>
          have hk : k < 32 := by omega
          have HE := hid (wth_both hkf (by rw [← HHi.out]; exact HR2.out.1) (by rw [← HHi.out]; exact HR2.out.2.symm))
          have hH := fun wx => Ad.refHalves a k wx ha1 hk HOk.out.2.1
          have HO := hid (okp_halves HOk.out hk)
          have I1 := hid (fun wx (h : IsIv wx (.slice p1 n cap) s) => HIH.out f rfl a (.slice p1 n cap) wx HO.out.1 h)
          have I2 := hid (fun wx (h : IsIv wx (.slice p1 n cap) s) => HIH.out f rfl (a + blk (k + 1)) (.slice p1 n cap) wx HO.out.2 h)
          have hs1 := wth_short s (f := f) (a := a) (by omega)
          have hs2 := wth_short s (f := f) (a := a + blk (k + 1)) (by omega)
          obtain ⟨a2, ha2⟩ : ∃ a2, a2 = a + blk (k + 1) := ⟨_, rfl⟩
          obtain ⟨k1, hk1⟩ : ∃ k1, k1 = k + 1 := ⟨_, rfl⟩
          have ha2' : a2 < 4294967296 := by have h1 := HO.out.2.2.2; have h2 := blk_pos (k + 1); simp only at h1; omega
          rw [← ha2] at hH I2 hs2 HE
          rw [← hk1] at hH I1 I2
          clear ha2 HO HW HNo HIH hk1 HR2 HOk HHi
          obtain ⟨⟨d0, d1⟩, -⟩ := blk_two hx2
          go_wp2_with fail
          refine (hH _).mono ?_
          rintro e w3 ⟨rfl, bel3⟩
          have b3 := b2.trans (bel3.mono s2)
          have s3 := b3.size
          clear bel3 hH d0 d1 hx2 b2 s2 hbl2
          go_upto_region 12 with fail
          have h5a := two_h0 w3 (.int .u32 (a : Int)) (.int .i64 (k1 : Int)) (.int .u32 (a2 : Int)) (.int .i64 (k1 : Int)) 37 37
          have h5b := two_h1 w3 (.int .u32 (a : Int)) (.int .i64 (k1 : Int)) (.int .u32 (a2 : Int)) (.int .i64 (k1 : Int)) 37 37
          have b5 := b3.trans ((al2 w3 (.cells #[.int .u32 (a : Int), .int .i64 (k1 : Int)] 37) (.cells #[.int .u32 (a2 : Int), .int .i64 (k1 : Int)] 37)).mono s3)
          have s5 := b5.size
          clear b3 s3
          generalize (w3.alloc (.cells #[.int .u32 (a : Int), .int .i64 (k1 : Int)] 37)).alloc (.cells #[.int .u32 (a2 : Int), .int .i64 (k1 : Int)] 37) = w5 at *
          have c0 := if_0 h5a
          have c1 := if_1 h5a
          have c2 := if_0 h5b
          have c3 := if_1 h5b
          have hR : Hid (∀ W, Below w5.heap.size w5 W → IsIv W (.slice p1 n cap) s) := hid (fun W hW => rows_keep HV.out (b5.trans (hW.mono s5)))
          have HB5 := hid b5
          have HE2 := hid (And.intro hs1 hs2)
          clear h5a h5b hs1 hs2
          go_region_held3 (fun v => Below w5.heap.size w5 v) ((first | assumption | go_grown)) ((first
            | (go_at_call_of 51 (#[Value.slice p1 n cap, Value.agg #[Value.int IntKind.u32 (a : Int), Value.int IntKind.i64 (k1 : Int)]] : Array Value); refine (I1.out _ (hR.out _ ?q1)).mono ?_; (case q1 => first | assumption | exact drewN_below _ _ 1 | go_grown); rintro e w6 ⟨v6, rfl, own6, bel6⟩; have b6 : Below w5.heap.size w5 w6 := (by refine chain ?_ (Nat.le_refl w5.heap.size) bel6; first | assumption | exact drewN_below _ _ 1 | go_grown))
            | (go_at_call_of 51 (#[Value.slice p1 n cap, Value.agg #[Value.int IntKind.u32 (a2 : Int), Value.int IntKind.i64 (k1 : Int)]] : Array Value); refine (I2.out _ (hR.out _ b6)).mono ?_; rintro e w7 ⟨v7, rfl, own7, bel7⟩; have b7 := chain b6 (Nat.le_refl w5.heap.size) bel7)
            | (refine step2 (by rfl) _ _ _ (by rfl) 37 i0 _ 16 Tryd.underlying33 hi hz0 hz1 hz2 (by rfl) (by decide) w5.heap.size w7 v6 v7 (wth s f a).length (wth s f a2).length (px2 (wth s f a)) (px2 (wth s f a2)) (by rfl) (own_below own6 bel7 (Nat.le_refl _)) b7.size (by rfl) (rows_own own7) (px2_one _) HE2.out.1 HE2.out.2 ?_; intro v8 w8 own8 bel8; have b8 := b7.trans bel8)
            | fail))
          have R8 := hid (And.intro own8 (HB5.out.trans (b8.mono s5)))
          clear own6 own7 own8 bel6 bel7 bel8 b6 b7 b8 c0 c1 c2 c3
          go_wp2_with fail
          go_ret
          refine ⟨_, rfl, ?_, R8.out.2⟩
          rw [HE.out, List.length_append, px2_append]
          exact own_less R8.out.1 s5
    | succ g1 =>
      have hlt : j < n := by omega
      have hj' : j < s.length := by rw [← HL.out]; exact hlt
      obtain ⟨b, off, rfl, hbl, hc⟩ := HC.out (by omega)
      obtain ⟨c0, c1⟩ := iv_cells hc hj'
      have hx := HB.out _ (nth_mem hj')
      have c0 := (b1.cell (p := ⟨b, off + j * 2, none⟩) hbl).trans c0
      have c1 := (b1.cell (p := ⟨b, off + j * 2 + 1, none⟩) hbl).trans c1
      obtain ⟨⟨d0, d1⟩, -⟩ := blk_two hx1
      have HT1 := hid (whole_take (a := a) (h := hi') hj')
      have HT2 := hid (meets_take (a := a) (h := hi') hj')
      obtain ⟨x, hxe⟩ : ∃ x, x = nth s j := ⟨_, rfl⟩
      rw [← hxe] at c0 c1 hx HT1 HT2
      clear hxe hc hj'
      obtain ⟨x1, x2⟩ := x
      simp only at c0 c1 hx HT1 HT2
      by_cases h1 : x1 ≤ a ∧ hi' ≤ x2
      · have HE := hid (HW.out (whole_mono (k := j + 1) (by rw [HT1.out, decide_eq_true h1.1, decide_eq_true h1.2]; simp)))
        have q1 : decide (x1 ≤ a) = true := decide_eq_true h1.1
        have q2 : decide (hi' ≤ x2) = true := decide_eq_true h1.2
        clear h1
        go_wp2_with fail
        go_quiet (fail)
        go_wp2_with fail
        go_ret
        refine ⟨_, rfl, ?_, (b1.trans (drewN_below _ _ _)).alloc s1 _⟩
        rw [HE.out]
        exact own_new (w1.drewN _) [.int .u32 (a : Int), .int .i64 (k : Int)] _ _ 1 rfl (by omega) s1
      · have HF : Hid (wholeB (s.take (j + 1)) a hi' = false) := hid (by
          rw [HT1.out, HR.out.1, Bool.false_or, ← Bool.not_eq_true, Bool.and_eq_true, decide_eq_true_eq, decide_eq_true_eq]; exact h1)
        have HMt : Hid (meetsB (s.take (j + 1)) a hi' = (m || (decide (x1 ≤ hi') && decide (a ≤ x2)))) := hid (by rw [HT2.out, ← HR.out.2])
        clear HT1 HT2 HR HW HNo
        have hcase : (x1 ≤ a ∧ ¬ hi' ≤ x2) ∨ ¬ x1 ≤ a := by omega
        clear h1
        rcases hcase with ⟨h1, h2⟩ | h1
        · have q1 : decide (x1 ≤ a) = true := decide_eq_true h1
          have q2 : decide (hi' ≤ x2) = false := decide_eq_false h2
          clear h1 h2
          cases m with
          | true =>
            have HM := hid (show meetsB (s.take (j + 1)) a hi' = true by rw [HMt.out]; rfl)
            clear HMt
            go_wp2_with fail
            go_quiet (fail)
            go_wp2_with fail
            go_quiet (fail)
            go_wp2_with fail
            go_roundg g1
            case measure => omega
            case rel => exact ⟨j + 1, _, true, by omega, by go_num, rfl, rfl, hid ⟨HF.out, HM.out.symm⟩⟩
          | false =>
            by_cases h3 : x1 ≤ hi'
            · have q3 : decide (x1 ≤ hi') = true := decide_eq_true h3
              by_cases h4 : a ≤ x2
              · have q4 : decide (a ≤ x2) = true := decide_eq_true h4
                have HM := hid (show meetsB (s.take (j + 1)) a hi' = true by rw [HMt.out, q3, q4]; rfl)
                clear HMt h3 h4
                go_wp2_with fail
                go_quiet (fail)
                go_wp2_with fail
                go_quiet (fail)
                go_wp2_with fail
                go_roundg g1
                case measure => omega
                case rel => exact ⟨j + 1, _, true, by omega, by go_num, rfl, rfl, hid ⟨HF.out, HM.out.symm⟩⟩
              · have q4 : decide (a ≤ x2) = false := decide_eq_false h4
                have HM := hid (show meetsB (s.take (j + 1)) a hi' = false by rw [HMt.out, q3, q4]; rfl)
                clear HMt h3 h4
                go_wp2_with fail
                go_quiet (fail)
                go_wp2_with fail
                go_quiet (fail)
                go_wp2_with fail
                go_roundg g1
                case measure => omega
                case rel => exact ⟨j + 1, _, false, by omega, by go_num, rfl, rfl, hid ⟨HF.out, HM.out.symm⟩⟩
            · have q3 : decide (x1 ≤ hi') = false := decide_eq_false h3
              have HM := hid (show meetsB (s.take (j + 1)) a hi' = false by rw [HMt.out, q3]; rfl)
              clear HMt h3
              go_wp2_with fail
              go_quiet (fail)
              go_wp2_with fail
              go_quiet (fail)
              go_wp2_with fail
              go_roundg g1
              case measure => omega
              case rel => exact ⟨j + 1, _, false, by omega, by go_num, rfl, rfl, hid ⟨HF.out, HM.out.symm⟩⟩
        · have q1 : decide (x1 ≤ a) = false := decide_eq_false h1
          clear h1
          cases m with
          | true =>
            have HM := hid (show meetsB (s.take (j + 1)) a hi' = true by rw [HMt.out]; rfl)
            clear HMt
            go_wp2_with fail
            go_quiet (fail)
            go_wp2_with fail
            go_quiet (fail)
            go_wp2_with fail
            go_roundg g1
            case measure => omega
            case rel => exact ⟨j + 1, _, true, by omega, by go_num, rfl, rfl, hid ⟨HF.out, HM.out.symm⟩⟩
          | false =>
            by_cases h3 : x1 ≤ hi'
            · have q3 : decide (x1 ≤ hi') = true := decide_eq_true h3
              by_cases h4 : a ≤ x2
              · have q4 : decide (a ≤ x2) = true := decide_eq_true h4
                have HM := hid (show meetsB (s.take (j + 1)) a hi' = true by rw [HMt.out, q3, q4]; rfl)
                clear HMt h3 h4
                go_wp2_with fail
                go_quiet (fail)
                go_wp2_with fail
                go_quiet (fail)
                go_wp2_with fail
                go_roundg g1
                case measure => omega
                case rel => exact ⟨j + 1, _, true, by omega, by go_num, rfl, rfl, hid ⟨HF.out, HM.out.symm⟩⟩
              · have q4 : decide (a ≤ x2) = false := decide_eq_false h4
                have HM := hid (show meetsB (s.take (j + 1)) a hi' = false by rw [HMt.out, q3, q4]; rfl)
                clear HMt h3 h4
                go_wp2_with fail
                go_quiet (fail)
                go_wp2_with fail
                go_quiet (fail)
                go_wp2_with fail
                go_roundg g1
                case measure => omega
                case rel => exact ⟨j + 1, _, false, by omega, by go_num, rfl, rfl, hid ⟨HF.out, HM.out.symm⟩⟩
            · have q3 : decide (x1 ≤ hi') = false := decide_eq_false h3
              have HM := hid (show meetsB (s.take (j + 1)) a hi' = false by rw [HMt.out, q3]; rfl)
              clear HMt h3
              go_wp2_with fail
              go_quiet (fail)
              go_wp2_with fail
              go_quiet (fail)
              go_wp2_with fail
              go_roundg g1
              case measure => omega
              case rel => exact ⟨j + 1, _, false, by omega, by go_num, rfl, rfl, hid ⟨HF.out, HM.out.symm⟩⟩


theorem within (s : List Iv) (hb : Bd 4294967296 s) (hs : s.length ≤ 10000000000) : ∀ (f k a : Nat) (v : Value) (w : World), k + f = 32 → OkP (a, k) → IsIv w v s →
    Calls Tryd.prog 51 #[v, pz a k] w (PxPost (wth s f a) w) := by
  intro f
  induction f with
  | zero =>
    intro k a v w hk hok hv
    exact withinStep s hb hs 0 k a (fun f' h => by cases h) v w hk hok hv
  | succ f ih =>
    intro k a v w hk hok hv
    refine withinStep s hb hs (f + 1) k a (fun f' h a' v' w' hok' hv' => ?_) v w hk hok hv
    obtain rfl : f' = f := by omega
    exact ih (k + 1) a' v' w' (by omega) hok' hv'

set_option maxHeartbeats 1000000 in
theorem refPrefixes (v : Value) (a : List Iv) (w : World) (ha : IsIv w v a) (ba : Bd 4294967296 a) (la : a.length ≤ 10000000000) :
    Calls Tryd.prog 33 #[v] w (PxPost (prefs a) w) := by
  have C := refNormalize v a w ha ba la
  have hnb := norm_bd ba
  have hnl := norm_len a
  have HE := hid (prefs_wth ba)
  have hI := fun wx u (h : IsIv wx u (norm a)) => within (norm a) hnb (by omega) 32 0 0 u wx rfl ⟨by decide, by decide, by decide⟩ h
  have HI := hid hI
  clear ha ba hI hnb hnl
  go_enter Tryd.func33, Tryd.ntmps33
  go_wp2_with fail
  refine C.mono ?_
  rintro e w1 ⟨v1, rfl, r1, b1⟩
  have R1 := hid r1
  clear C r1
  go_wp2_with fail
  refine (HI.out _ _ R1.out).mono ?_
  rintro e w2 ⟨v2, rfl, own2, b2⟩
  have R2 := hid own2
  clear own2
  go_wp2_with fail
  go_ret
  refine ⟨_, rfl, ?_, then_ b1 b2⟩
  rw [← HE.out]
  exact own_less R2.out b1.size
end Go.Proofs.YtmcoccfbbhnmfaaDoor.Iw
