/-
  THE CONTRACTS OF interval.Has AND OF THE REFERENCE's Canonical AND Has.
-/
import Derived.Test.YtmcoccfbbhnmfaaDoorIvlD
namespace Go.Proofs.YtmcoccfbbhnmfaaDoor.Iw
set_option linter.unusedSimpArgs false
set_option linter.unusedVariables false
open Go.RowKit Sm Ip Im Kt

set_option maxHeartbeats 4000000 in
set_option maxRecDepth 100000 in
theorem refCanonical (v : Value) (s : List Iv) (w : World) (h : IsIv w v s) (hb : Bd 4294967296 s) (hs : s.length ≤ 10000000000) :
    Calls Tryd.prog 16 #[v] w (BoolPost (canB s) w) := by
  obtain ⟨a, cap, rfl, hcell⟩ := rows_open h
  have HB := hid hb
  obtain ⟨n, hn⟩ : ∃ n, n = s.length := ⟨_, rfl⟩
  rw [← hn] at hcell hs ⊢
  have HL := hid hn
  have HC := hid hcell
  clear h hb hcell hn
  go_enter Tryd.func16, Tryd.ntmps16
  go_wp2_with fail
  go_loopg [3] n (fun gg i wr => ∃ k q : Nat, k + gg = n ∧ i = .int .i64 k ∧ allTo s k ∧ wr = w.drewN q)
  case atStart => exact ⟨0, 0, by omega, rfl, allTo_zero s, rfl⟩
  case round =>
    obtain ⟨k, q, hk, rfl, hall, rfl⟩ := hrel
    have HA := hid hall
    clear hall
    cases gk with
    | zero =>
      have hlt : ¬ ((k : Int) < (n : Int)) := by omega
      have HE := hid (allTo_end HA.out (by rw [← HL.out]; omega))
      go_wp2_with fail
      go_ret
      exact ⟨ret_bool HE.out.symm, drewN_below _ _ _⟩
    | succ g1 =>
      have hlt : k < n := by omega
      obtain ⟨b, off, rfl, hbl, hc⟩ := HC.out (by omega)
      have cell := fun j (hj : j < n) => iv_cells hc (k := j) (by rw [← HL.out]; exact hj)
      have bd := fun j (hj : j < n) => HB.out _ (nth_mem (k := j) (by rw [← HL.out]; exact hj))
      obtain ⟨c0, c1⟩ := cell k hlt
      have hx := bd k hlt
      have HCell := hid cell
      have HBd := hid bd
      clear cell bd
      have HNo := hid (fun h => allTo_no (s := s) (k := k) (by rw [← HL.out]; exact hlt) h)
      have HYes := hid (fun h => allTo_succ HA.out (k := k) h)
      obtain ⟨x, hxe⟩ : ∃ x, x = nth s k := ⟨_, rfl⟩
      have hok : okAt s k = (decide (x.1 ≤ x.2) && (decide (k = 0) || decide ((nth s (k - 1)).2 + 1 < x.1))) := by rw [hxe]; rfl
      have HOK := hid hok
      rw [← hxe] at c0 c1 hx
      clear hxe hc HA hok
      obtain ⟨x1, x2⟩ := x
      simp only at c0 c1 hx HOK
      by_cases he : x2 < x1
      · have HR := hid (HNo.out (by rw [HOK.out, decide_eq_false (show ¬ x1 ≤ x2 by omega)]; rfl))
        have q1 : decide (x2 < x1) = true := by simpa using he
        clear HNo HYes HOK he
        go_wp2_with fail
        go_quiet (fail)
        go_wp2_with fail
        go_ret
        exact ⟨ret_bool HR.out.symm, (drewN_below _ _ _).trans (drewN_below _ _ _)⟩
      · have q1 : decide (x2 < x1) = false := by simpa using he
        cases k with
        | zero =>
          simp only [Nat.zero_mul, Nat.add_zero] at c0 c1
          have HY := hid (HYes.out (by rw [HOK.out, decide_eq_true (show x1 ≤ x2 by omega)]; rfl))
          clear HNo HYes HOK he
          go_wp2_with fail
          go_quiet (fail)
          go_wp2_with fail
          go_roundg g1
          case measure => omega
          case rel => exact ⟨1, _, by omega, by go_num, HY.out, rfl⟩
        | succ j =>
          obtain ⟨e0, e1⟩ := HCell.out j (by omega)
          have hl := HBd.out j (by omega)
          rw [show j + 1 - 1 = j by omega] at HOK
          obtain ⟨l, hle⟩ : ∃ l, l = nth s j := ⟨_, rfl⟩
          rw [← hle] at e0 e1 hl HOK
          obtain ⟨l1, l2⟩ := l
          simp only at e0 e1 hl HOK
          clear hle HCell HBd
          have wr1 : IntKind.u64.wrap ((l2 : Int) + 2) = (l2 : Int) + 2 := IntWalk.u64_in _ (by omega)
          have n4 : (0 : Int) ≤ (l2 : Int) + 2 := by omega
          have p0 : decide ((0 : Int) < (j : Int) + 1) = true := decide_eq_true (by omega)
          have n5 : (0 : Int) ≤ (j : Int) := by omega
          have n6 : (0 : Int) ≤ (j : Int) + 1 := by omega
          have n7 : (j : Int) + 1 < (n : Int) := by omega
          have n8 : ((j : Int) + 1).toNat = j + 1 := by omega
          have wr2 : IntKind.i64.wrap ((j : Int) + 1 - 1) = (j : Int) := by rw [Int.add_sub_cancel]; exact IntWalk.i64_in _ (by omega)
          by_cases hg : l2 + 1 < x1
          · have HY := hid (HYes.out (by rw [HOK.out, decide_eq_true (show x1 ≤ x2 by omega), decide_eq_true hg]; simp))
            have q2 : decide ((x1 : Int) < (l2 : Int) + 2) = false := decide_eq_false (by omega)
            clear HNo HYes HOK he hg
            go_wp2_with fail
            go_quiet (fail)
            clear wr1 wr2
            go_wp2_with fail
            go_roundg g1
            case measure => omega
            case rel => exact ⟨j + 1 + 1, _, by omega, by go_num, HY.out, rfl⟩
          · have HR := hid (HNo.out (by rw [HOK.out, decide_eq_true (show x1 ≤ x2 by omega), decide_eq_false hg]; simp))
            have q2 : decide ((x1 : Int) < (l2 : Int) + 2) = true := decide_eq_true (by omega)
            clear HNo HYes HOK he hg
            go_wp2_with fail
            go_quiet (fail)
            clear wr1 wr2
            go_wp2_with fail
            go_ret
            exact ⟨ret_bool HR.out.symm, (drewN_below _ _ _).trans (drewN_below _ _ _)⟩

/-! ### Has -/
theorem inB_eq (x y z : Nat) : (decide (x ≤ y) && decide (y ≤ z)) = decide (x ≤ y ∧ y ≤ z) := by rw [Bool.eq_iff_iff]; simp

set_option maxHeartbeats 1000000 in
/-- Has's predicate: the variable that it has captured lies in its cell. -/
theorem hasLit (x : Nat) (i : Iv) (B : Nat) (w : World) (hB : B < w.heap.size) (hc : w.cell? ⟨B, 0, none⟩ = some (.int .u32 (x : Int))) :
    Calls Tryd.prog 44 #[iv i, .pointer (some ⟨B, 0, none⟩)] w fun e w' => e = .returned (.bool (decide (i.1 ≤ x) && decide (x ≤ i.2))) ∧ Below w.heap.size w w' := by
  have hc2 : (w.alloc (.cells #[.int .u32 (i.1 : Int), .int .u32 (i.2 : Int)] 45)).cell? ⟨B, 0, none⟩ = some (.int .u32 (x : Int)) := ((al1 w _).cell (p := ⟨B, 0, none⟩) hB).trans hc
  clear hc
  by_cases h1 : i.1 ≤ x
  · have hr : Hid ((decide (i.1 ≤ x) && decide (x ≤ i.2)) = decide (x ≤ i.2)) := by show _ = _; simp [h1]
    go_enter Tryd.func44, Tryd.ntmps44
    go_wp2_with fail
    all_goals go_ret
    all_goals first | exact ⟨ret_bool (by rw [hr.out]), al1 w _⟩ | exact ⟨ret_bool (by rw [hr.out, Bool.eq_iff_iff]; simp), al1 w _⟩
  · have hr : Hid ((decide (i.1 ≤ x) && decide (x ≤ i.2)) = false) := by show _ = _; simp [h1]
    go_enter Tryd.func44, Tryd.ntmps44
    go_wp2_with fail
    all_goals go_ret
    all_goals exact ⟨ret_bool hr.out.symm, al1 w _⟩

theorem enters_has : ∀ args w, (callFunc 44 args).run Tryd.prog w = .ok (.enter 44 args) w := enters_of Tryd.func44 (by kernel_rfl) rfl

set_option maxHeartbeats 1000000 in
/-- slices.IndexFunc, slices.ContainsFunc at no element, whatever the address. -/
theorem index_none (a : Option Addr) (cap : Nat) (f : Value) (w : World) :
    Calls Tryd.prog 55 #[.slice a 0 cap, f] w fun e w' => e = .returned (.int .i64 (-1)) ∧ w = w' := by
  go_enter Tryd.func55, Tryd.ntmps55
  go_wp2
  refine wp_loop_rounds 1 ?_
  rw [rounds_succ]
  go_wp2
  go_ret
  exact ⟨rfl, rfl⟩
set_option maxHeartbeats 1000000 in
theorem contains_none (a : Option Addr) (cap : Nat) (f : Value) (w : World) :
    Calls Tryd.prog 43 #[.slice a 0 cap, f] w fun e w' => e = .returned (.bool false) ∧ w = w' := by
  go_enter Tryd.func43, Tryd.ntmps43
  go_wp2_with (go_at_call 55; refine (index_none _ _ _ _).mono ?_; rintro e w' ⟨rfl, rfl⟩)
  go_ret
  exact ⟨rfl, rfl⟩

/-- slices.ContainsFunc with Has's predicate. -/
theorem containsHas (v : Value) (s : List Iv) (x B : Nat) (w : World) (h : IsIv w v s) (hs : s.length ≤ 10000000000) (hB : B < w.heap.size) (hc : w.cell? ⟨B, 0, none⟩ = some (.int .u32 (x : Int))) :
    Calls Tryd.prog 43 #[v, .func (.func 44) #[] #[.pointer (some ⟨B, 0, none⟩)]] w (BoolPost (hasB s x) w) := by
  obtain ⟨a, cap, rfl, hcell⟩ := rows_open h
  by_cases h0 : s.length = 0
  · have hl : s = [] := List.eq_nil_of_length_eq_zero h0
    subst hl
    refine (contains_none a cap _ w).mono ?_
    rintro e w' ⟨rfl, rfl⟩
    exact ⟨rfl, Below.refl _ _⟩
  · obtain ⟨b, off, rfl, hb, hc2⟩ := hcell (by omega)
    have hp : PredBelow Tryd.prog 44 #[.pointer (some ⟨B, 0, none⟩)] (fun i : Iv => .agg (encIv i).toArray) (fun i : Iv => decide (i.1 ≤ x) && decide (x ≤ i.2)) w := by
      intro W i hW
      refine (hasLit x i B W (Nat.lt_of_lt_of_le hB hW.size) ((hW.cell (p := ⟨B, 0, none⟩) hB).trans hc)).mono ?_
      rintro e w' ⟨rfl, hb'⟩
      exact ⟨rfl, hW.trans (hb'.mono hW.size)⟩
    have hcon := AnyQ.slices_ContainsFunc Tryd.containsIv 2 Tryd.isAgg45 Tryd.sizeOf45 encIv (fun _ => rfl) (fun i : Iv => decide (i.1 ≤ x) && decide (x ≤ i.2)) 44 #[.pointer (some ⟨B, 0, none⟩)] enters_has b off s.length cap s w hp (Nat.le_refl _) (by omega) hb (fun j hj i v hi => by
      have g := iv2_get s j hj
      have e : s[j]! = nth s j := by rw [nth_get hj, getElem!_pos s j hj]
      rw [e] at hi
      match i, hi with
      | 0, hi =>
        have : v = .int .u32 ((nth s j).1 : Int) := by simpa [encIv] using hi.symm
        rw [this, Nat.add_zero]; exact hc2 _ _ g.1
      | 1, hi =>
        have : v = .int .u32 ((nth s j).2 : Int) := by simpa [encIv] using hi.symm
        rw [this, Nat.add_assoc]; exact hc2 _ _ g.2
      | i + 2, hi => simp [encIv] at hi)
    change Calls Tryd.prog 43 _ _ _ at hcon
    refine hcon.mono ?_
    rintro e w' ⟨rfl, hb'⟩
    exact ⟨ret_bool (by rw [List.take_length]; rfl), hb'⟩

set_option maxHeartbeats 1000000 in
theorem has (v : Value) (s : List Iv) (x : Nat) (w : World) (h : IsIv w v s) (hs : s.length ≤ 10000000000) :
    Calls Tryd.prog 17 #[v, .int .u32 (x : Int)] w (BoolPost (hasB s x) w) := by
  have hcon := containsHas v s x w.heap.size (w.alloc (.cells #[.int .u32 (x : Int)] 23)) (rows_keep h (al1 w _)) hs (by simp) (new_cell w _ _ 0)
  clear h
  go_enter Tryd.func17, Tryd.ntmps17
  go_wp2_with fail
  refine hcon.mono ?_
  rintro e w1 ⟨rfl, b1⟩
  have b2 := then_ (al1 w _) b1
  go_wp2
  go_ret
  exact ⟨rfl, b2⟩

set_option maxHeartbeats 1000000 in
theorem refHas (v : Value) (s : List Iv) (x : Nat) (w : World) (h : IsIv w v s) (hs : s.length ≤ 10000000000) :
    Calls Tryd.prog 18 #[v, .int .u32 (x : Int)] w fun e w' => e = .returned (.bool (hasB s x)) ∧ w = w' := by
  obtain ⟨a, cap, rfl, hcell⟩ := rows_open h
  obtain ⟨n, hn⟩ : ∃ n, n = s.length := ⟨_, rfl⟩
  rw [← hn] at hcell hs ⊢
  have HL := hid hn
  have HC := hid hcell
  clear h hcell hn
  go_enter Tryd.func18, Tryd.ntmps18
  go_wp2_with fail
  go_loop [5] (fun i => ∃ k : Nat, k ≤ n ∧ i = .int .i64 k ∧ Hid (hasB (s.drop k) x = hasB s x)) (fun i => n - (intOf i).toNat)
  case atStart => exact ⟨0, by omega, rfl, hid (by simp)⟩
  case round =>
    obtain ⟨k, hk, rfl, HD⟩ := hrel
    by_cases hlt : k < n
    · obtain ⟨b, off, rfl, hbl, hc⟩ := HC.out (by omega)
      obtain ⟨c0, c1⟩ := iv_cells hc (k := k) (by rw [← HL.out]; exact hlt)
      have hd := hid (has_drop (s := s) (k := k) (x := x) (by rw [← HL.out]; exact hlt))
      generalize nth s k = y at *
      obtain ⟨y1, y2⟩ := y
      simp only at c0 c1 hd
      clear hc
      by_cases h1 : y1 ≤ x
      · by_cases h2 : x ≤ y2
        · have HR := hid (show hasB s x = true by rw [← HD.out, hd.out, decide_eq_true h1, decide_eq_true h2]; rfl)
          go_wp2_with fail
          go_ret
          exact ⟨ret_bool HR.out.symm, rfl⟩
        · have HR := hid (show hasB (s.drop (k + 1)) x = hasB s x by rw [← HD.out, hd.out, decide_eq_false h2]; simp)
          go_wp2_with fail
          go_round
          case rel => exact ⟨k + 1, by omega, by go_num, HR⟩
          case measure => simp [intOf]; omega
      · have HR := hid (show hasB (s.drop (k + 1)) x = hasB s x by rw [← HD.out, hd.out, decide_eq_false h1]; simp)
        go_wp2_with fail
        go_round
        case rel => exact ⟨k + 1, by omega, by go_num, HR⟩
        case measure => simp [intOf]; omega
    · have HR := hid (show hasB s x = false by rw [← HD.out, List.drop_eq_nil_of_le (by rw [← HL.out]; omega)]; rfl)
      go_wp2_with fail
      go_ret
      exact ⟨ret_bool HR.out.symm, rfl⟩
end Go.Proofs.YtmcoccfbbhnmfaaDoor.Iw
