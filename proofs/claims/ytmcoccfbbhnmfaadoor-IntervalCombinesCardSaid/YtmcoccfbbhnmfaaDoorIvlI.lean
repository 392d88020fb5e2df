/-
  THE CONTRACTS OF interval's Subtract, Size, AND OF netverifykeep.Intervals AND Prefixes AT EQUAL LISTS.
-/
import Derived.Test.YtmcoccfbbhnmfaaDoorIvlH
import Derived.Test.YtmcoccfbbhnmfaaDoorIvlE
import Derived.Laws.StructEq
import Derived.WalkSmall
namespace Go.Proofs.YtmcoccfbbhnmfaaDoor.Iw
set_option linter.unusedSimpArgs false
set_option linter.unusedVariables false
open Go.RowKit Sm Ip Im Kt

set_option maxHeartbeats 1000000 in
theorem subtract (v1 v2 : Value) (a b : List Iv) (w : World) (ha : IsIv w v1 a) (hb : IsIv w v2 b) (ba : Bd 4294967296 a) (bb : Bd 4294967296 b) (la : a.length ≤ 4000000000) (lb : b.length ≤ 4000000000) :
    Calls Tryd.prog 22 #[v1, v2] w (IvPost (subt a b) w) := by
  have H := hid (And.intro ha hb)
  have HB := hid (And.intro ba bb)
  have HL := hid (And.intro la lb)
  clear ha hb ba bb la lb
  go_enter Tryd.func22, Tryd.ntmps22
  go_wp2_with fail
  refine (normalize v1 a _ H.out.1 HB.out.1 (by have := HL.out; omega)).mono ?_
  rintro e w1 ⟨u1, rfl, r1, b1⟩
  have R1 := hid r1
  clear r1
  go_wp2_with fail
  refine (complement v2 b _ (rows_keep H.out.2 b1) HB.out.2 (by have := HL.out; omega)).mono ?_
  rintro e w2 ⟨u2, rfl, r2, b2⟩
  have R2 := hid r2
  clear r2
  go_wp2_with fail
  refine (common u1 u2 (norm a) (compl 4294967296 b) _ (rows_keep R1.out b2) R2.out (norm_bd HB.out.1) (compl_bd HB.out.2) (by have := norm_len a; have := HL.out; omega) (by have := compl_len 4294967296 b; have := HL.out; omega)).mono ?_
  rintro e w3 ⟨u3, rfl, r3, b3⟩
  have R3 := hid r3
  clear r3
  go_wp2_with fail
  go_ret
  exact ⟨_, rfl, R3.out, then_ (then_ b1 b2) b3⟩

set_option maxHeartbeats 4000000 in
set_option maxRecDepth 100000 in
theorem size (v : Value) (a : List Iv) (w : World) (ha : IsIv w v a) (ba : Bd 4294967296 a) (la : a.length ≤ 10000000000) :
    Calls Tryd.prog 28 #[v] w fun e w' => e = .returned (.int .u64 (sizeV a : Nat)) ∧ Below w.heap.size w w' := by
  have C := normalize v a w ha ba la
  have hnb := norm_bd ba
  have hnl := norm_len a
  have hsz := sizeV_le ba
  clear ha
  obtain ⟨s, hs⟩ : ∃ s, s = norm a := ⟨_, rfl⟩
  have hgoal : sizeV a = sizeL s := by rw [hs]; rfl
  have hcan : Ip.Can 0 s := by rw [hs]; exact (norm_can a).1
  rw [hgoal] at hsz ⊢
  rw [← hs] at C hnb hnl
  have HCan := hid hcan
  clear hgoal hs ba hcan
  go_enter Tryd.func28, Tryd.ntmps28
  go_wp2_with fail
  refine C.mono ?_
  rintro e w1 ⟨v1, rfl, r1, b1⟩
  clear C
  obtain ⟨n, hn⟩ : ∃ n, n = s.length := ⟨_, rfl⟩
  have r1' := iv_n r1 hn
  obtain ⟨p1, cap, rfl, hcell⟩ := rows_open r1'
  rw [← hn] at hnl
  have hln : n ≤ 10000000000 := by omega
  have HL := hid hn
  have HC := hid hcell
  have HB := hid hnb
  have HS := hid hsz
  clear r1 r1' hcell hn hnb hnl hsz
  go_wp2_with fail
  go_loopg [3, 9] n (fun gg u i wr => ∃ k p : Nat, k + gg = n ∧ i = .int .i64 k ∧ u = .int .u64 p ∧ p + sizeL (s.drop k) = sizeL s ∧ Below w1.heap.size w1 wr ∧ w1.heap.size ≤ wr.heap.size)
  case atStart => exact ⟨0, 0, by omega, rfl, rfl, by simp, Below.refl _ _, Nat.le_refl _⟩
  case round =>
    obtain ⟨k, p, hk, rfl, rfl, hp, hbel, hsz⟩ := hrel
    have hpb : p ≤ 4294967296 := by have := HS.out; omega
    have HP := hid hp
    clear hp
    cases gk with
    | zero =>
      have hlt : ¬ ((k : Int) < (n : Int)) := by omega
      have HR := hid (show p = sizeL s by have := HP.out; rw [List.drop_eq_nil_of_le (by rw [← HL.out]; omega)] at this; exact this)
      go_wp2_with fail
      go_ret
      exact ⟨ret_int (by rw [HR.out]), then_ b1 hbel⟩
    | succ g1 =>
      have hlt : k < n := by omega
      have hk' : k < s.length := by rw [← HL.out]; exact hlt
      obtain ⟨b, off, rfl, hbl, hc⟩ := HC.out (by omega)
      obtain ⟨c0, c1⟩ := iv_cells hc (by rw [← HL.out]; exact hlt)
      have hx := HB.out _ (nth_mem (k := k) hk')
      have hle := (can_mem HCan.out (nth_mem (k := k) hk')).2
      have c0 := (hbel.cell (p := ⟨b, off + k * 2, none⟩) hbl).trans c0
      have c1 := (hbel.cell (p := ⟨b, off + k * 2 + 1, none⟩) hbl).trans c1
      have hd := size_drop hk'
      clear hc
      obtain ⟨x, hxe⟩ : ∃ x, x = nth s k := ⟨_, rfl⟩
      rw [← hxe] at c0 c1 hx hd hle
      clear hxe hk'
      have HQ := hid (show (p + (x.2 + 1 - x.1)) + sizeL (s.drop (k + 1)) = sizeL s by have := HP.out; omega)
      have hE := fun wx => after x wx hx.2
      obtain ⟨q, hq⟩ : ∃ q, q = x.2 + 1 := ⟨_, rfl⟩
      have hq2 : q ≤ 4294967296 := by omega
      have hq3 : x.1 ≤ q := by omega
      rw [← hq] at hE HQ
      clear hq hd HP
      have w1' : IntKind.u64.wrap ((q : Int) - (x.1 : Int)) = (q : Int) - (x.1 : Int) := IntWalk.u64_in _ (by omega)
      have w2' : IntKind.u64.wrap ((p : Int) + ((q : Int) - (x.1 : Int))) = (p : Int) + ((q : Int) - (x.1 : Int)) := IntWalk.u64_in _ (by omega)
      have HW := hid (show (p : Int) + ((q : Int) - (x.1 : Int)) = ((p + (q - x.1) : Nat) : Int) by omega)
      go_upto_region 5 with fail
      have b3 : Below w1.heap.size w1 (wr.alloc (.cells #[.int .u32 (x.1 : Int), .int .u32 (x.2 : Int)] 45)) := hbel.alloc hsz _
      have h3 := heap_new wr (.cells #[.int .u32 (x.1 : Int), .int .u32 (x.2 : Int)] 45 (0, 0))
      have s3 := b3.size
      clear hbel c0 c1
      generalize wr.alloc (.cells #[.int .u32 (x.1 : Int), .int .u32 (x.2 : Int)] 45) = w3 at *
      have d0 := lat_0 h3
      have d1 := lat_1 h3
      refine wp_region_later w3.heap.size (by kernel_rfl) (by kernel_rfl) ?_
      repeat (go_big_quiet_step ((go_at_call 47; exact later_of (Nat.le_refl _) (hE _))))
      refine wpQuiet_nil ?_
      rintro _ ⟨u, rfl⟩
      have bel4 := u.h
      have b4 := b3.trans (bel4.mono s3)
      have s4 := b4.size
      clear w1' w2' d0 d1 h3 b3 s3 bel4 hE
      generalize u.w = w4 at *
      go_wp2_with fail
      go_roundg g1
      case measure => omega
      case rel => exact ⟨k + 1, p + (q - x.1), by omega, by go_num, by rw [HW.out], HQ.out, b4, s4⟩

/-! ### Equal lists -/
set_option maxHeartbeats 1000000 in
theorem keepIv (v1 v2 : Value) (s : List Iv) (w : World) (h1 : IsIv w v1 s) (h2 : IsIv w v2 s) (hs : s.length ≤ 10000000000) :
    Calls Tryd.prog 13 #[v1, v2] w (BoolPost true w) := by
  obtain ⟨n, hn⟩ : ∃ n, n = s.length := ⟨_, rfl⟩
  have h1 := iv_n h1 hn
  have h2 := iv_n h2 hn
  obtain ⟨p1, cap1, rfl, X⟩ := rows_open h1
  obtain ⟨p2, cap2, rfl, Y⟩ := rows_open h2
  rw [← hn] at hs
  have HL := hid hn
  have HX := hid X
  have HY := hid Y
  clear h1 h2 X Y hn
  go_enter Tryd.func13, Tryd.ntmps13
  go_wp2
  go_loopw [5] (fun i wr => ∃ k q : Nat, k ≤ n ∧ i = .int .i64 k ∧ wr = w.drewN q) (fun i _ => n - (intOf i).toNat)
  case atStart => exact ⟨0, 0, by omega, rfl, rfl⟩
  case round =>
    obtain ⟨k, q, hk, rfl, rfl⟩ := hrel
    by_cases hlt : k < n
    · obtain ⟨b1, o1, rfl, hb1, c⟩ := HX.out (by omega)
      obtain ⟨b2, o2, rfl, hb2, d⟩ := HY.out (by omega)
      obtain ⟨c0, c1⟩ := iv_cells c (k := k) (by rw [← HL.out]; exact hlt)
      obtain ⟨d0, d1⟩ := iv_cells d (k := k) (by rw [← HL.out]; exact hlt)
      generalize nth s k = x at *
      obtain ⟨x1, x2⟩ := x
      simp only at c0 c1 d0 d1
      clear c d
      go_wp2
      go_quiet (fail)
      go_wp2
      go_roundw
      case rel => exact ⟨k + 1, _, by omega, by go_num, rfl⟩
      case measure => simp [intOf]; omega
    · go_wp2
      go_ret
      exact ⟨rfl, drewN_below _ _ _⟩

set_option maxHeartbeats 1000000 in
theorem keepPx (v1 v2 : Value) (s : List Px) (w : World) (h1 : IsPx w v1 s) (h2 : IsPx w v2 s) (hs : s.length ≤ 10000000000) :
    Calls Tryd.prog 32 #[v1, v2] w (BoolPost true w) := by
  obtain ⟨n, hn⟩ : ∃ n, n = s.length := ⟨_, rfl⟩
  have h1 := px_n h1 hn
  have h2 := px_n h2 hn
  obtain ⟨p1, cap1, rfl, X⟩ := rows_open h1
  obtain ⟨p2, cap2, rfl, Y⟩ := rows_open h2
  rw [← hn] at hs
  have HL := hid hn
  have HX := hid X
  have HY := hid Y
  clear h1 h2 X Y hn
  go_enter Tryd.func32, Tryd.ntmps32
  go_wp2
  go_loopw [5] (fun i wr => ∃ k q : Nat, k ≤ n ∧ i = .int .i64 k ∧ wr = w.drewN q) (fun i _ => n - (intOf i).toNat)
  case atStart => exact ⟨0, 0, by omega, rfl, rfl⟩
  case round =>
    obtain ⟨k, q, hk, rfl, rfl⟩ := hrel
    by_cases hlt : k < n
    · obtain ⟨b1, o1, rfl, hb1, c⟩ := HX.out (by omega)
      obtain ⟨b2, o2, rfl, hb2, d⟩ := HY.out (by omega)
      obtain ⟨c0, c1⟩ := px_cells c (k := k) (by rw [← HL.out]; exact hlt)
      obtain ⟨d0, d1⟩ := px_cells d (k := k) (by rw [← HL.out]; exact hlt)
      generalize nth s k = x at *
      obtain ⟨x1, x2⟩ := x
      simp only at c0 c1 d0 d1
      clear c d
      go_wp2
      go_quiet (fail)
      go_wp2
      go_roundw
      case rel => exact ⟨k + 1, _, by omega, by go_num, rfl⟩
      case measure => simp [intOf]; omega
    · go_wp2
      go_ret
      exact ⟨rfl, drewN_below _ _ _⟩
end Go.Proofs.YtmcoccfbbhnmfaaDoor.Iw
