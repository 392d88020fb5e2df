/-
  THE CONTRACTS OF THE REFERENCE's Subtract, Size.
-/
import Derived.Test.YtmcoccfbbhnmfaaDoorIvlK
namespace Go.Proofs.YtmcoccfbbhnmfaaDoor.Iw
set_option linter.unusedSimpArgs false
set_option linter.unusedVariables false
open Go.RowKit Sm Ip Im Kt

set_option maxHeartbeats 1000000 in
theorem refSubtract (v1 v2 : Value) (a b : List Iv) (w : World) (ha : IsIv w v1 a) (hb : IsIv w v2 b) (ba : Bd 4294967296 a) (bb : Bd 4294967296 b) (la : a.length ≤ 90000) (lb : b.length ≤ 90000) :
    Calls Tryd.prog 26 #[v1, v2] w (IvPost (subt a b) w) := by
  have H := hid (And.intro ha hb)
  have HB := hid (And.intro ba bb)
  have HL := hid (And.intro la lb)
  clear ha hb ba bb la lb
  go_enter Tryd.func26, Tryd.ntmps26
  go_wp2_with fail
  refine (refComplement v2 b _ H.out.2 HB.out.2 (by have := HL.out; omega)).mono ?_
  rintro e w1 ⟨u1, rfl, r1, b1⟩
  have R1 := hid r1
  clear r1
  go_wp2_with fail
  refine (refIntersect v1 u1 a (compl 4294967296 b) _ (rows_keep H.out.1 b1) R1.out HB.out.1 (compl_bd HB.out.2) (by have := HL.out; omega) (by have := compl_len 4294967296 b; have := HL.out; omega)).mono ?_
  rintro e w2 ⟨u2, rfl, r2, b2⟩
  have R2 := hid r2
  clear r2
  go_wp2_with fail
  go_ret
  exact ⟨_, rfl, by rw [← subt_ref HB.out.1 HB.out.2]; exact R2.out, then_ b1 b2⟩

set_option maxHeartbeats 4000000 in
set_option maxRecDepth 100000 in
theorem refSize (v : Value) (a : List Iv) (w : World) (ha : IsIv w v a) (ba : Bd 4294967296 a) (la : a.length ≤ 10000000000) :
    Calls Tryd.prog 29 #[v] w fun e w' => e = .returned (.int .u64 (sizeV a : Nat)) ∧ Below w.heap.size w w' := by
  have C := refNormalize v a w ha ba la
  have hnb := norm_bd ba
  have hnl := norm_len a
  have hsz := sizeV_le ba
  clear ha
  obtain ⟨s, hs⟩ : ∃ s, s = norm a := ⟨_, rfl⟩
  have hgoal : sizeV a = sizeL s := by rw [hs]; rfl
  have hcan : Ip.Can 0 s := by rw [hs]; exact (norm_can a).1
  rw [hgoal] at hsz ⊢
  rw [← hs] at C hnb hnl
  have HCan := hid hcan
  clear hgoal hs ba hcan
  go_enter Tryd.func29, Tryd.ntmps29
  go_wp2_with fail
  refine C.mono ?_
  rintro e w1 ⟨v1, rfl, r1, b1⟩
  clear C
  obtain ⟨n, hn⟩ : ∃ n, n = s.length := ⟨_, rfl⟩
  have r1' := iv_n r1 hn
  obtain ⟨p1, cap, rfl, hcell⟩ := rows_open r1'
  rw [← hn] at hnl
  have hln : n ≤ 10000000000 := by omega
  have HL := hid hn
  have HC := hid hcell
  have HB := hid hnb
  have HS := hid hsz
  clear r1 r1' hcell hn hnb hnl hsz
  go_wp2_with fail
  go_loopg [4, 5] n (fun gg u i wr => ∃ k p q : Nat, k + gg = n ∧ i = .int .i64 k ∧ u = .int .u64 p ∧ p + sizeL (s.drop k) = sizeL s ∧ wr = w1.drewN q)
  case atStart => exact ⟨0, 0, 0, by omega, rfl, rfl, by simp, rfl⟩
  case round =>
    obtain ⟨k, p, q0, hk, rfl, rfl, hp, rfl⟩ := hrel
    have hpb : p ≤ 4294967296 := by have := HS.out; omega
    have HP := hid hp
    clear hp
    cases gk with
    | zero =>
      have hlt : ¬ ((k : Int) < (n : Int)) := by omega
      have HR := hid (show p = sizeL s by have := HP.out; rw [List.drop_eq_nil_of_le (by rw [← HL.out]; omega)] at this; exact this)
      go_wp2_with fail
      go_ret
      exact ⟨ret_int (by rw [HR.out]), b1.trans (drewN_below _ _ _)⟩
    | succ g1 =>
      have hlt : k < n := by omega
      have hk' : k < s.length := by rw [← HL.out]; exact hlt
      obtain ⟨b, off, rfl, hbl, hc⟩ := HC.out (by omega)
      obtain ⟨c0, c1⟩ := iv_cells hc (by rw [← HL.out]; exact hlt)
      have hx := HB.out _ (nth_mem (k := k) hk')
      have hle := (can_mem HCan.out (nth_mem (k := k) hk')).2
      have hd := size_drop hk'
      clear hc
      obtain ⟨x, hxe⟩ : ∃ x, x = nth s k := ⟨_, rfl⟩
      rw [← hxe] at c0 c1 hx hd hle
      clear hxe hk'
      have HQ := hid (show (p + (x.2 + 1 - x.1)) + sizeL (s.drop (k + 1)) = sizeL s by have := HP.out; omega)
      clear hd HP
      have w1' : IntKind.u64.wrap ((p : Int) + (x.2 : Int)) = (p : Int) + (x.2 : Int) := IntWalk.u64_in _ (by omega)
      have w2' : IntKind.u64.wrap ((p : Int) + (x.2 : Int) - (x.1 : Int)) = (p : Int) + (x.2 : Int) - (x.1 : Int) := IntWalk.u64_in _ (by omega)
      have w3' : IntKind.u64.wrap ((p : Int) + (x.2 : Int) - (x.1 : Int) + 1) = (p : Int) + (x.2 : Int) - (x.1 : Int) + 1 := IntWalk.u64_in _ (by omega)
      have HW := hid (show (p : Int) + (x.2 : Int) - (x.1 : Int) + 1 = ((p + (x.2 + 1 - x.1) : Nat) : Int) by omega)
      go_wp2_with fail
      go_quiet (fail)
      clear w1' w2' w3'
      go_wp2_with fail
      go_roundg g1
      case measure => omega
      case rel => exact ⟨k + 1, p + (x.2 + 1 - x.1), _, by omega, by go_num, by rw [HW.out], HQ.out, rfl⟩
end Go.Proofs.YtmcoccfbbhnmfaaDoor.Iw
