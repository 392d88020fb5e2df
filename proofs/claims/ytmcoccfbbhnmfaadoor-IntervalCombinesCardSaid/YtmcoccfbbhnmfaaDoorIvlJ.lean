/-
  THE CONTRACTS OF THE REFERENCE's Union, Intersect, Complement, Subtract, Size.
-/
import Derived.Test.YtmcoccfbbhnmfaaDoorIvlC
import Derived.Test.YtmcoccfbbhnmfaaDoorIvlR
import Derived.StillTailTactics
import Derived.Deep.DeepCutAuto
namespace Go.Proofs.YtmcoccfbbhnmfaaDoor.Iw
set_option linter.unusedSimpArgs false
set_option linter.unusedVariables false
open Go.RowKit Sm Ip Im Kt

set_option maxHeartbeats 4000000 in
set_option maxRecDepth 100000 in
theorem refUnion (v1 v2 : Value) (a b : List Iv) (w : World) (ha : IsIv w v1 a) (hb : IsIv w v2 b) (ba : Bd 4294967296 a) (bb : Bd 4294967296 b) (la : a.length ≤ 5000000000) (lb : b.length ≤ 5000000000) :
    Calls Tryd.prog 24 #[v1, v2] w (IvPost (norm (a ++ b)) w) := by
  obtain ⟨i0, hi, hz0, hz1, hz2⟩ := info_parts ivInfo
  have HA := hid ha
  have HB := hid hb
  have BD := hid (bd_append.2 ⟨ba, bb⟩)
  have HLen := hid (show (a ++ b).length ≤ 10000000000 by rw [List.length_append]; omega)
  have own0 : (w.alloc (.cells #[] 45)).ownsRow w.heap.size 45 2 (.slice (some ⟨w.heap.size, 0, none⟩) 0 0) 0 [] := World.ownsRow_made w #[] 0 (Nat.le_refl _) (Nat.zero_le _) (by simp)
  have bel0 := al1 w (.cells #[] 45)
  have s0 := bel0.size
  have r1 := hid (rows_keep ha bel0)
  have la' : a.length ≤ 10000000000 := by omega
  have lb' : b.length ≤ 10000000000 := by omega
  clear ha hb ba bb
  go_enter Tryd.func24, Tryd.ntmps24
  go_wp2_with (first | (at_builtin; refine app2 rfl _ _ _ rfl 45 i0 _ 8 Tryd.underlying22 hi hz0 hz1 hz2 rfl (by decide) w.heap.size _ (.slice (some ⟨w.heap.size, 0, none⟩) 0 0) v1 0 a.length [] (iv2 a) rfl own0 s0 rfl r1.out (iv2_one a) (by omega) la' ?_; intro v3 w3 own3 bel3) | (at_builtin; refine app2 rfl _ _ _ rfl 45 i0 _ 8 Tryd.underlying22 hi hz0 hz1 hz2 rfl (by decide) w.heap.size w3 v3 v2 (0 + a.length) b.length ([] ++ iv2 a) (iv2 b) rfl own3 (bel0.trans bel3).size rfl (rows_keep HB.out (bel0.trans bel3)) (iv2_one b) (by omega) lb' ?_; intro v4 w4 own4 bel4))
  have R4 : Hid (IsIv w4 v4 (a ++ b)) := hid (by
    have := rows_own own4
    rw [List.nil_append, ← iv2_append] at this
    exact n_iv this (by rw [List.length_append, Nat.zero_add]))
  have B4 := (bel0.trans bel3).trans bel4
  clear own0 own3 own4 bel0 bel3 bel4 s0
  refine (refNormalize v4 (a ++ b) _ R4.out BD.out HLen.out).mono ?_
  rintro e w5 ⟨v5, rfl, r5, b5⟩
  have R5 := hid r5
  clear r5
  go_wp2_with fail
  go_ret
  exact ⟨_, rfl, R5.out, then_ B4 b5⟩

set_option maxHeartbeats 4000000 in
set_option maxRecDepth 100000 in
theorem refComplement (v : Value) (a : List Iv) (w : World) (ha : IsIv w v a) (ba : Bd 4294967296 a) (la : a.length ≤ 5000000000) :
    Calls Tryd.prog 27 #[v] w (IvPost (compl 4294967296 a) w) := by
  obtain ⟨i0, hi, hz0, hz1, hz2⟩ := info_parts ivInfo
  have C := refNormalize v a w ha ba (by omega)
  have hnb := norm_bd ba
  have hnl := norm_len a
  clear ha
  obtain ⟨s, hs⟩ : ∃ s, s = norm a := ⟨_, rfl⟩
  have hgoal : compl 4294967296 a = cmpl 4294967296 0 s := by rw [hs]; rfl
  rw [hgoal]
  rw [← hs] at C hnb hnl
  clear hgoal hs ba
  go_enter Tryd.func27, Tryd.ntmps27
  go_wp2_with fail
  refine C.mono ?_
  rintro e w1 ⟨v1, rfl, r1, b1⟩
  clear C
  obtain ⟨N, hN⟩ : ∃ N, N = 4294967296 := ⟨_, rfl⟩
  have hg : cmpl 4294967296 0 s = cmpl N 0 s := by rw [hN]
  obtain ⟨n, hn⟩ : ∃ n, n = s.length := ⟨_, rfl⟩
  have r1' := iv_n r1 hn
  obtain ⟨p1, cap, rfl, hcell⟩ := rows_open r1'
  rw [← hn] at hnl
  have hln : n ≤ 5000000000 := by omega
  have HL := hid hn
  have HC := hid hcell
  have HB := hid hnb
  have HN := hid hN
  have HG := hid hg
  clear r1 r1' hcell hn hnb hN hg hnl
  go_wp2_with fail
  go_loopg [4, 5, 6] n (fun gg u pv i wr => ∃ k p : Nat, k + gg = n ∧ i = .int .i64 k ∧ pv = .int .u64 p ∧ p ≤ 4294967296 ∧ Hid (∃ acc, acc ++ cmpl N p (s.drop k) = cmpl N 0 s ∧ acc.length ≤ k ∧ wr.ownsRow w1.heap.size 45 2 u acc.length (iv2 acc) ∧ Below w1.heap.size w1 wr ∧ w1.heap.size ≤ wr.heap.size))
  case atStart => exact ⟨0, 0, by omega, rfl, rfl, by omega, hid ⟨[], rfl, Nat.le_refl _, World.ownsRow_nil _ _ _ _, Below.refl _ _, Nat.le_refl _⟩⟩
  case round =>
    obtain ⟨k, p, hk, rfl, rfl, hp, HR⟩ := hrel
    obtain ⟨acc, hacc, hal, hown, hbel, hsz⟩ := HR.out
    have HA := hid hacc
    clear hacc HR
    cases gk with
    | zero =>
      have hlt : ¬ ((k : Int) < (n : Int)) := by omega
      have hkn : s.length ≤ k := by rw [← HL.out]; omega
      by_cases hpn : p < 4294967296
      · have HR := hid (show acc ++ [(p, N - 1)] = cmpl 4294967296 0 s by rw [HG.out, ← HA.out, cmpl_end hkn (by rw [HN.out]; exact hpn)])
        clear hkn
        have q1 : decide ((p : Int) < 4294967296) = true := decide_eq_true (by omega)
        go_wp2_with (at_builtin; refine app1 rfl _ _ _ rfl 45 i0 _ 8 Tryd.underlying22 hi hz0 hz1 hz2 rfl (by decide) w1.heap.size w1 wr u4 acc.length (iv2 acc) [.int .u32 (p : Int), .int .u32 4294967295] rfl hown hbel hsz rfl rfl (by simp [Value.oneCell']) (by omega) ?_; intro v5 w5 own5 bel5 hs5)
        go_ret
        refine ⟨_, rfl, ?_, then_ b1 bel5⟩
        rw [← HR.out, HN.out]
        refine n_iv (n := acc.length + 1) ?_ (by simp)
        rw [iv2_append]
        exact rows_own own5
      · have HR := hid (show acc = cmpl 4294967296 0 s by rw [HG.out, ← HA.out, cmpl_full hkn (by rw [HN.out]; exact hpn), List.append_nil])
        clear hkn
        have q1 : decide ((p : Int) < 4294967296) = false := decide_eq_false (by omega)
        go_wp2_with fail
        go_ret
        exact ⟨_, rfl, by rw [← HR.out]; exact rows_own hown, then_ b1 hbel⟩
    | succ g1 =>
      have hlt : k < n := by omega
      have hk' : k < s.length := by rw [← HL.out]; exact hlt
      obtain ⟨b, off, rfl, hbl, hc⟩ := HC.out (by omega)
      obtain ⟨e0, e1⟩ := iv_cells hc (by rw [← HL.out]; exact hlt)
      have hx := HB.out _ (nth_mem (k := k) hk')
      have c0 := (hbel.cell (p := ⟨b, off + k * 2, none⟩) hbl).trans e0
      have c1 := (hbel.cell (p := ⟨b, off + k * 2 + 1, none⟩) hbl).trans e1
      have HG1 := hid (fun h => HA.out.symm.trans (congrArg (acc ++ ·) (cmpl_gap hk' h)))
      have HG2 := hid (fun h => HA.out.symm.trans (congrArg (acc ++ ·) (cmpl_join hk' h)))
      have HE := hid e1
      clear hc e0 e1
      obtain ⟨x, hxe⟩ : ∃ x, x = nth s k := ⟨_, rfl⟩
      rw [← hxe] at c0 c1 hx HG1 HG2 HE
      clear hxe hk' HA
      by_cases hpx : p < x.1
      · have HR := hid (HG1.out hpx)
        have q1 : decide (p < x.1) = true := decide_eq_true hpx
        have q2 : (1 : Int) ≤ (x.1 : Int) := by omega
        clear HG1 HG2
        go_upto_region 9 with (at_builtin; refine app1 rfl _ _ _ rfl 45 i0 _ 8 Tryd.underlying22 hi hz0 hz1 hz2 rfl (by decide) w1.heap.size w1 wr u4 acc.length (iv2 acc) [.int .u32 (p : Int), .int .u32 ((x.1 : Int) - 1)] rfl hown hbel hsz rfl rfl (by simp [Value.oneCell']) (by omega) ?_; intro v5 w5 own5 bel5 hs5)
        have c1' := (bel5.cell (p := ⟨b, off + k * 2 + 1, none⟩) hbl).trans HE.out
        clear hown hbel hsz c0 c1
        go_wp2_with fail
        go_roundg g1
        case measure => omega
        case rel => exact ⟨k + 1, x.2 + 1, by omega, by go_num, by go_num, by omega, hid ⟨acc ++ [(p, x.1 - 1)], by have := HR.out.symm; rwa [← List.append_assoc] at this, by simp; omega, by rw [List.length_append, iv2_append, show iv2 [(p, x.1 - 1)] = [.int .u32 (p : Int), .int .u32 ((x.1 : Int) - 1)] by simp [iv2]; omega]; exact own5, bel5, hs5⟩⟩
      · have HR := hid (HG2.out hpx)
        have q1 : decide (p < x.1) = false := decide_eq_false hpx
        clear HG1 HG2
        go_wp2_with fail
        go_roundg g1
        case measure => omega
        case rel => exact ⟨k + 1, x.2 + 1, by omega, by go_num, by go_num, by omega, hid ⟨acc, HR.out.symm, by omega, hown, hbel, hsz⟩⟩
end Go.Proofs.YtmcoccfbbhnmfaaDoor.Iw
