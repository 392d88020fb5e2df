/-
  THE CONTRACTS OF THE REFERENCE's Intersect, Subtract, Size.
-/
import Derived.Test.YtmcoccfbbhnmfaaDoorIvlJ
import Derived.Deep.RegionHeld3
namespace Go.Proofs.YtmcoccfbbhnmfaaDoor.Iw
set_option linter.unusedSimpArgs false
set_option linter.unusedVariables false
open Go.RowKit Sm Ip Im Kt

set_option maxHeartbeats 4000000 in
set_option maxRecDepth 100000 in
theorem refIntersect (v1 v2 : Value) (a b : List Iv) (w : World) (ha : IsIv w v1 a) (hb : IsIv w v2 b) (ba : Bd 4294967296 a) (bb : Bd 4294967296 b) (la : a.length ≤ 100000) (lb : b.length ≤ 100000) :
    Calls Tryd.prog 25 #[v1, v2] w (IvPost (inter a b) w) := by
  obtain ⟨i0, hi, hz0, hz1, hz2⟩ := info_parts ivInfo
  have hcl : (cross a b).length ≤ 10000000000 := by
    have := cross_len b a
    have : a.length * b.length ≤ 100000 * 100000 := Nat.mul_le_mul la lb
    omega
  have HCL := hid hcl
  have HCB := hid (cross_bd bb ba)
  have BA := hid ba
  have BB := hid bb
  obtain ⟨n, hn⟩ : ∃ n, n = a.length := ⟨_, rfl⟩
  obtain ⟨m, hm⟩ : ∃ m, m = b.length := ⟨_, rfl⟩
  have ha' := iv_n ha hn
  have hb' := iv_n hb hm
  obtain ⟨a1, cap1, rfl, X⟩ := rows_open ha'
  obtain ⟨a2, cap2, rfl, Y⟩ := rows_open hb'
  rw [← hn] at la
  rw [← hm] at lb
  have HX := hid X
  have HY := hid Y
  have HN := hid hn
  have HM := hid hm
  clear ha hb ha' hb' ba bb X Y hn hm hcl
  go_enter Tryd.func25, Tryd.ntmps25
  go_wp2_with fail
  go_loopg [5, 6] n (fun gg u i wr => ∃ k : Nat, k + gg = n ∧ i = .int .i64 k ∧ Hid (∃ acc, acc ++ cross (a.drop k) b = cross a b ∧ wr.ownsRow w.heap.size 45 2 u acc.length (iv2 acc) ∧ Below w.heap.size w wr ∧ w.heap.size ≤ wr.heap.size))
  case atStart => exact ⟨0, by omega, rfl, hid ⟨[], rfl, World.ownsRow_nil _ _ _ _, Below.refl _ _, Nat.le_refl _⟩⟩
  case round =>
    obtain ⟨k, hk, rfl, HR⟩ := hrel
    obtain ⟨acc, hacc, hown, hbel, hsz⟩ := HR.out
    have HA := hid hacc
    clear hacc HR
    cases gk with
    | zero =>
      have hlt : ¬ ((k : Int) < (n : Int)) := by omega
      have hE := (show acc = cross a b by rw [← HA.out, List.drop_eq_nil_of_le (by rw [← HN.out]; omega)]; simp [cross])
      subst hE
      have R4 := hid (rows_own hown)
      clear hown
      go_wp2_with fail
      refine (refNormalize _ (cross a b) _ R4.out HCB.out HCL.out).mono ?_
      rintro e w5 ⟨v5, rfl, r5, b5⟩
      have R5 := hid r5
      clear r5
      go_wp2_with fail
      go_ret
      exact ⟨_, rfl, by rw [← cross_norm]; exact R5.out, then_ hbel (b5.mono (Nat.le_refl _))⟩
    | succ g1 =>
      have hlt : k < n := by omega
      have hk' : k < a.length := by rw [← HN.out]; exact hlt
      obtain ⟨p1, o1, rfl, hp1, hc⟩ := HX.out (by omega)
      obtain ⟨c0, c1⟩ := iv_cells hc hk'
      have hx := BA.out _ (nth_mem hk')
      have HCr := hid (cross_drop (b := b) hk')
      obtain ⟨x, hxe⟩ : ∃ x, x = nth a k := ⟨_, rfl⟩
      rw [← hxe] at c0 c1 hx HCr
      clear hxe hk' hc
      have CC := hid (And.intro c0 c1)
      clear c0 c1
      have HA2 := hid (HA.out.symm.trans (congrArg (acc ++ ·) HCr.out))
      clear HA HCr
      go_wp2_with fail
      go_loopg [5, 7] m (fun gg u i wr2 => ∃ j : Nat, j + gg = m ∧ i = .int .i64 j ∧ Hid (∃ acc, acc ++ (rowP x (b.drop j) ++ cross (a.drop (k + 1)) b) = cross a b ∧ wr2.ownsRow w.heap.size 45 2 u acc.length (iv2 acc) ∧ Below w.heap.size w wr2 ∧ w.heap.size ≤ wr2.heap.size))
      case atStart => exact ⟨0, by omega, rfl, hid ⟨acc, HA2.out.symm, hown, hbel, hsz⟩⟩
      case round =>
        clear HA2 hown hbel hsz acc
        obtain ⟨j, hj, rfl, HR⟩ := hrel
        obtain ⟨acc, hacc, hown, hbel, hsz⟩ := HR.out
        have hal : acc.length ≤ 10000000000 := by
          have := congrArg List.length hacc
          rw [List.length_append] at this
          have := HCL.out; omega
        have HA := hid hacc
        clear hacc HR
        cases gk with
        | zero =>
          have hlt2 : ¬ ((j : Int) < (m : Int)) := by omega
          have HE := hid (show acc ++ cross (a.drop (k + 1)) b = cross a b by rw [← HA.out, show b.drop j = [] from List.drop_eq_nil_of_le (by rw [← HM.out]; omega)]; rfl)
          go_wp2_with fail
          go_roundg g1
          case measure => omega
          case rel => exact ⟨k + 1, by omega, by go_num, hid ⟨acc, HE.out, hown, hbel, hsz⟩⟩
        | succ g2 =>
          have hlt2 : j < m := by omega
          have hj' : j < b.length := by rw [← HM.out]; exact hlt2
          obtain ⟨p2, o2, rfl, hp2, hd⟩ := HY.out (by omega)
          obtain ⟨d0, d1⟩ := iv_cells hd hj'
          have hy := BB.out _ (nth_mem hj')
          have HCr := hid (rowP_drop (x := x) hj')
          obtain ⟨y, hye⟩ : ∃ y, y = nth b j := ⟨_, rfl⟩
          rw [← hye] at d0 d1 hy HCr
          clear hye hj' hd
          have DD := hid (And.intro d0 d1)
          have HA2 : Hid ((acc ++ pair x y) ++ (rowP x (b.drop (j + 1)) ++ cross (a.drop (k + 1)) b) = cross a b) := hid (by rw [← HA.out, HCr.out]; simp [List.append_assoc])
          clear HA HCr
          have c0 := (hbel.cell (p := ⟨p1, o1 + k * 2, none⟩) hp1).trans CC.out.1
          have c1 := (hbel.cell (p := ⟨p1, o1 + k * 2 + 1, none⟩) hp1).trans CC.out.2
          have d0 := (hbel.cell (p := ⟨p2, o2 + j * 2, none⟩) hp2).trans d0
          have d1 := (hbel.cell (p := ⟨p2, o2 + j * 2 + 1, none⟩) hp2).trans d1
          by_cases h1 : x.1 ≤ x.2
          · by_cases h2 : y.1 ≤ y.2
            · have HP := hid (show pair x y = [(max x.1 y.1, min x.2 y.2)] by unfold pair; rw [if_pos ⟨h1, h2⟩])
              have q1 : decide (x.1 ≤ x.2) = true := decide_eq_true h1
              have q2 : decide (y.1 ≤ y.2) = true := decide_eq_true h2
              clear h1 h2
              go_wp2_with fail
              go_quiet (fail)
              go_upto_region 9 with fail
              have b3 := drewN_below w.heap.size wr nq
              have own3 := own_below hown (drewN_below wr.heap.size wr nq) (Nat.le_refl _)
              have b3 := hbel.trans b3
              have s3 := b3.size
              have c0 : (wr.drewN nq).cell? ⟨p1, o1 + k * 2, none⟩ = some (.int .u32 (x.1 : Int)) := c0
              have c1 : (wr.drewN nq).cell? ⟨p1, o1 + k * 2 + 1, none⟩ = some (.int .u32 (x.2 : Int)) := c1
              have d0 : (wr.drewN nq).cell? ⟨p2, o2 + j * 2, none⟩ = some (.int .u32 (y.1 : Int)) := d0
              have d1 : (wr.drewN nq).cell? ⟨p2, o2 + j * 2 + 1, none⟩ = some (.int .u32 (y.2 : Int)) := d1
              generalize wr.drewN nq = w3 at *
              clear hown hbel hsz
              have C0 : ∀ v, Below w.heap.size w v → v.cell? ⟨p1, o1 + k * 2, none⟩ = some (.int .u32 (x.1 : Int)) := fun v hv => (hv.cell (p := ⟨p1, o1 + k * 2, none⟩) hp1).trans CC.out.1
              have C1 : ∀ v, Below w.heap.size w v → v.cell? ⟨p1, o1 + k * 2 + 1, none⟩ = some (.int .u32 (x.2 : Int)) := fun v hv => (hv.cell (p := ⟨p1, o1 + k * 2 + 1, none⟩) hp1).trans CC.out.2
              have D0 : ∀ v, Below w.heap.size w v → v.cell? ⟨p2, o2 + j * 2, none⟩ = some (.int .u32 (y.1 : Int)) := fun v hv => (hv.cell (p := ⟨p2, o2 + j * 2, none⟩) hp2).trans DD.out.1
              have D1 : ∀ v, Below w.heap.size w v → v.cell? ⟨p2, o2 + j * 2 + 1, none⟩ = some (.int .u32 (y.2 : Int)) := fun v hv => (hv.cell (p := ⟨p2, o2 + j * 2 + 1, none⟩) hp2).trans DD.out.2
              have n1 : (0 : Int) ≤ (k : Int) := by omega
              have n2 : (0 : Int) ≤ (j : Int) := by omega
              have n3 : (k : Int) < (n : Int) := by omega
              have n4 : (j : Int) < (m : Int) := by omega
              clear c0 c1 d0 d1
              go_region_held3 (fun v => Below w.heap.size w v) ((first | assumption | go_grown)) ((refine step1 (by rfl) _ _ _ (by rfl) 45 i0 _ 8 Tryd.underlying22 hi hz0 hz1 hz2 (by rfl) (by decide) w.heap.size w w3 _ u5 acc.length (iv2 acc) [.int .u32 (max (x.1 : Int) (y.1 : Int)), .int .u32 (min (x.2 : Int) (y.2 : Int))] (by rfl) own3 b3 s3 (by rfl) (by rfl) (by rfl) (by simp [Value.oneCell']) hal ?_; intro v5 w5 own5 bel5 hs5))
              all_goals
                clear C0 C1 D0 D1 own3 b3 s3
                go_wp2_with fail
                go_roundg g2
                case measure => omega
                case rel => exact ⟨j + 1, by omega, by go_num, hid ⟨acc ++ pair x y, HA2.out, by rw [HP.out, List.length_append, iv2_append, show iv2 [(max x.1 y.1, min x.2 y.2)] = [.int .u32 (max (x.1 : Int) (y.1 : Int)), .int .u32 (min (x.2 : Int) (y.2 : Int))] by simp [iv2]; omega]; exact own5, bel5, hs5⟩⟩
            · have HP := hid (show acc ++ pair x y = acc by unfold pair; rw [if_neg (fun h => h2 h.2), List.append_nil])
              have q1 : decide (x.1 ≤ x.2) = true := decide_eq_true h1
              have q2 : decide (y.1 ≤ y.2) = false := decide_eq_false h2
              clear h1 h2
              go_wp2_with fail
              go_quiet (fail)
              go_wp2_with fail
              go_roundg g2
              case measure => omega
              case rel => exact ⟨j + 1, by omega, by go_num, hid ⟨acc, by have := HA2.out; rwa [HP.out] at this, own_below hown (drewN_below wr.heap.size wr nq) (Nat.le_refl _), hbel.trans (drewN_below _ _ _), hsz⟩⟩
          · have HP := hid (show acc ++ pair x y = acc by unfold pair; rw [if_neg (fun h => h1 h.1), List.append_nil])
            have q1 : decide (x.1 ≤ x.2) = false := decide_eq_false h1
            clear h1
            go_wp2_with fail
            go_quiet (fail)
            go_wp2_with fail
            go_roundg g2
            case measure => omega
            case rel => exact ⟨j + 1, by omega, by go_num, hid ⟨acc, by have := HA2.out; rwa [HP.out] at this, own_below hown (drewN_below wr.heap.size wr nq) (Nat.le_refl _), hbel.trans (drewN_below _ _ _), hsz⟩⟩
end Go.Proofs.YtmcoccfbbhnmfaaDoor.Iw
