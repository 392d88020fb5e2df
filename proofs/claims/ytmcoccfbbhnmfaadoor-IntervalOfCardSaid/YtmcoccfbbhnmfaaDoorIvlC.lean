/-
  THE CONTRACT OF THE REFERENCE's Normalize.
-/
import Derived.Test.YtmcoccfbbhnmfaaDoorIvlB
namespace Go.Proofs.YtmcoccfbbhnmfaaDoor.Iw
set_option linter.unusedSimpArgs false
set_option linter.unusedVariables false
open Go.RowKit Sm Ip Im Kt

theorem val_eq {k : IntKind} {a b : Int} (h : a = b) : Value.int k a = Value.int k b := by rw [h]
def L3 (N : Nat) (s : List Iv) (best hi : Nat) (g : Bool) : Prop := HInv N s best hi ∧ (g = false → ∃ h0 k, s.length ≤ k ∧ GInv N s best h0 k hi false)
def RRel (N : Nat) (s : List Iv) (w : World) (v : Value) (next : Nat) (wr : World) : Prop :=
  ∃ acc, RInv N s acc next ∧ wr.ownsRow w.heap.size 45 2 v acc.length (iv2 acc) ∧ Below w.heap.size w wr ∧ w.heap.size ≤ wr.heap.size

set_option maxHeartbeats 4000000 in
set_option maxRecDepth 100000 in
theorem refNormalize (v : Value) (s : List Iv) (w : World) (h : IsIv w v s) (hb : Bd 4294967296 s) (hs : s.length ≤ 10000000000) :
    Calls Tryd.prog 14 #[v] w (IvPost (norm s) w) := by
  obtain ⟨i0, hi, hz0, hz1, hz2⟩ := info_parts ivInfo
  obtain ⟨N, hN⟩ : ∃ N, N = 4294967296 := ⟨_, rfl⟩
  rw [← hN] at hb
  have HN := hid hN
  clear hN
  obtain ⟨a, cap, rfl, hcell⟩ := rows_open h
  have HB := hid hb
  obtain ⟨n, hn⟩ : ∃ n, n = s.length := ⟨_, rfl⟩
  rw [← hn] at hcell hs ⊢
  have HL := hid hn
  have HC := hid hcell
  clear h hb hcell hn
  go_enter Tryd.func14, Tryd.ntmps14
  go_wp2_with fail
  go_loopg [3, 4] (N + 1) (fun gg v u wr => ∃ next : Nat, N < next + gg ∧ u = .int .u64 next ∧ RRel N s w v next wr)
  case atStart => exact ⟨0, by omega, rfl, [], rinv_start N s, World.ownsRow_nil _ _ _ _, Below.refl _ _, Nat.le_refl _⟩
  case round =>
    obtain ⟨next, hg, rfl, acc, hacc, hown, hbel, hsz⟩ := hrel
    have hnx : next ≤ 4294967296 := by have := hacc.2.2.2.2; rw [HN.out] at this; exact this
    have hal := rinv_len hacc
    have HA := hid hacc
    have hgk : gk ≠ 0 := by have := hacc.2.2.2.2; omega
    obtain ⟨g1, rfl⟩ : ∃ g1, gk = g1 + 1 := ⟨gk - 1, by omega⟩
    have hg' : N < next + 1 + g1 := by omega
    clear hacc hgk hg
    go_wp2_with fail
    go_loopg [5, 6] n (fun gg bv i wr2 => ∃ k q best : Nat, k + gg = n ∧ i = .int .i64 k ∧ bv = .int .u64 best ∧ wr2 = wr.drewN q ∧ BInv N s next k best)
    case atStart => exact ⟨0, 0, 4294967296, by omega, rfl, rfl, rfl, by rw [← HN.out]; exact binv_start N s next⟩
    case round =>
      obtain ⟨k, q, best, hk, rfl, rfl, rfl, hbi⟩ := hrel
      have hbl : best ≤ 4294967296 := by have := binv_le hbi; rw [HN.out] at this; exact this
      have HI := hid hbi
      clear hbi
      cases gk with
      | zero =>
        have hlt : ¬ ((k : Int) < (n : Int)) := by omega
        have hkn : s.length ≤ k := by rw [← HL.out]; omega
        have HKN := hid hkn
        clear hkn
        have bel2 := drewN_below wr.heap.size wr q
        have own2 := own_below hown bel2 (Nat.le_refl _)
        have hb2 : Below w.heap.size w (wr.drewN q) := hbel.trans (bel2.mono hsz)
        have hs2 := hb2.size
        clear hown hbel hsz bel2
        generalize wr.drewN q = w2 at *
        by_cases hbn : best = 4294967296
        · subst hbn
          go_wp2_with fail
          go_ret
          refine ⟨_, rfl, ?_, hb2⟩
          have := rinv_end HB.out HA.out HKN.out (by have := HI.out; rw [← HN.out] at this; exact this)
          rw [← this]
          exact rows_own own2
        · have hbe : ((best : Int) == 4294967296) = false := by simp; omega
          have HH := hid (hinv_start HI.out (by rw [HN.out]; exact hbn))
          have HBN := hid hbn
          clear hbn
          go_wp2_with fail
          go_loopg [7, 8] (2 * N + 1) (fun gg hv gv wr2 => ∃ (hi : Nat) (g : Bool) (q : Nat), 2 * (N - hi) + (if g then 1 else 0) ≤ gg ∧ hv = .int .u64 hi ∧ gv = .bool g ∧ wr2 = w2.drewN q ∧ L3 N s best hi g)
          case atStart => exact ⟨best, true, 0, by simp; omega, rfl, rfl, rfl, HH.out, fun h => by cases h⟩
          case round =>
            clear HH
            obtain ⟨h, g, q3, hg3, rfl, rfl, rfl, hh3⟩ := hrel
            have hhb : h < 4294967296 := by have := hh3.1.2.1; rw [HN.out] at this; exact this
            have HH := hid hh3
            clear hh3
            cases g with
            | false =>
              obtain ⟨h0, k3, hk3, hG⟩ := HH.out.2 rfl
              have HR := hid (rinv_next HB.out HA.out HKN.out hk3 HI.out (by rw [HN.out]; exact HBN.out) hG)
              have hnx2 := HR.out.2
              have bel3 := drewN_below w2.heap.size w2 q3
              have own3 := own_below own2 bel3 (Nat.le_refl _)
              have hb3 : Below w.heap.size w (w2.drewN q3) := hb2.trans (bel3.mono hs2)
              have hs3 := hb3.size
              clear own2 hb2 hs2 bel3 hG hk3
              generalize w2.drewN q3 = w3 at *
              have hbb : best < 4294967296 := by have := HH.out.1.1; omega
              have hal' : acc.length ≤ 10000000000 := by rw [HN.out] at hal; omega
              go_wp2_with (at_builtin; refine app1 rfl _ _ _ rfl 45 i0 _ 8 Tryd.underlying22 hi hz0 hz1 hz2 rfl (by decide) w.heap.size w w3 u3 acc.length (iv2 acc) [.int .u32 (best : Int), .int .u32 (h : Int)] rfl own3 hb3 hs3 rfl rfl (by simp [Value.oneCell']) hal' ?_; intro v5 w5 own5 bel5 hs5)
              go_roundg g1
              case measure => omega
              case rel => exact ⟨h + 1, by omega, by go_num, acc ++ [(best, h)], HR.out.1, by rw [List.length_append, iv2_append]; exact own5, bel5, hs5⟩
            | true =>
              have hgk3 : gk ≠ 0 := by intro e; subst e; simp at hg3
              obtain ⟨g3, rfl⟩ : ∃ g3, gk = g3 + 1 := ⟨gk - 1, by omega⟩
              clear hgk3
              have hg3' : 2 * (N - h) ≤ g3 := by simp at hg3; omega
              have HN3 := hid HN.out
              go_wp2_with fail
              go_loopg [7, 8, 9] n (fun gg hv gv iv wr3 => ∃ (k hi q : Nat) (g : Bool), k + gg = n ∧ iv = .int .i64 k ∧ hv = .int .u64 hi ∧ gv = .bool g ∧ wr3 = w2.drewN q ∧ GInv N s best h k hi g)
              case atStart => exact ⟨0, h, q3, false, by omega, rfl, rfl, rfl, rfl, ginv_start HH.out.1⟩
              case round =>
                obtain ⟨k4, h4, q4, gr, hk4, rfl, rfl, rfl, rfl, hG⟩ := hrel
                have hh4 : h4 < 4294967296 := by have := hG.1.2.1; rw [HN.out] at this; exact this
                have HG := hid hG
                clear hG
                cases gk with
                | zero =>
                  have hlt : ¬ ((k4 : Int) < (n : Int)) := by omega
                  have hk5 : s.length ≤ k4 := by rw [← HL.out]; omega
                  have hlast : L3 N s best h4 gr ∧ 2 * (N - h4) + (if gr then 1 else 0) ≤ g3 := by
                    refine ⟨⟨HG.out.1, fun hf => ⟨h, k4, hk5, by have := HG.out; rwa [hf] at this⟩⟩, ?_⟩
                    cases gr with
                    | false => have := (HG.out.2.1 rfl).1; simp; omega
                    | true => have := HG.out.2.2 rfl; have := HG.out.1.2.1; simp; omega
                  have HLast := hid hlast
                  clear hlast hk5
                  go_wp2_with fail
                  go_roundg g3
                  case measure => omega
                  case rel => exact ⟨h4, gr, q4, HLast.out.2, rfl, rfl, rfl, HLast.out.1⟩
                | succ g4 =>
                  have hlt : k4 < n := by omega
                  obtain ⟨b, off, rfl, hblk, hc⟩ := HC.out (by omega)
                  obtain ⟨c0, c1⟩ := iv_cells hc (by rw [← HL.out]; exact hlt)
                  have hx := HB.out _ (nth_mem (k := k4) (by rw [← HL.out]; exact hlt))
                  rw [HN.out] at hx
                  have c0 := (hb2.cell (p := ⟨b, off + k4 * 2, none⟩) hblk).trans c0
                  have c1 := (hb2.cell (p := ⟨b, off + k4 * 2 + 1, none⟩) hblk).trans c1
                  clear hc
                  have HS := hid (fun h1 h2 h3 => ginv_step HB.out (by rw [← HL.out]; exact hlt) HG.out h1 h2 h3)
                  have HK := hid (fun h => ginv_skip (by rw [← HL.out]; exact hlt) HG.out h)
                  obtain ⟨x, hxe⟩ : ∃ x, x = nth s k4 := ⟨_, rfl⟩
                  rw [← hxe] at c0 c1 hx HS HK
                  clear hxe HG
                  obtain ⟨x1, x2⟩ := x
                  simp only at c0 c1 hx HS HK
                  have wr1 : IntKind.u64.wrap ((h4 : Int) + 1) = (h4 : Int) + 1 := IntWalk.u64_in _ (by omega)
                  have n4 : (0 : Int) ≤ (h4 : Int) + 1 := by omega
                  by_cases h1 : x1 ≤ x2
                  · by_cases h2 : x1 ≤ h4 + 1
                    · by_cases h3 : h4 < x2
                      · have HS' := hid (HS.out h1 h2 h3)
                        have q1 : decide (x1 ≤ x2) = true := by simpa using h1
                        have q2 : decide ((x1 : Int) ≤ (h4 : Int) + 1) = true := by simp; omega
                        have q3 : decide (h4 < x2) = true := by simpa using h3
                        clear HS HK h1 h2 h3
                        go_wp2_with fail
                        go_quiet (fail)
                        clear wr1
                        go_wp2_with fail
                        go_roundg g4
                        case measure => omega
                        case rel => exact ⟨k4 + 1, x2, _, true, by omega, by go_num, rfl, rfl, rfl, HS'.out⟩
                      · have HK' := hid (HK.out (fun h => h3 h.2.2))
                        have q1 : decide (x1 ≤ x2) = true := by simpa using h1
                        have q2 : decide ((x1 : Int) ≤ (h4 : Int) + 1) = true := by simp; omega
                        have q3 : decide (h4 < x2) = false := by simpa using h3
                        clear HS HK h1 h2 h3
                        go_wp2_with fail
                        go_quiet (fail)
                        clear wr1
                        go_wp2_with fail
                        go_roundg g4
                        case measure => omega
                        case rel => exact ⟨k4 + 1, h4, _, gr, by omega, by go_num, rfl, rfl, rfl, HK'.out⟩
                    · have HK' := hid (HK.out (fun h => h2 h.2.1))
                      have q1 : decide (x1 ≤ x2) = true := by simpa using h1
                      have q2 : decide ((x1 : Int) ≤ (h4 : Int) + 1) = false := by simp; omega
                      clear HS HK h1 h2
                      go_wp2_with fail
                      go_quiet (fail)
                      clear wr1
                      go_wp2_with fail
                      go_roundg g4
                      case measure => omega
                      case rel => exact ⟨k4 + 1, h4, _, gr, by omega, by go_num, rfl, rfl, rfl, HK'.out⟩
                  · have HK' := hid (HK.out (fun h => h1 h.1))
                    have q1 : decide (x1 ≤ x2) = false := by simpa using h1
                    clear HS HK h1
                    go_wp2_with fail
                    go_quiet (fail)
                    clear wr1
                    go_wp2_with fail
                    go_roundg g4
                    case measure => omega
                    case rel => exact ⟨k4 + 1, h4, _, gr, by omega, by go_num, rfl, rfl, rfl, HK'.out⟩
      | succ g2 =>
        have hlt : k < n := by omega
        obtain ⟨b, off, rfl, hblk, hc⟩ := HC.out (by omega)
        obtain ⟨c0, c1⟩ := iv_cells hc (by rw [← HL.out]; exact hlt)
        have hx := HB.out _ (nth_mem (k := k) (by rw [← HL.out]; exact hlt))
        rw [HN.out] at hx
        have c0 := (hbel.cell (p := ⟨b, off + k * 2, none⟩) hblk).trans c0
        have c1 := (hbel.cell (p := ⟨b, off + k * 2 + 1, none⟩) hblk).trans c1
        clear hc
        have HS := hid (fun h1 h2 => binv_step HB.out (by rw [← HL.out]; exact hlt) HI.out h1 h2)
        have HK := hid (fun h => binv_skip (by rw [← HL.out]; exact hlt) HI.out h)
        obtain ⟨x, hxe⟩ : ∃ x, x = nth s k := ⟨_, rfl⟩
        rw [← hxe] at c0 c1 hx HS HK
        clear hxe HI
        obtain ⟨x1, x2⟩ := x
        simp only at c0 c1 hx HS HK
        by_cases h1 : x1 ≤ x2
        · by_cases h2 : next ≤ x2
          · have HS' := hid (HS.out h1 h2)
            have q1 : decide (x1 ≤ x2) = true := by simpa using h1
            have q2 : decide (next ≤ x2) = true := by simpa using h2
            clear HS HK h1 h2
            go_wp2_with fail
            go_quiet (fail)
            go_wp2_with fail
            go_roundg g2
            case measure => omega
            case rel => exact ⟨k + 1, _, min best (max x1 next), by omega, by go_num, val_eq (by omega), rfl, HS'.out⟩
          · have HK' := hid (HK.out (fun h => h2 h.2))
            have q1 : decide (x1 ≤ x2) = true := by simpa using h1
            have q2 : decide (next ≤ x2) = false := by simpa using h2
            clear HS HK h1 h2
            go_wp2_with fail
            go_quiet (fail)
            go_wp2_with fail
            go_roundg g2
            case measure => omega
            case rel => exact ⟨k + 1, _, best, by omega, by go_num, rfl, rfl, HK'.out⟩
        · have HK' := hid (HK.out (fun h => h1 h.1))
          have q1 : decide (x1 ≤ x2) = false := by simpa using h1
          clear HS HK h1
          go_wp2_with fail
          go_quiet (fail)
          go_wp2_with fail
          go_roundg g2
          case measure => omega
          case rel => exact ⟨k + 1, _, best, by omega, by go_num, rfl, rfl, HK'.out⟩
end Go.Proofs.YtmcoccfbbhnmfaaDoor.Iw
