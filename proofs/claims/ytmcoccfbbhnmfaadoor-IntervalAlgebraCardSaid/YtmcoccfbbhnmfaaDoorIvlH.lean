/-
  THE CONTRACTS OF interval's Intersect, Complement, Subtract, Size.
-/
import Derived.Test.YtmcoccfbbhnmfaaDoorIvlG
namespace Go.Proofs.YtmcoccfbbhnmfaaDoor.Iw
set_option linter.unusedSimpArgs false
set_option linter.unusedVariables false
open Go.RowKit Sm Ip Im Kt

set_option maxHeartbeats 1000000 in
theorem intersect (v1 v2 : Value) (a b : List Iv) (w : World) (ha : IsIv w v1 a) (hb : IsIv w v2 b) (ba : Bd 4294967296 a) (bb : Bd 4294967296 b) (la : a.length ≤ 5000000000) (lb : b.length ≤ 5000000000) :
    Calls Tryd.prog 21 #[v1, v2] w (IvPost (inter a b) w) := by
  have H := hid (And.intro ha hb)
  have HB := hid (And.intro ba bb)
  have HL := hid (And.intro la lb)
  clear ha hb ba bb la lb
  go_enter Tryd.func21, Tryd.ntmps21
  go_wp2_with fail
  refine (normalize v1 a _ H.out.1 HB.out.1 (by have := HL.out; omega)).mono ?_
  rintro e w1 ⟨u1, rfl, r1, b1⟩
  have R1 := hid r1
  clear r1
  go_wp2_with fail
  refine (normalize v2 b _ (rows_keep H.out.2 b1) HB.out.2 (by have := HL.out; omega)).mono ?_
  rintro e w2 ⟨u2, rfl, r2, b2⟩
  have R2 := hid r2
  clear r2
  go_wp2_with fail
  refine (common u1 u2 (norm a) (norm b) _ (rows_keep R1.out b2) R2.out (norm_bd HB.out.1) (norm_bd HB.out.2) (Nat.le_trans (norm_len a) HL.out.1) (Nat.le_trans (norm_len b) HL.out.2)).mono ?_
  rintro e w3 ⟨u3, rfl, r3, b3⟩
  have R3 := hid r3
  clear r3
  go_wp2_with fail
  go_ret
  exact ⟨_, rfl, R3.out, then_ (then_ b1 b2) b3⟩

def PRel (N : Nat) (s : List Iv) (w : World) (v : Value) (k p : Nat) (wr : World) : Prop :=
  ∃ acc, acc ++ cmpl N p (s.drop k) = cmpl N 0 s ∧ acc.length ≤ k ∧ wr.ownsRow w.heap.size 45 2 v acc.length (iv2 acc) ∧ Below w.heap.size w wr ∧ w.heap.size ≤ wr.heap.size

set_option maxHeartbeats 4000000 in
set_option maxRecDepth 100000 in
theorem complement (v : Value) (a : List Iv) (w : World) (ha : IsIv w v a) (ba : Bd 4294967296 a) (la : a.length ≤ 5000000000) :
    Calls Tryd.prog 23 #[v] w (IvPost (compl 4294967296 a) w) := by
  obtain ⟨i0, hi, hz0, hz1, hz2⟩ := info_parts ivInfo
  have C := normalize v a w ha ba (by omega)
  have hnb := norm_bd ba
  have hnl := norm_len a
  clear ha
  obtain ⟨s, hs⟩ : ∃ s, s = norm a := ⟨_, rfl⟩
  have hgoal : compl 4294967296 a = cmpl 4294967296 0 s := by rw [hs]; rfl
  rw [hgoal]
  rw [← hs] at C hnb hnl
  clear hgoal hs ba
  go_enter Tryd.func23, Tryd.ntmps23
  go_wp2_with fail
  refine C.mono ?_
  rintro e w1 ⟨v1, rfl, r1, b1⟩
  clear C
  obtain ⟨N, hN⟩ : ∃ N, N = 4294967296 := ⟨_, rfl⟩
  have hg : cmpl 4294967296 0 s = cmpl N 0 s := by rw [hN]
  obtain ⟨n, hn⟩ : ∃ n, n = s.length := ⟨_, rfl⟩
  have r1' := iv_n r1 hn
  obtain ⟨p1, cap, rfl, hcell⟩ := rows_open r1'
  rw [← hn] at hnl
  have hln : n ≤ 5000000000 := by omega
  have HL := hid hn
  have HC := hid hcell
  have HB := hid hnb
  have HN := hid hN
  have HG := hid hg
  clear r1 r1' hcell hn hnb hN hg hnl
  go_wp2_with fail
  go_loopg [3, 4, 10] n (fun gg u pv i wr => ∃ k p : Nat, k + gg = n ∧ i = .int .i64 k ∧ pv = .int .u64 p ∧ p ≤ 4294967296 ∧ PRel N s w1 u k p wr)
  case atStart => exact ⟨0, 0, by omega, rfl, rfl, by omega, [], rfl, Nat.le_refl _, World.ownsRow_nil _ _ _ _, Below.refl _ _, Nat.le_refl _⟩
  case round =>
    obtain ⟨k, p, hk, rfl, rfl, hp, acc, hacc, hal, hown, hbel, hsz⟩ := hrel
    have HA := hid hacc
    clear hacc
    cases gk with
    | zero =>
      have hlt : ¬ ((k : Int) < (n : Int)) := by omega
      have hkn : s.length ≤ k := by rw [← HL.out]; omega
      by_cases hpn : p < 4294967296
      · have HR := hid (show acc ++ [(p, N - 1)] = cmpl 4294967296 0 s by rw [HG.out, ← HA.out, cmpl_end hkn (by rw [HN.out]; exact hpn)])
        clear hkn
        have q1 : decide ((p : Int) ≤ 4294967295) = true := decide_eq_true (by omega)
        go_wp2_with (at_builtin; refine app1 rfl _ _ _ rfl 45 i0 _ 8 Tryd.underlying22 hi hz0 hz1 hz2 rfl (by decide) w1.heap.size w1 wr u3 acc.length (iv2 acc) [.int .u32 (p : Int), .int .u32 4294967295] rfl hown hbel hsz rfl rfl (by simp [Value.oneCell']) (by omega) ?_; intro v5 w5 own5 bel5 hs5)
        go_ret
        refine ⟨_, rfl, ?_, then_ b1 bel5⟩
        rw [← HR.out, HN.out]
        refine n_iv (n := acc.length + 1) ?_ (by simp)
        rw [iv2_append]
        exact rows_own own5
      · have HR := hid (show acc = cmpl 4294967296 0 s by rw [HG.out, ← HA.out, cmpl_full hkn (by rw [HN.out]; exact hpn), List.append_nil])
        clear hkn
        have q1 : decide ((p : Int) ≤ 4294967295) = false := decide_eq_false (by omega)
        go_wp2_with fail
        go_ret
        exact ⟨_, rfl, by rw [← HR.out]; exact rows_own hown, then_ b1 hbel⟩
    | succ g1 =>
      have hlt : k < n := by omega
      have hk' : k < s.length := by rw [← HL.out]; exact hlt
      obtain ⟨b, off, rfl, hbl, hc⟩ := HC.out (by omega)
      obtain ⟨c0, c1⟩ := iv_cells hc (by rw [← HL.out]; exact hlt)
      have hx := HB.out _ (nth_mem (k := k) hk')
      have c0 := (hbel.cell (p := ⟨b, off + k * 2, none⟩) hbl).trans c0
      have c1 := (hbel.cell (p := ⟨b, off + k * 2 + 1, none⟩) hbl).trans c1
      clear hc
      have HG1 := hid (fun h => HA.out.symm.trans (congrArg (acc ++ ·) (cmpl_gap hk' h)))
      have HG2 := hid (fun h => HA.out.symm.trans (congrArg (acc ++ ·) (cmpl_join hk' h)))
      obtain ⟨x, hxe⟩ : ∃ x, x = nth s k := ⟨_, rfl⟩
      rw [← hxe] at c0 c1 hx HG1 HG2
      clear hxe hk' HA
      have hE := fun wx => after x wx hx.2
      obtain ⟨q, hq⟩ : ∃ q, q = x.2 + 1 := ⟨_, rfl⟩
      have hq2 : q ≤ 4294967296 := by omega
      rw [← hq] at hE HG1 HG2
      clear hq
      by_cases hpx : p < x.1
      · have HR := hid (HG1.out hpx)
        have q1 : decide (p < x.1) = true := decide_eq_true hpx
        have q2 : (1 : Int) ≤ (x.1 : Int) := by omega
        clear HG1 HG2
        go_upto_if 18 with fail
        have b3 : Below w1.heap.size w1 (wr.alloc (.cells #[.int .u32 (x.1 : Int), .int .u32 (x.2 : Int)] 45)) := hbel.alloc hsz _
        have hne := own_ne hown (Nat.le_refl _)
        have own3 := hown.alloc (.cells #[.int .u32 (x.1 : Int), .int .u32 (x.2 : Int)] 45 (0, 0))
        have h3 := heap_new wr (.cells #[.int .u32 (x.1 : Int), .int .u32 (x.2 : Int)] 45 (0, 0))
        have s3 := b3.size
        clear hown hbel c0 c1
        generalize wr.alloc (.cells #[.int .u32 (x.1 : Int), .int .u32 (x.2 : Int)] 45) = w3 at *
        obtain ⟨⟨d0, d1⟩, _⟩ := blk_two h3
        have HNE := hid hne
        clear hne
        go_upto_region 8 with (at_builtin; refine app1k rfl _ _ _ rfl 45 i0 _ 8 Tryd.underlying22 hi hz0 hz1 hz2 rfl (by decide) w1.heap.size w1 w3 u3 acc.length (iv2 acc) [.int .u32 (p : Int), .int .u32 ((x.1 : Int) - 1)] rfl own3 b3 s3 rfl rfl (by simp [Value.oneCell']) (by omega) ?_; intro v5 w5 own5 bel5 hs5 kp5)
        obtain ⟨⟨e0, e1⟩, _⟩ := blk_two (kp5 _ _ h3 HNE.out)
        clear kp5 own3 b3 h3 s3 d0 d1
        go_wp2_with fail
        refine (hE _).mono ?_
        rintro e w6 ⟨rfl, bel6⟩
        have own6 := own_below own5 bel6 (Nat.le_refl _)
        have b6 := bel5.trans (bel6.mono hs5)
        have s6 := b6.size
        clear own5 bel5 hs5 e0 e1 bel6 hE
        go_wp2_with fail
        go_roundg g1
        case measure => omega
        case rel => exact ⟨k + 1, q, by omega, by go_num, rfl, hq2, acc ++ [(p, x.1 - 1)], by have := HR.out.symm; rwa [← List.append_assoc] at this, by simp; omega, by rw [List.length_append, iv2_append, show iv2 [(p, x.1 - 1)] = [.int .u32 (p : Int), .int .u32 ((x.1 : Int) - 1)] by simp [iv2]; omega]; exact own6, b6, s6⟩
      · have HR := hid (HG2.out hpx)
        have q1 : decide (p < x.1) = false := decide_eq_false hpx
        clear HG1 HG2
        go_upto_if 18 with fail
        have b3 : Below w1.heap.size w1 (wr.alloc (.cells #[.int .u32 (x.1 : Int), .int .u32 (x.2 : Int)] 45)) := hbel.alloc hsz _
        have hne := own_ne hown (Nat.le_refl _)
        have own3 := hown.alloc (.cells #[.int .u32 (x.1 : Int), .int .u32 (x.2 : Int)] 45 (0, 0))
        have h3 := heap_new wr (.cells #[.int .u32 (x.1 : Int), .int .u32 (x.2 : Int)] 45 (0, 0))
        have s3 := b3.size
        clear hown hbel c0 c1
        generalize wr.alloc (.cells #[.int .u32 (x.1 : Int), .int .u32 (x.2 : Int)] 45) = w3 at *
        obtain ⟨⟨d0, d1⟩, _⟩ := blk_two h3
        go_wp2_with fail
        refine (hE _).mono ?_
        rintro e w4 ⟨rfl, bel4⟩
        have own4 := own_below own3 bel4 (Nat.le_refl _)
        have b4 := b3.trans (bel4.mono s3)
        have s4 := b4.size
        clear own3 b3 h3 s3 d0 d1 bel4 hE
        go_wp2_with fail
        go_roundg g1
        case measure => omega
        case rel => exact ⟨k + 1, q, by omega, by go_num, rfl, hq2, acc, HR.out.symm, by omega, own4, b4, s4⟩
end Go.Proofs.YtmcoccfbbhnmfaaDoor.Iw
