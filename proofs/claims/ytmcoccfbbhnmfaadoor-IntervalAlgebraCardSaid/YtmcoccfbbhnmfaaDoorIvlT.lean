/-
  THE CONTRACTS OF interval's widest, Of, Prefixes.
-/
import Derived.Test.YtmcoccfbbhnmfaaDoorIvlS
import Derived.Test.YtmcoccfbbhnmfaaDoorPfxA
import Derived.Test.YtmcoccfbbhnmfaaDoorIvlB
import Derived.Deep.RegionHeld3
namespace Go.Proofs.YtmcoccfbbhnmfaaDoor.Ip
open Am
theorem bitLen_pos {x : Nat} (h : 0 < x) (h64 : x < 2 ^ 64) : 1 ≤ Lib.bitLen x := by
  rw [Lib.bitLen_half x (by omega) h64]; omega
theorem net_wid {lo hi : Nat} (h1 : lo ≤ hi) (h2 : hi < 4294967296) : net lo ((32 - wid lo hi : Nat) : Int) = lo := by
  have hw := wid_fits h1 h2
  have hl := wid_le (lo := lo) (hi := hi) (by omega)
  unfold net
  rw [cl_nat _ (by omega), blk_wid hl]
  exact Nat.div_mul_cancel hw.1
theorem last_ok {p : Px} (h : OkP p) : lastV p.1 ((p.2 : Nat) : Int) = p.1 + blk p.2 - 1 := by
  have := blk_pos p.2
  unfold lastV
  rw [cl_nat _ h.1, Nat.div_mul_cancel (okp_dvd h)]; omega
end Go.Proofs.YtmcoccfbbhnmfaaDoor.Ip
namespace Go.Proofs.YtmcoccfbbhnmfaaDoor.Iw
set_option linter.unusedSimpArgs false
set_option linter.unusedVariables false
open Go.RowKit Sm Ip Im Kt Am

abbrev px (p : Px) : Value := .agg #[.int .u32 (p.1 : Int), .int .i64 (p.2 : Int)]

set_option maxHeartbeats 1000000 in
theorem widest (lo hi : Nat) (w : World) {B : Nat} (h1 : lo ≤ hi) (h2 : hi < 4294967296) (hT : Tab B w) (hB : B ≤ w.heap.size) :
    Calls Tryd.prog 48 #[.int .u32 (lo : Int), .int .u32 (hi : Int)] w fun e w' => e = .returned (px (lo, 32 - wid lo hi)) ∧ Below w.heap.size w w' := by
  have hl := wid_le (lo := lo) (hi := hi) (by omega)
  have hbp := bitLen_pos (x := hi - lo + 1) (by omega) (by rw [show (2 : Nat) ^ 64 = 18446744073709551616 by decide]; omega)
  have hbl : Lib.bitLen (hi - lo + 1) ≤ 64 := Lib.bitLen_le _ 64 (by decide) (by rw [show (2 : Nat) ^ 64 = 18446744073709551616 by decide]; omega)
  have htz := tz_le lo (by omega)
  have hT1 := Ad.hid (fun wx (hx : Tab B wx) => trailing lo wx (by omega) hx)
  have hL : ∀ wx, Calls Tryd.prog 58 #[.int .u64 ((hi : Int) - (lo : Int) + 1)] wx fun e w' => e = .returned (.int .i64 (Lib.bitLen (hi - lo + 1) : Nat)) ∧ wx = w' := by
    intro wx
    refine (Tryd.bits_Len64 ((hi : Int) - (lo : Int) + 1) wx (by omega) (by omega)).mono ?_
    rintro e w' ⟨rfl, rfl⟩
    exact ⟨by rw [show ((hi : Int) - (lo : Int) + 1).toNat = hi - lo + 1 by omega], rfl⟩
  have HW : Hid ((32 : Int) - min (tz lo : Int) ((Lib.bitLen (hi - lo + 1) : Int) - 1) = ((32 - wid lo hi : Nat) : Int)) := by
    show _ = _
    have hh := hl
    unfold wid at hh ⊢; omega
  have hN : ∀ wx, Calls Tryd.prog 59 #[.int .u32 (lo : Int), .int .i64 ((32 - wid lo hi : Nat) : Int)] wx fun e w' => e = .returned (px (lo, 32 - wid lo hi)) ∧ Below wx.heap.size wx w' := by
    intro wx
    refine (Ad.network lo ((32 - wid lo hi : Nat) : Int) wx (by omega)).mono ?_
    rintro e w' ⟨rfl, hb⟩
    exact ⟨by rw [net_wid h1 h2, cl_nat _ (by omega)], hb⟩
  have HT := Ad.hid hT
  have HB := Ad.hid hB
  have h3 : (lo : Int) ≤ (hi : Int) := by omega
  generalize Lib.bitLen (hi - lo + 1) = bl at *
  generalize 32 - wid lo hi = q at *
  clear hT hB
  go_enter Tryd.func48, Tryd.ntmps48
  go_wp2_with fail
  refine (hT1.out _ (HT.out.on ((al1 w _).mono HB.out))).mono ?_
  rintro e w1 ⟨rfl, rfl⟩
  go_wp2_with fail
  refine (hL _).mono ?_
  rintro e w2 ⟨rfl, rfl⟩
  go_wp2_with fail
  rw [HW.out]
  refine (hN _).mono ?_
  rintro e w3 ⟨rfl, b3⟩
  have h4 := blk_keep (heap_new w (.cells #[.int .u32 0, .int .i64 0] 37 (0, 0))) b3
  have b4 := then_ (al1 w _) b3
  obtain ⟨⟨c0, c1⟩, f0, f1⟩ := blk_two h4
  clear h4 b3 hN hL
  go_wp2_with fail
  (try simp only [Exit.inBlock, Exit.then])
  refine bodyPost_ret (by simp [results, Tryd.results48, go_sem, c0, c1]; rfl) rfl ?_
  exact ⟨rfl, (b4.setCell (p := ⟨w.heap.size, 0, none⟩) (by simp) _).setCell (p := ⟨w.heap.size, 1, none⟩) (by simp) _⟩

theorem chain {B : Nat} {w1 W w2 : World} (h : Below B w1 W) (hB : B ≤ w1.heap.size) (k : Below W.heap.size W w2) : Below B w1 w2 := h.trans (k.mono (Nat.le_trans hB h.size))

set_option maxHeartbeats 1000000 in
theorem of_ (p : Px) (w : World) (h : OkP p) :
    Calls Tryd.prog 37 #[px p] w (IvPost [(p.1, p.1 + blk p.2 - 1)] w) := by
  have bp := blk_pos p.2
  have h3 := h.2.2
  have hL : ∀ wx, Calls Tryd.prog 49 #[px p] wx fun e w' => e = .returned (.int .u32 ((p.1 + blk p.2 - 1 : Nat) : Int)) ∧ Below wx.heap.size wx w' := by
    intro wx
    refine (Ad.last p.1 ((p.2 : Nat) : Int) wx (by omega)).mono ?_
    rintro e w' ⟨rfl, hb⟩
    exact ⟨by rw [last_ok h], hb⟩
  generalize p.1 + blk p.2 - 1 = l at *
  obtain ⟨a, k⟩ := p
  simp only at hL ⊢
  clear h h3 bp
  go_enter Tryd.func37, Tryd.ntmps37
  go_wp2_with fail
  have h1 := heap_new w (.cells #[.int .u32 (a : Int), .int .i64 (k : Int)] 37 (0, 0))
  have b1 := al1 w (.cells #[.int .u32 (a : Int), .int .i64 (k : Int)] 37)
  have s1 := b1.size
  generalize w.alloc (.cells #[.int .u32 (a : Int), .int .i64 (k : Int)] 37) = w1 at *
  have c0 := if_0 h1
  have c1 := if_1 h1
  go_region_held3 (fun v => Below w1.heap.size w1 v) ((first | assumption | (exact chain (by assumption) (Nat.le_refl _) (al1 _ _)) | go_grown)) ((go_at_call 49; refine (hL _).mono ?_; rintro e w2 ⟨rfl, b2⟩; have b3 := chain (by first | assumption | go_grown) (Nat.le_refl w1.heap.size) b2))
  have r4 := rows_new w2 [.int .u32 (a : Int), .int .u32 (l : Int)] 45 1 rfl
  have b4 := then_ b1 (chain b3 (Nat.le_refl _) (al1 w2 (.cells [Value.int .u32 (a : Int), .int .u32 (l : Int)].toArray 45)))
  have R4 := Ad.hid r4
  clear r4
  go_wp2_with fail
  go_ret
  exact ⟨_, rfl, R4.out, b4⟩
end Go.Proofs.YtmcoccfbbhnmfaaDoor.Iw
