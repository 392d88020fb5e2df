/-
  THE CONTRACT OF THE REFERENCE's Halves at valid prefixes that have halves.
-/
import Derived.Test.YtmcoccfbbhnmfaaDoorPfxK
import Derived.Test.YtmcoccfbbhnmfaaDoorIvlQ
import Derived.Test.YtmcoccfbbhnmfaaDoorShelf
import Derived.Deep.RegionHeld3
import Derived.BigRegion
import Derived.IntWalk
namespace Go.Proofs.YtmcoccfbbhnmfaaDoor.Ad
set_option linter.unusedSimpArgs false
set_option linter.unusedVariables false
open Go.RowKit Am Kt Ip

theorem or_half {a k : Nat} (hk : k < 32) (hv : a % blk k = 0) : a ||| 2 ^ (31 - k) = a + blk (k + 1) := by
  have hb := blk_succ k hk
  have e : blk (k + 1) = 2 ^ (31 - k) := by unfold blk; rw [show 32 - (k + 1) = 31 - k by omega]
  obtain ⟨u, hu⟩ := Nat.dvd_of_mod_eq_zero hv
  rw [e]
  have ha : a = (2 * u) <<< (31 - k) := by rw [hu, hb, e, Nat.shiftLeft_eq]; rw [Nat.mul_comm 2 u, Nat.mul_comm (2 * _), Nat.mul_assoc]
  have h1 : (2 : Nat) ^ (31 - k) = 1 <<< (31 - k) := by rw [Nat.shiftLeft_eq, Nat.one_mul]
  rw [ha, h1, ← Nat.shiftLeft_or_distrib]
  have : 2 * u ||| 1 = 2 * u + 1 := by
    have := Nat.two_pow_add_eq_or_of_lt (i := 1) (b := 1) (by decide) u
    rw [Nat.pow_one] at this
    rw [this]
  rw [this, Nat.shiftLeft_eq, Nat.shiftLeft_eq, Nat.shiftLeft_eq, Nat.add_mul]
theorem half_int {a k : Nat} (hk : k < 32) (ha : a < 4294967296) (hv : a % blk k = 0) : bits .or .u32 (a : Int) (2 ^ (31 - k) % 4294967296) = ((a + blk (k + 1) : Nat) : Int) := by
  have h : 2 ^ (31 - k) < 4294967296 := Nat.lt_of_le_of_lt (Nat.pow_le_pow_right (by decide) (by omega : 31 - k ≤ 31)) (by decide)
  have e : ((2 : Int) ^ (31 - k) % 4294967296) = ((2 ^ (31 - k) : Nat) : Int) := by
    have e1 : ((2 : Int) ^ (31 - k)) = ((2 ^ (31 - k) : Nat) : Int) := by simp
    rw [e1]; exact Int.emod_eq_of_lt (Int.natCast_nonneg _) (Int.ofNat_lt.2 h)
  rw [e, u32_or_nat a _ ha h, or_half hk hv]

theorem two_set {w : World} {g : Nat} {x y x' y' : Value} {T : TypeId} (h : w.heap[g]? = some (.cells #[x, y] T (0, 0))) : ((w.setCell ⟨g, 0, none⟩ x').setCell ⟨g, 1, none⟩ y').heap[g]? = some (.cells #[x', y'] T (0, 0)) := by
  have h1 := heap_setCell_same w g 0 _ _ x' h
  have h2 := heap_setCell_same _ g 1 _ _ y' h1
  rw [h2]; rfl
theorem two_far {w : World} {g k : Nat} {x y : Value} {o : Obj} (hne : k ≠ g) (h : w.heap[k]? = some o) : ((w.setCell ⟨g, 0, none⟩ x).setCell ⟨g, 1, none⟩ y).heap[k]? = some o := by
  rw [heap_setCell_other _ _ _ _ (by simpa using hne), heap_setCell_other _ _ _ _ (by simpa using hne), h]

set_option maxHeartbeats 4000000 in
set_option maxRecDepth 100000 in
theorem refHalves (a k : Nat) (w : World) (ha : a < 4294967296) (hk : k < 32) (hv : a % blk k = 0) :
    Calls Tryd.prog 61 #[px a (k : Int)] w fun e w' => e = .returned (.tuple #[px a ((k + 1 : Nat) : Int), px (a + blk (k + 1)) ((k + 1 : Nat) : Int), .bool true]) ∧ Below w.heap.size w w' := by
  have HI := hid (half_int hk ha hv)
  have h31 : ¬ (31 : Int) < (k : Int) := by omega
  have h0 : (0 : Int) ≤ (k : Int) := by omega
  clear hv
  go_enter Tryd.func61, Tryd.ntmps61
  go_wp2_with fail
  have b0 := three_b0 w #[.int .u32 (a : Int), .int .i64 (k : Int)] #[.int .u32 0, .int .i64 0] #[.int .u32 0, .int .i64 0] 37 37 37
  have b1 := three_b1 w #[.int .u32 (a : Int), .int .i64 (k : Int)] #[.int .u32 0, .int .i64 0] #[.int .u32 0, .int .i64 0] 37 37 37
  have b2 := three_b2 w #[.int .u32 (a : Int), .int .i64 (k : Int)] #[.int .u32 0, .int .i64 0] #[.int .u32 0, .int .i64 0] 37 37 37
  have bel := al3 w (.cells #[.int .u32 (a : Int), .int .i64 (k : Int)] 37) (.cells #[.int .u32 0, .int .i64 0] 37) (.cells #[.int .u32 0, .int .i64 0] 37)
  unfold three at b0 b1 b2
  generalize ((w.alloc (.cells #[.int .u32 (a : Int), .int .i64 (k : Int)] 37)).alloc (.cells #[.int .u32 0, .int .i64 0] 37)).alloc (.cells #[.int .u32 0, .int .i64 0] 37) = w3 at *
  obtain ⟨⟨c0, c1⟩, _⟩ := blk_two b0
  obtain ⟨⟨d0, d1⟩, f0, f1⟩ := blk_two b1
  obtain ⟨⟨e0, e1⟩, g0, g1⟩ := blk_two b2
  have n1 : (0 : Int) ≤ 31 - (k : Int) := by omega
  have n2 : IntKind.i64.wrap ((k : Int) + 1) = (k : Int) + 1 := IntWalk.i64_in _ (by omega)
  have n3 : IntKind.i64.wrap (31 - (k : Int)) = 31 - (k : Int) := IntWalk.i64_in _ (by omega)
  clear b0
  have H1 := hid b1
  have H2 := hid b2
  clear b1 b2
  go_big_region
  rw [HI.out]
  clear n1 n2 n3 c0 c1 d0 d1 e0 e1
  have hb := (((((bel.setCell (p := ⟨w.heap.size + 1, 0, none⟩) (by simp) (.int .u32 (a : Int))).setCell (p := ⟨w.heap.size + 1, 1, none⟩) (by simp) (.int .i64 ((k : Int) + 1))).setCell (p := ⟨w.heap.size + 1 + 1, 0, none⟩) (by simp; omega) (.int .u32 ((a + blk (k + 1) : Nat) : Int))).setCell (p := ⟨w.heap.size + 1 + 1, 1, none⟩) (by simp; omega) (.int .i64 ((k : Int) + 1))).drew)
  have k1 := two_far (g := w.heap.size + 1 + 1) (x := .int .u32 ((a + blk (k + 1) : Nat) : Int)) (y := .int .i64 ((k : Int) + 1)) (by omega) (two_set (x' := .int .u32 (a : Int)) (y' := .int .i64 ((k : Int) + 1)) H1.out)
  have k2 := two_set (x' := .int .u32 ((a + blk (k + 1) : Nat) : Int)) (y' := .int .i64 ((k : Int) + 1)) (two_far (g := w.heap.size + 1) (x := .int .u32 (a : Int)) (y := .int .i64 ((k : Int) + 1)) (by omega) H2.out)
  have k1' : (((((w3.setCell ⟨w.heap.size + 1, 0, none⟩ (.int .u32 (a : Int))).setCell ⟨w.heap.size + 1, 1, none⟩ (.int .i64 ((k : Int) + 1))).setCell ⟨w.heap.size + 1 + 1, 0, none⟩ (.int .u32 ((a + blk (k + 1) : Nat) : Int))).setCell ⟨w.heap.size + 1 + 1, 1, none⟩ (.int .i64 ((k : Int) + 1))).drew).heap[w.heap.size + 1]? = some (.cells #[.int .u32 (a : Int), .int .i64 ((k : Int) + 1)] 37 (0, 0)) := k1
  have k2' : (((((w3.setCell ⟨w.heap.size + 1, 0, none⟩ (.int .u32 (a : Int))).setCell ⟨w.heap.size + 1, 1, none⟩ (.int .i64 ((k : Int) + 1))).setCell ⟨w.heap.size + 1 + 1, 0, none⟩ (.int .u32 ((a + blk (k + 1) : Nat) : Int))).setCell ⟨w.heap.size + 1 + 1, 1, none⟩ (.int .i64 ((k : Int) + 1))).drew).heap[w.heap.size + 1 + 1]? = some (.cells #[.int .u32 ((a + blk (k + 1) : Nat) : Int), .int .i64 ((k : Int) + 1)] 37 (0, 0)) := k2
  clear k1 k2
  generalize ((((w3.setCell ⟨w.heap.size + 1, 0, none⟩ (.int .u32 (a : Int))).setCell ⟨w.heap.size + 1, 1, none⟩ (.int .i64 ((k : Int) + 1))).setCell ⟨w.heap.size + 1 + 1, 0, none⟩ (.int .u32 ((a + blk (k + 1) : Nat) : Int))).setCell ⟨w.heap.size + 1 + 1, 1, none⟩ (.int .i64 ((k : Int) + 1))).drew = w4 at *
  obtain ⟨⟨c0, c1⟩, _⟩ := blk_two k1'
  obtain ⟨⟨d0, d1⟩, _⟩ := blk_two k2'
  clear k1' k2' bel
  obtain ⟨q, hq⟩ : ∃ q, q = a + blk (k + 1) := ⟨_, rfl⟩
  rw [← hq] at d0 ⊢
  go_wp2_with fail
  (try simp only [Exit.inBlock, Exit.then])
  refine bodyPost_ret (by simp [results, Tryd.results61, go_sem, c0, c1, d0, d1]; rfl) rfl ?_
  exact ⟨by go_num, hb⟩
end Go.Proofs.YtmcoccfbbhnmfaaDoor.Ad
