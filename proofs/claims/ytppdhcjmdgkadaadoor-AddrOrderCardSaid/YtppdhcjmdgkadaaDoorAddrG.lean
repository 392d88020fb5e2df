/-
  THE CONTRACTS OF addr.FormatHost AND addr.FormatPrefix.
-/
import Derived.Test.YtppdhcjmdgkadaaDoorAddrE
import Derived.Test.YtppdhcjmdgkadaaDoorAddrF
namespace Go.Proofs.YtppdhcjmdgkadaaDoor.As
set_option linter.unusedSimpArgs false
set_option linter.unusedVariables false
open Sp Am
/-- P204: what FormatHost writes. -/
def fmtL (a : Nat) (n : Int) : List UInt8 := if 0 ≤ n ∧ n ≤ 32 then slashL a n.toNat else []
def fmtP (a : Nat) (n : Int) : List UInt8 := if validB a n then fmtL a n else []
theorem fmtL_no (a : Nat) (n : Int) (h : ¬ (0 ≤ n ∧ n ≤ 32)) : fmtL a n = [] := by unfold fmtL; rw [if_neg h]
theorem fmtL_nat (a n : Nat) (h : n ≤ 32) : fmtL a n = slashL a n := by unfold fmtL; rw [if_pos ⟨by omega, by omega⟩]; simp
theorem dot_len (a : Nat) : (dotL a).length ≤ 43 := by
  unfold dotL
  have h1 := (digL_len 9 (a / 16777216)).2
  have h2 := (digL_len 9 (a / 65536 % 256)).2
  have h3 := (digL_len 9 (a / 256 % 256)).2
  have h4 := (digL_len 9 (a % 256)).2
  simp only [dec8, List.length_append, List.length_cons]
  omega
theorem fmtL_len (a : Nat) (n : Int) : (fmtL a n).length ≤ 54 := by
  unfold fmtL
  split
  · unfold slashL
    have h1 := dot_len a
    have h2 := (digL_len 9 n.toNat).2
    simp only [dec8, List.length_append, List.length_cons]
    omega
  · simp
theorem host_nil : hostB [] = false := rfl
theorem fmt_back (a : Nat) (n : Int) (ha : a < 4294967296) : hostB (fmtL a n) = decide (0 ≤ n ∧ n ≤ 32) ∧ (0 ≤ n ∧ n ≤ 32 → hostA (fmtL a n) = a ∧ ((hostN (fmtL a n) : Nat) : Int) = n) := by
  by_cases h : 0 ≤ n ∧ n ≤ 32
  · obtain ⟨k, rfl⟩ := Int.eq_ofNat_of_zero_le h.1
    have hk : k ≤ 32 := by omega
    rw [fmtL_nat a k hk]
    obtain ⟨h1, h2, h3⟩ := slash_back a k ha hk
    refine ⟨by rw [h1, decide_eq_true h], fun _ => ⟨h2, by rw [h3]⟩⟩
  · rw [fmtL_no a n h, decide_eq_false h]
    exact ⟨rfl, fun k => absurd k h⟩
end Go.Proofs.YtppdhcjmdgkadaaDoor.As

namespace Go.Proofs.YtppdhcjmdgkadaaDoor.Ad
set_option linter.unusedSimpArgs false
set_option linter.unusedVariables false
open Go.RowKit Sp Sc Am As Kt

theorem slash_bytes (a n : Nat) : ((ByteArray.mk (dotL a).toArray ++ ⟨#[47]⟩) ++ ⟨(dec8 n).toArray⟩) = ⟨(slashL a n).toArray⟩ := by
  refine bytes_ext ?_
  simp only [ByteArray.data_append, Array.toList_append]
  simp [slashL]

set_option maxHeartbeats 2000000 in
theorem formatHost (a : Nat) (n : Int) (w : World) (ha : a < 4294967296) (ht : Tab w.heap.size w) :
    Calls Tryd.prog 31 #[.int .u32 (a : Int), .int .i64 n] w fun e w' => e = .returned (.string ⟨(fmtL a n).toArray⟩) ∧ Below w.heap.size w w' := by
  have hL := fun wx => isLen n wx
  by_cases h : 0 ≤ n ∧ n ≤ 32
  · rw [decide_eq_true h] at hL
    obtain ⟨k, rfl⟩ := Int.eq_ofNat_of_zero_le h.1
    have hk : k ≤ 32 := by omega
    have hF := format a w ha ht
    have hI := fun wx (h : Tab w.heap.size wx) => itoa k wx (by omega) h
    have hE := hid (slash_bytes a k)
    rw [fmtL_nat a k hk]
    have s1 : (ByteArray.mk (dotL a).toArray).size ≤ 43 := by rw [← len_data]; exact dot_len a
    have s2 : (ByteArray.mk (dec8 k).toArray).size ≤ 10 := by rw [← len_data]; exact (digL_len 9 k).2
    generalize (ByteArray.mk (dotL a).toArray) = x at *
    generalize (ByteArray.mk (dec8 k).toArray) = y at *
    clear h
    go_enter Tryd.func31, Tryd.ntmps31
    go_wp2_with (go_at_call 53; refine (hL _).mono ?_; rintro e w' ⟨rfl, rfl⟩)
    refine hF.mono ?_
    rintro e w1 ⟨rfl, b1⟩
    go_wp2_with (fail)
    refine (hI _ (ht.on b1)).mono ?_
    rintro e w2 ⟨rfl, b2⟩
    have B2 := then_ b1 b2
    clear hF
    go_wp2_with (fail)
    go_ret
    exact ⟨ret_str hE.out, B2⟩
  · rw [decide_eq_false h] at hL
    rw [fmtL_no a n h]
    clear h
    go_enter Tryd.func31, Tryd.ntmps31
    go_wp2_with (go_at_call 53; refine (hL _).mono ?_; rintro e w' ⟨rfl, rfl⟩)
    go_ret
    exact ⟨rfl, Below.refl _ _⟩

theorem tab_up {B B' : Nat} {w : World} (h : Tab B w) (hb : B ≤ B') : Tab B' w := fun w' b => h w' (b.mono hb)

set_option maxHeartbeats 2000000 in
theorem formatPrefix (a : Nat) (n : Int) (w : World) (ha : a < 4294967296) (ht : Tab w.heap.size w) :
    Calls Tryd.prog 32 #[px a n] w fun e w' => e = .returned (.string ⟨(fmtP a n).toArray⟩) ∧ Below w.heap.size w w' := by
  have hV := fun wx => valid a n wx ha
  cases hv : validB a n with
  | false =>
    have hf : Hid (fmtP a n = []) := by show _ = _; unfold fmtP; rw [hv]; rfl
    rw [hv] at hV
    clear hv
    go_enter Tryd.func32, Tryd.ntmps32
    go_wp2_with (fail)
    refine (hV _).mono ?_
    rintro e w1 ⟨rfl, b1⟩
    have B1 := then_ (al1 w _) b1
    clear b1
    go_wp2_with (fail)
    go_ret
    exact ⟨ret_str (by rw [hf.out]), B1⟩
  | true =>
    have hf : Hid (fmtP a n = fmtL a n) := by show _ = _; unfold fmtP; rw [hv]; rfl
    have hF := fun wx (h : Tab w.heap.size wx) (hs : w.heap.size ≤ wx.heap.size) => formatHost a n wx ha (tab_up h hs)
    rw [hv] at hV
    clear hv
    go_enter Tryd.func32, Tryd.ntmps32
    go_wp2_with (fail)
    refine (hV _).mono ?_
    rintro e w1 ⟨rfl, b1⟩
    obtain ⟨⟨c0, c1⟩, _⟩ := blk_two (box_all b1)
    have B1 := then_ (al1 w _) b1
    clear b1
    go_wp2_with (fail)
    refine (hF _ (ht.on B1) B1.size).mono ?_
    rintro e w2 ⟨rfl, b2⟩
    have B2 := then_ B1 b2
    go_wp2_with (fail)
    go_ret
    exact ⟨ret_str (by rw [hf.out]), B2⟩
end Go.Proofs.YtppdhcjmdgkadaaDoor.Ad
