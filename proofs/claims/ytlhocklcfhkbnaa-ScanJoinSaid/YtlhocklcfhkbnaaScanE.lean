/-
  THE CONTRACT OF netverifykeep.Strings.
-/
import Derived.Test.YtlhocklcfhkbnaaScanA
import Derived.Lib.Strings
import Derived.BigQuiet
import Derived.Deep.QuietTactic
import Derived.RegionTactic
namespace Go.Proofs.Ytlhocklcfhkbnaa.Sc
set_option linter.unusedSimpArgs false
set_option linter.unusedVariables false
open Go.RowKit Sp

/-- The slice value v reads in w as the list of strings. -/
def Strs (w : World) (v : Value) (l : List ByteArray) : Prop :=
  (∃ cap, v = .slice none 0 cap ∧ l = []) ∨ ∃ b off cap, v = .slice (some ⟨b, off, none⟩) l.length cap ∧ l.length ≤ maxLen ∧ ∀ j, j < l.length → w.cell? ⟨b, off + j, none⟩ = some (.string (l.getD j ByteArray.empty))

theorem toList_inj {s t : ByteArray} (h : s.toList = t.toList) : s = t := by
  rw [Lib.toList_data, Lib.toList_data] at h
  cases s; cases t
  simp only [ByteArray.mk.injEq] at h ⊢
  exact Array.toList_inj.1 h

set_option maxHeartbeats 1000000 in
theorem keepStrings_one (b off b' off' cap cap' m : Nat) (x y : List ByteArray) (w : World) (lx : Hid (x.length = m)) (ly : Hid (y.length = m)) (hm : m ≤ maxLen)
    (hx : ∀ j, j < m → w.cell? ⟨b, off + j, none⟩ = some (.string (x.getD j ByteArray.empty)))
    (hy : ∀ j, j < m → w.cell? ⟨b', off' + j, none⟩ = some (.string (y.getD j ByteArray.empty))) :
    Calls Try.prog 15 #[.slice (some ⟨b, off, none⟩) m cap, .slice (some ⟨b', off', none⟩) m cap'] w fun e w' => e = .returned (.bool (decide (x = y))) ∧ ∃ n, w' = w.drewN n := by
  unfold maxLen at hm
  have X := hid hx
  have Y := hid hy
  clear hx hy
  go_enter Try.func15, Try.ntmps15
  go_wp2
  go_loopw [5] (fun i wr => ∃ k n : Nat, k ≤ m ∧ i = .int .i64 k ∧ wr = w.drewN n ∧ Hid (x.take k = y.take k)) (fun i _ => m - (intOf i).toNat)
  case atStart => exact ⟨0, 0, by omega, rfl, rfl, rfl⟩
  case round =>
    obtain ⟨k, n, hk, rfl, rfl, hE⟩ := hrel
    by_cases hlt : k < m
    · obtain ⟨s, hs⟩ : ∃ s, s = x.getD k ByteArray.empty := ⟨_, rfl⟩
      obtain ⟨t, ht⟩ : ∃ t, t = y.getD k ByteArray.empty := ⟨_, rfl⟩
      have cx : w.cell? ⟨b, off + k, none⟩ = some (.string s) := by rw [hs]; exact X.out k hlt
      have cy : w.cell? ⟨b', off' + k, none⟩ = some (.string t) := by rw [ht]; exact Y.out k hlt
      have S := hid hs
      have T := hid ht
      clear hs ht
      by_cases hst : s = t
      · have hnx : Hid (x.take (k + 1) = y.take (k + 1)) := by
          show _ = _
          have l1 : k < x.length := by have := lx.out; omega
          have l2 : k < y.length := by have := ly.out; omega
          rw [List.take_succ_eq_append_getElem l1, List.take_succ_eq_append_getElem l2, hE.out]
          have := S.out.symm.trans (hst.trans T.out)
          simp [l1, l2] at this
          rw [this]
        subst hst
        go_wp2
        go_quiet (fail)
        go_wp2
        go_roundw
        case rel => exact ⟨k + 1, _, by omega, by go_num, rfl, hnx⟩
        case measure => simp [intOf]; omega
      · have hn : (s.toList == t.toList) = false := by rw [beq_eq_false_iff_ne]; exact fun e => hst (toList_inj e)
        have hne : Hid (decide (x = y) = false) := by
          show _ = _
          simp only [decide_eq_false_iff_not]
          rintro rfl
          exact hst (S.out.trans T.out.symm)
        go_wp2
        go_quiet (fail)
        go_wp2
        go_ret
        exact ⟨ret_bool hne.out.symm, n + nq, by simp⟩
    · have hkm : k = m := by omega
      have he : Hid (decide (x = y) = true) := by
        show _ = _
        have e1 : x = x.take k := (List.take_of_length_le (by have := lx.out; omega)).symm
        have e2 : y = y.take k := (List.take_of_length_le (by have := ly.out; omega)).symm
        simp only [decide_eq_true_eq]
        rw [e1, e2, hE.out]
      clear hkm
      go_wp2
      go_ret
      exact ⟨ret_bool he.out.symm, _, rfl⟩

theorem keepStrings_len (a a' : Option Addr) (cap cap' m n : Nat) (hne : m ≠ n) (w : World) :
    Calls Try.prog 15 #[.slice a m cap, .slice a' n cap'] w fun e w' => e = .returned (.bool false) ∧ w = w' := by
  have h : ((m : Int) == (n : Int)) = false := by simp; omega
  go_enter Try.func15, Try.ntmps15
  go_wp2
  go_ret
  exact ⟨rfl, rfl⟩
theorem keepStrings_nil (a a' : Option Addr) (cap cap' : Nat) (w : World) :
    Calls Try.prog 15 #[.slice a 0 cap, .slice a' 0 cap'] w fun e w' => e = .returned (.bool true) ∧ w = w' := by
  go_enter Try.func15, Try.ntmps15
  go_wp2
  refine wp_loop_rounds 1 ?_
  rw [rounds_succ]
  go_wp2
  go_ret
  exact ⟨rfl, rfl⟩
end Go.Proofs.Ytlhocklcfhkbnaa.Sc
