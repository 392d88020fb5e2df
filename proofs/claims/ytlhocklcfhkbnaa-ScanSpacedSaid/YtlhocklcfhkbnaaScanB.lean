/-
  THE CONTRACTS OF scan.runEnd, scan.Name AND THE REFERENCE's Name.
-/
import Derived.Test.YtlhocklcfhkbnaaScanA
namespace Go.Proofs.Ytlhocklcfhkbnaa.Sc
set_option linter.unusedSimpArgs false
set_option linter.unusedVariables false
open Go.RowKit Sp

theorem ret_int {k : IntKind} {a b : Int} (h : a = b) : Ending.returned (.int k a) = .returned (.int k b) := by rw [h]

set_option maxHeartbeats 1000000 in
theorem runEnd (s : ByteArray) (k0 : Nat) (st : ByteArray) (w : World) (hs : s.size ≤ maxLen) (h0 : k0 ≤ s.size) :
    Calls Try.prog 29 #[.string s, .int .i64 (k0 : Int), .string st] w fun e w' => e = .returned (.int .i64 (endAt (inB st.data.toList) s.data.toList k0 : Nat)) ∧ w = w' := by
  unfold maxLen at hs
  go_enter Try.func29, Try.ntmps29
  go_wp2
  go_loop [7] (fun i => ∃ k : Nat, k ≤ s.size ∧ i = .int .i64 k ∧ Hid (endAt (inB st.data.toList) s.data.toList k0 = endAt (inB st.data.toList) s.data.toList k)) (fun i => s.size - (intOf i).toNat)
  case atStart => exact ⟨k0, h0, rfl, rfl⟩
  case round =>
    obtain ⟨k, hk, rfl, hE⟩ := hrel
    by_cases hlt : k < s.size
    · by_cases hp : inB st.data.toList s[k] = true
      · go_wp2_with (go_at_call 28; refine (isIn _ _ _).mono ?_; rintro e w' ⟨rfl, rfl⟩)
        go_ret
        exact ⟨ret_int (by rw [hE.out, endAt_stop _ s k hlt hp]), rfl⟩
      · have hp' : inB st.data.toList s[k] = false := by simpa using hp
        clear hp
        go_wp2_with (go_at_call 28; refine (isIn _ _ _).mono ?_; rintro e w' ⟨rfl, rfl⟩)
        go_round
        case rel => exact ⟨k + 1, by omega, by go_num, hE.out.trans (endAt_step _ s k hlt hp')⟩
        case measure => simp [intOf]; omega
    · go_wp2
      go_ret
      exact ⟨ret_int (by rw [hE.out, endAt_end _ _ k (by simp; omega)]), rfl⟩
theorem runEnd_blanks (s : ByteArray) (k : Nat) (w : World) (hs : s.size ≤ maxLen) (h0 : k ≤ s.size) :
    Calls Try.prog 29 #[.string s, .int .i64 (k : Int), .string ⟨#[9, 32]⟩] w fun e w' => e = .returned (.int .i64 (endAt blankB s.data.toList k : Nat)) ∧ w = w' := by
  refine (runEnd s k _ w hs h0).mono ?_
  rintro e w' ⟨rfl, rfl⟩
  exact ⟨ret_int (by rw [endAt_congr _ blankB (fun c => in_blanks c)]), rfl⟩
theorem runEnd_stops (s : ByteArray) (k : Nat) (w : World) (hs : s.size ≤ maxLen) (h0 : k ≤ s.size) :
    Calls Try.prog 29 #[.string s, .int .i64 (k : Int), .string ⟨#[9, 32, 123, 125, 59, 35]⟩] w fun e w' => e = .returned (.int .i64 (endAt stopB s.data.toList k : Nat)) ∧ w = w' := by
  refine (runEnd s k _ w hs h0).mono ?_
  rintro e w' ⟨rfl, rfl⟩
  exact ⟨ret_int (by rw [endAt_congr _ stopB (fun c => in_stops c)]), rfl⟩
end Go.Proofs.Ytlhocklcfhkbnaa.Sc
