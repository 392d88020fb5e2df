/-
  THE CONTRACT OF THE REFERENCE's Fields.
-/
import Derived.Test.YtlhocklcfhkbnaaScanH
namespace Go.Proofs.Ytlhocklcfhkbnaa.Sc
set_option linter.unusedSimpArgs false
set_option linter.unusedVariables false
open Go.RowKit Sp Sm

set_option maxHeartbeats 2000000 in
set_option maxRecDepth 100000 in
theorem refFields (s : ByteArray) (c : UInt8) (w : World) (hs : s.size ≤ 100000) :
    Calls Try.prog 19 #[.string s, .int .u8 (c.toNat : Int)] w (FieldsPost s c w) := by
  obtain ⟨i0, hi, hz0, hz1, hz2⟩ := info_parts strInfo
  have hsm : s.size ≤ maxLen := by unfold maxLen; omega
  go_enter Try.func19, Try.ntmps19
  go_wp2
  go_loopw [5, 6] (fun v i wr => ∃ k : Nat, k ≤ s.size ∧ i = .int .i64 k ∧ FieldsRel s c w v k wr) (fun _ i _ => s.size - (intOf i).toNat)
  case atStart => exact ⟨0, by omega, rfl, [], by simp, rfl, World.ownsRow_nil _ _ _ _, Below.refl _ _, Nat.le_refl _⟩
  case round =>
    obtain ⟨k, hk, rfl, acc, ha, hL, hown, hbel, hsz⟩ := hrel
    have HL := hid hL
    clear hL
    by_cases hlt : k < s.size
    · have hbi := hid (blank_int s[k])
      by_cases hb : blankB s[k] = true
      · have hL' : Hid (acc ++ fieldsF s c (k + 1) = fieldsF s c 0) := by show _ = _; rw [← HL.out, fieldsF_blank s c k hlt hb]
        have hor : ((s[k].toNat : Int) == 9) = true ∨ (((s[k].toNat : Int) == 9) = false ∧ ((s[k].toNat : Int) == 32) = true) := by
          have := hbi.out; rw [hb] at this; simp at this ⊢; omega
        clear hb hbi
        rcases hor with h9 | ⟨h9, h32⟩
        all_goals
          go_wp2
          go_roundw
          case rel => exact ⟨k + 1, by omega, by go_num, acc, by omega, hL'.out, hown, hbel, hsz⟩
          case measure => simp [intOf]; omega
      · have hb' : blankB s[k] = false := by simpa using hb
        have h9 : ((s[k].toNat : Int) == 9) = false := by have := hbi.out; rw [hb'] at this; simp at this ⊢; omega
        have h32 : ((s[k].toNat : Int) == 32) = false := by have := hbi.out; rw [hb'] at this; simp at this ⊢; omega
        clear hb hbi
        by_cases hc : s[k] = c
        · have hN := hid (fieldsF_comment s c k hlt hb' hc)
          have hci := u8_is hc
          clear hc hb'
          go_wp2
          go_ret
          exact fields_out HL hN.out hown hbel hsz
        · have hL' : Hid ((acc ++ [s.extract k (endAt blankB s.data.toList k)]) ++ fieldsF s c (endAt blankB s.data.toList k) = fieldsF s c 0) := by
            show _ = _; rw [← HL.out, fieldsF_word s c k hlt hb' hc]; simp
          have hci := u8_ne hc
          have g1 := endAt_gt blankB s k hlt hb'
          have g2 : endAt blankB s.data.toList k ≤ s.size := by have := endAt_le blankB s.data.toList k (by simp; omega); rwa [len_data] at this
          obtain ⟨m, hm⟩ : ∃ m, m = endAt blankB s.data.toList k := ⟨_, rfl⟩
          rw [← hm] at hL' g1 g2
          have HM := hid hm
          clear hc hm hb'
          go_wp2
          go_loop [7] (fun i => ∃ j : Nat, k ≤ j ∧ j ≤ s.size ∧ i = .int .i64 j ∧ Hid (m = endAt blankB s.data.toList j)) (fun i => s.size - (intOf i).toNat)
          case atStart => exact ⟨k, by omega, by omega, rfl, HM⟩
          case round =>
            obtain ⟨j, hj1, hj2, rfl, hE⟩ := hrel
            by_cases hjl : j < s.size
            · have hbj := hid (blank_int s[j])
              by_cases hb : blankB s[j] = true
              · have hmj : m = j := by rw [hE.out]; exact endAt_stop _ s j hjl hb
                have hor : ((s[j].toNat : Int) != 9) = false ∨ (((s[j].toNat : Int) != 9) = true ∧ ((s[j].toNat : Int) != 32) = false) := by
                  have := hbj.out; rw [hb] at this; simp at this ⊢; omega
                clear hb hbj
                subst hmj
                rcases hor with x9 | ⟨x9, x32⟩
                all_goals
                  go_wp2_with (at_builtin; refine app_one rfl _ _ _ rfl 9 i0 _ 1 16 Try.underlying22 hi hz0 hz1 hz2 rfl (by decide) (by decide) w.heap.size w wr u5 acc.length (strs acc) [.string (s.extract k m)] rfl hown hbel hsz rfl rfl (by simp [Value.oneCell']) (by omega) ?_; intro v1 w1 hown1 hbel1 hsz1)
                  go_roundw
                  case rel => exact ⟨m, by omega, rfl, acc ++ [s.extract k m], by simp; omega, hL'.out, by rw [List.length_append, strs_append]; exact hown1, hbel1, hsz1⟩
                  case measure => simp [intOf]; omega
              · have hb' : blankB s[j] = false := by simpa using hb
                have x9 : ((s[j].toNat : Int) != 9) = true := by have := hbj.out; rw [hb'] at this; simp at this ⊢; omega
                have x32 : ((s[j].toNat : Int) != 32) = true := by have := hbj.out; rw [hb'] at this; simp at this ⊢; omega
                have hE' : Hid (m = endAt blankB s.data.toList (j + 1)) := by show _ = _; rw [hE.out]; exact endAt_step _ s j hjl hb'
                clear hb hbj hb'
                go_wp2
                go_round
                case rel => exact ⟨j + 1, by omega, by omega, by go_num, hE'⟩
                case measure => simp [intOf]; omega
            · have hmj : m = j := by rw [hE.out]; exact endAt_end _ _ j (by simp; omega)
              subst hmj
              go_wp2_with (at_builtin; refine app_one rfl _ _ _ rfl 9 i0 _ 1 16 Try.underlying22 hi hz0 hz1 hz2 rfl (by decide) (by decide) w.heap.size w wr u5 acc.length (strs acc) [.string (s.extract k m)] rfl hown hbel hsz rfl rfl (by simp [Value.oneCell']) (by omega) ?_; intro v1 w1 hown1 hbel1 hsz1)
              go_roundw
              case rel => exact ⟨m, by omega, rfl, acc ++ [s.extract k m], by simp; omega, hL'.out, by rw [List.length_append, strs_append]; exact hown1, hbel1, hsz1⟩
              case measure => simp [intOf]; omega
    · have hN := hid (fieldsF_end s c k hlt)
      go_wp2
      go_ret
      exact fields_out HL hN.out hown hbel hsz
end Go.Proofs.Ytlhocklcfhkbnaa.Sc
