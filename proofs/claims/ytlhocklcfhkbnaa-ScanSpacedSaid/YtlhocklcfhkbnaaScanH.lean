/-
  THE CONTRACT OF scan.Fields.
-/
import Derived.Test.YtlhocklcfhkbnaaScanB
import Derived.Test.YtlhocklcfhkbnaaScanF
import Derived.Test.YtlhocklcfhkbnaaScanPf
namespace Go.Proofs.Ytlhocklcfhkbnaa.Sc
set_option linter.unusedSimpArgs false
set_option linter.unusedVariables false
open Go.RowKit Sp Sm

/-- What Fields leaves: the fields in memory of its own. -/
def FieldsPost (s : ByteArray) (c : UInt8) (w : World) (e : Ending) (w' : World) : Prop :=
  ∃ v, e = .returned v ∧ w'.ownsRow w.heap.size 9 1 v (fieldsF s c 0).length (strs (fieldsF s c 0)) ∧ Below w.heap.size w w' ∧ w.heap.size ≤ w'.heap.size

def FieldsRel (s : ByteArray) (c : UInt8) (w : World) (v : Value) (k : Nat) (wr : World) : Prop :=
  ∃ acc : List ByteArray, acc.length ≤ k ∧ acc ++ fieldsF s c k = fieldsF s c 0 ∧
    wr.ownsRow w.heap.size 9 1 v acc.length (strs acc) ∧ Below w.heap.size w wr ∧ w.heap.size ≤ wr.heap.size

theorem fields_out {s : ByteArray} {c : UInt8} {w wr : World} {v : Value} {acc : List ByteArray} {k : Nat} (HL : Hid (acc ++ fieldsF s c k = fieldsF s c 0)) (h : fieldsF s c k = [])
    (hown : wr.ownsRow w.heap.size 9 1 v acc.length (strs acc)) (hbel : Below w.heap.size w wr) (hsz : w.heap.size ≤ wr.heap.size) : FieldsPost s c w (.returned v) wr := by
  have e : fieldsF s c 0 = acc := by rw [← HL.out, h, List.append_nil]
  exact ⟨v, rfl, by rw [e]; exact hown, hbel, hsz⟩

set_option maxHeartbeats 2000000 in
set_option maxRecDepth 100000 in
theorem fields (s : ByteArray) (c : UInt8) (w : World) (hs : s.size ≤ 100000) :
    Calls Try.prog 18 #[.string s, .int .u8 (c.toNat : Int)] w (FieldsPost s c w) := by
  obtain ⟨i0, hi, hz0, hz1, hz2⟩ := info_parts strInfo
  have hsm : s.size ≤ maxLen := by unfold maxLen; omega
  go_enter Try.func18, Try.ntmps18
  go_wp2
  go_loopw [5, 6] (fun v i wr => ∃ k : Nat, k ≤ s.size ∧ i = .int .i64 k ∧ FieldsRel s c w v k wr) (fun _ i _ => s.size - (intOf i).toNat)
  case atStart => exact ⟨0, by omega, rfl, [], by simp, rfl, World.ownsRow_nil _ _ _ _, Below.refl _ _, Nat.le_refl _⟩
  case round =>
    obtain ⟨k, hk, rfl, acc, ha, hL, hown, hbel, hsz⟩ := hrel
    have HL := hid hL
    clear hL
    by_cases hlt : k < s.size
    · by_cases hb : blankB s[k] = true
      · have hL' : Hid (acc ++ fieldsF s c (k + 1) = fieldsF s c 0) := by show _ = _; rw [← HL.out, fieldsF_blank s c k hlt hb]
        go_wp2_with (go_at_call 28; refine (isIn_blanks _ _).mono ?_; rintro e w' ⟨rfl, rfl⟩)
        go_roundw
        case rel => exact ⟨k + 1, by omega, by go_num, acc, by omega, hL'.out, hown, hbel, hsz⟩
        case measure => simp [intOf]; omega
      · have hb' : blankB s[k] = false := by simpa using hb
        clear hb
        by_cases hc : s[k] = c
        · have hN := hid (fieldsF_comment s c k hlt hb' hc)
          have hci := u8_is hc
          clear hc
          go_wp2_with (go_at_call 28; refine (isIn_blanks _ _).mono ?_; rintro e w' ⟨rfl, rfl⟩)
          go_ret
          exact fields_out HL hN.out hown hbel hsz
        · have hL' : Hid ((acc ++ [s.extract k (endAt blankB s.data.toList k)]) ++ fieldsF s c (endAt blankB s.data.toList k) = fieldsF s c 0) := by
            show _ = _; rw [← HL.out, fieldsF_word s c k hlt hb' hc]; simp
          have hci := u8_ne hc
          have g1 := endAt_gt blankB s k hlt hb'
          have g2 : endAt blankB s.data.toList k ≤ s.size := by have := endAt_le blankB s.data.toList k (by simp; omega); rwa [len_data] at this
          have R := fun wx => runEnd_blanks s k wx hsm hk
          obtain ⟨m, hm⟩ : ∃ m, m = endAt blankB s.data.toList k := ⟨_, rfl⟩
          rw [← hm] at hL' g1 g2 R
          clear hc hm
          go_wp2_with (first
            | (go_at_call 28; refine (isIn_blanks _ _).mono ?_; rintro e w' ⟨rfl, rfl⟩)
            | (go_at_call 29; refine (R _).mono ?_; rintro e w' ⟨rfl, rfl⟩)
            | (at_builtin; refine app_one rfl _ _ _ rfl 9 i0 _ 1 16 Try.underlying22 hi hz0 hz1 hz2 rfl (by decide) (by decide) w.heap.size w wr u5 acc.length (strs acc) [.string (s.extract k m)] rfl hown hbel hsz rfl rfl (by simp [Value.oneCell']) (by omega) ?_; intro v1 w1 hown1 hbel1 hsz1))
          go_roundw
          case rel => exact ⟨m, by omega, rfl, acc ++ [s.extract k m], by simp; omega, hL'.out, by rw [List.length_append, strs_append]; exact hown1, hbel1, hsz1⟩
          case measure => simp [intOf]; omega
    · have hN := hid (fieldsF_end s c k hlt)
      go_wp2
      go_ret
      exact fields_out HL hN.out hown hbel hsz
end Go.Proofs.Ytlhocklcfhkbnaa.Sc
