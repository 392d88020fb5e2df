/-
  THE CONTRACTS OF scan.isDigit, scan.Number AND THE REFERENCE's Number, by themselves (for a seat that lacks scan's other functions).
-/
import Derived.Test.YtppdhcjmdgkadaaDoorRows
import Derived.Test.YtppdhcjmdgkadaaDoorScanP
import Derived.Test.YtppdhcjmdgkadaaDoorScanPn
import Derived.WalkKit
import Derived.WalkSpells
import Derived.Lib.Bytealg
import Derived.Lib.Strings
namespace Go.Proofs.YtppdhcjmdgkadaaDoor.Sc
set_option linter.unusedSimpArgs false
set_option linter.unusedVariables false
open Go.RowKit Sp

theorem hid {p : Prop} (h : p) : Hid p := h
theorem ret_bool {a b : Bool} (h : a = b) : Ending.returned (.bool a) = .returned (.bool b) := by rw [h]

theorem toList_nil (s : ByteArray) (h : s.size = 0) : s.toList = [] := by
  rw [Lib.toList_data]; exact List.eq_nil_of_length_eq_zero (by rw [len_data]; exact h)
theorem toList_ne (s : ByteArray) (h : 0 < s.size) : s.toList.isEmpty = false := by
  rw [Lib.toList_data]
  cases e : s.data.toList with
  | nil => have := congrArg List.length e; simp only [len_data, List.length_nil] at this; omega
  | cons _ _ => rfl

set_option maxHeartbeats 1000000 in
theorem isDigit (c : UInt8) (w : World) :
    Calls Tryd.prog 58 #[.int .u8 (c.toNat : Int)] w fun e w' => e = .returned (.bool (digitB c)) ∧ w = w' := by
  go_enter Tryd.func58, Tryd.ntmps58
  go_wp2
  all_goals go_ret
  all_goals exact ⟨ret_bool (by rw [digit_int, Bool.eq_iff_iff]; simp; omega), rfl⟩

theorem ret_num {a a' : Int} {b b' : Bool} (h : a = a') (g : b = b') : Ending.returned (.tuple #[.int .i64 a, .bool b]) = .returned (.tuple #[.int .i64 a', .bool b']) := by rw [h, g]

theorem u8ne (c : UInt8) (h : c ≠ 48) : ¬ ((c.toNat : Int) = 48) := fun e => h (UInt8.toNat_inj.1 (by simpa using (by omega : c.toNat = 48)))

set_option maxHeartbeats 2000000 in
theorem number (s : ByteArray) (a b : Int) (w : World) (hs : s.size ≤ maxLen) :
    Calls Tryd.prog 44 #[.string s, .int .i64 a, .int .i64 b] w fun e w' => e = .returned (.tuple #[.int .i64 (numV s.data.toList a b), .bool (numB s.data.toList a b)]) ∧ w = w' := by
  unfold maxLen at hs
  have bad : numB s.data.toList a b = false → Ending.returned (.tuple #[.int .i64 0, .bool false]) = .returned (.tuple #[.int .i64 (numV s.data.toList a b), .bool (numB s.data.toList a b)]) := fun h => by
    rw [numV_no h, h]
  have B := hid bad
  clear bad
  by_cases h0 : s.size = 0
  · have hN := hid (numB_short s a b h0)
    have he := toList_nil s h0
    have hl0 : s.size < 1 := by omega
    clear h0
    go_enter Tryd.func44, Tryd.ntmps44
    go_wp2
    go_ret2
    exact ⟨B.out hN.out, rfl⟩
  · have h1 : 0 < s.size := by omega
    have he := toList_ne s h1
    have he2 : ¬ s.toList = [] := by intro h; rw [h] at he; cases he
    clear h0
    by_cases h15 : 10 < s.size
    · have hN := hid (numB_long s a b h15)
      go_enter Tryd.func44, Tryd.ntmps44
      go_wp2
      go_ret2
      exact ⟨B.out hN.out, rfl⟩
    · by_cases hz : s[0] = 48 ∧ 1 < s.size
      · have hN := hid (numB_zero s a b hz.2 hz.1)
        have hz1 : (s[0].toNat : Int) = 48 := by rw [hz.1]; rfl
        have hz2 := hz.2
        clear hz
        go_enter Tryd.func44, Tryd.ntmps44
        go_wp2
        go_ret2
        exact ⟨B.out hN.out, rfl⟩
      · have hzz : s.size = 1 ∨ s[0] ≠ 48 := by
          by_cases h : s.size = 1
          · exact .inl h
          · exact .inr fun e => hz ⟨e, by omega⟩
        have hzi : (¬ ((s[0].toNat : Int) = 48)) ∨ (((s[0].toNat : Int) = 48) ∧ s.size ≤ 1) := by
          by_cases h : (s[0].toNat : Int) = 48
          · refine .inr ⟨h, ?_⟩
            rcases hzz with e | e
            · omega
            · exact absurd h (u8ne _ e)
          · exact .inl h
        have ok := hid (numB_ok s a b h1 (by omega) hzz)
        clear hz hzz
        rcases hzi with hzi | ⟨hz1, hz2⟩
        all_goals
          go_enter Tryd.func44, Tryd.ntmps44
          go_wp2
          go_loop [8, 9] (fun v i => ∃ k : Nat, k ≤ s.size ∧ i = .int .i64 k ∧ v = .int .i64 (valTo s k) ∧ Hid (digTo s k = true)) (fun _ i => s.size - (intOf i).toNat)
          case atStart => exact ⟨0, by omega, rfl, rfl, rfl⟩
          case round =>
            obtain ⟨k, hk, rfl, rfl, hD⟩ := hrel
            by_cases hlt : k < s.size
            · have hv := valTo_le s k hk (by omega) hD.out
              have hsu := hid (valTo_succ s k hlt)
              have hds := hid (digTo_succ s k hlt)
              have hdi := hid (digit_int s[k])
              by_cases hp : digitB s[k] = true
              · have hb : 48 ≤ (s[k].toNat : Int) ∧ (s[k].toNat : Int) ≤ 57 := by have := hdi.out; rw [hp] at this; simpa using this.symm
                obtain ⟨hb1, hb2⟩ := hb
                go_wp2_with (go_at_call 58; refine (isDigit _ _).mono ?_; rintro e w' ⟨rfl, rfl⟩)
                go_round
                case rel => exact ⟨k + 1, by omega, by go_num, by rw [hsu.out], hds.out.trans (by rw [hD.out, hp]; rfl)⟩
                case measure => simp [intOf]; omega
              · have hp' : digitB s[k] = false := by simpa using hp
                have hb : ¬ (48 ≤ (s[k].toNat : Int) ∧ (s[k].toNat : Int) ≤ 57) := by have := hdi.out; rw [hp'] at this; simpa using this.symm
                have hN := hid (numB_dig s a b (digTo_no s (k + 1) s.size (hds.out.trans (by rw [hD.out, hp']; rfl)) (by omega) (Nat.le_refl _)))
                clear hp
                go_wp2_with (go_at_call 58; refine (isDigit _ _).mono ?_; rintro e w' ⟨rfl, rfl⟩)
                go_ret2
                exact ⟨B.out hN.out, rfl⟩
            · have hkl : k = s.size := by omega
              have hv := valTo_le10 s k hk (by omega) hD.out
              have hE : Hid (valTo s k = valTo s s.size) := by show _ = _; rw [hkl]
              have hok : Hid (numB s.data.toList a b = (decide (a ≤ valTo s k) && decide (valTo s k ≤ b))) := by show _ = _; rw [ok.out (by rw [← hkl]; exact hD.out), hkl]
              clear hkl ok
              by_cases ha : a ≤ valTo s k
              · by_cases hb : valTo s k ≤ b
                · have hy : Hid (numB s.data.toList a b = true) := by show _ = _; rw [hok.out]; simp [ha, hb]
                  go_wp2
                  go_ret2
                  exact ⟨ret_num (by rw [numV_yes s hy.out, hE.out]) hy.out.symm, rfl⟩
                · have hn : Hid (numB s.data.toList a b = false) := by show _ = _; rw [hok.out]; simp [hb]
                  go_wp2
                  go_ret2
                  exact ⟨B.out hn.out, rfl⟩
              · have hn : Hid (numB s.data.toList a b = false) := by show _ = _; rw [hok.out]; simp [ha]
                go_wp2
                go_ret2
                exact ⟨B.out hn.out, rfl⟩

set_option maxHeartbeats 2000000 in
theorem refNumber (s : ByteArray) (a b : Int) (w : World) (hs : s.size ≤ maxLen) :
    Calls Tryd.prog 45 #[.string s, .int .i64 a, .int .i64 b] w fun e w' => e = .returned (.tuple #[.int .i64 (numV s.data.toList a b), .bool (numB s.data.toList a b)]) ∧ w = w' := by
  unfold maxLen at hs
  have bad : numB s.data.toList a b = false → Ending.returned (.tuple #[.int .i64 0, .bool false]) = .returned (.tuple #[.int .i64 (numV s.data.toList a b), .bool (numB s.data.toList a b)]) := fun h => by
    rw [numV_no h, h]
  have B := hid bad
  clear bad
  by_cases h0 : s.size = 0
  · have hN := hid (numB_short s a b h0)
    have he := toList_nil s h0
    have hl0 : s.size < 1 := by omega
    clear h0
    go_enter Tryd.func45, Tryd.ntmps45
    go_wp2
    go_ret2
    exact ⟨B.out hN.out, rfl⟩
  · have h1 : 0 < s.size := by omega
    have he := toList_ne s h1
    have he2 : ¬ s.toList = [] := by intro h; rw [h] at he; cases he
    clear h0
    by_cases h15 : 10 < s.size
    · have hN := hid (numB_long s a b h15)
      go_enter Tryd.func45, Tryd.ntmps45
      go_wp2
      go_ret2
      exact ⟨B.out hN.out, rfl⟩
    · by_cases hz : s[0] = 48 ∧ 1 < s.size
      · have hN := hid (numB_zero s a b hz.2 hz.1)
        have hz1 : (s[0].toNat : Int) = 48 := by rw [hz.1]; rfl
        have hz2 := hz.2
        clear hz
        go_enter Tryd.func45, Tryd.ntmps45
        go_wp2
        go_ret2
        exact ⟨B.out hN.out, rfl⟩
      · have hzz : s.size = 1 ∨ s[0] ≠ 48 := by
          by_cases h : s.size = 1
          · exact .inl h
          · exact .inr fun e => hz ⟨e, by omega⟩
        have hzi : (¬ ((s[0].toNat : Int) = 48)) ∨ (((s[0].toNat : Int) = 48) ∧ s.size ≤ 1) := by
          by_cases h : (s[0].toNat : Int) = 48
          · refine .inr ⟨h, ?_⟩
            rcases hzz with e | e
            · omega
            · exact absurd h (u8ne _ e)
          · exact .inl h
        have ok := hid (numB_ok s a b h1 (by omega) hzz)
        clear hz hzz
        rcases hzi with hzi | ⟨hz1, hz2⟩
        all_goals
          go_enter Tryd.func45, Tryd.ntmps45
          go_wp2
          go_loop [8, 9] (fun v i => ∃ k : Nat, k ≤ s.size ∧ i = .int .i64 k ∧ v = .int .i64 (valTo s k) ∧ Hid (digTo s k = true)) (fun _ i => s.size - (intOf i).toNat)
          case atStart => exact ⟨0, by omega, rfl, rfl, rfl⟩
          case round =>
            obtain ⟨k, hk, rfl, rfl, hD⟩ := hrel
            by_cases hlt : k < s.size
            · have hv := valTo_le s k hk (by omega) hD.out
              have hsu := hid (valTo_succ s k hlt)
              have hds := hid (digTo_succ s k hlt)
              have hdi := hid (digit_int s[k])
              by_cases hp : digitB s[k] = true
              · have hb : 48 ≤ (s[k].toNat : Int) ∧ (s[k].toNat : Int) ≤ 57 := by have := hdi.out; rw [hp] at this; simpa using this.symm
                obtain ⟨hb1, hb2⟩ := hb
                go_wp2
                go_round
                case rel => exact ⟨k + 1, by omega, by go_num, by rw [hsu.out], hds.out.trans (by rw [hD.out, hp]; rfl)⟩
                case measure => simp [intOf]; omega
              · have hp' : digitB s[k] = false := by simpa using hp
                have hb : ¬ (48 ≤ (s[k].toNat : Int) ∧ (s[k].toNat : Int) ≤ 57) := by have := hdi.out; rw [hp'] at this; simpa using this.symm
                have hN := hid (numB_dig s a b (digTo_no s (k + 1) s.size (hds.out.trans (by rw [hD.out, hp']; rfl)) (by omega) (Nat.le_refl _)))
                clear hp
                go_wp2
                all_goals go_ret2
                all_goals exact ⟨B.out hN.out, rfl⟩
            · have hkl : k = s.size := by omega
              have hv := valTo_le10 s k hk (by omega) hD.out
              have hE : Hid (valTo s k = valTo s s.size) := by show _ = _; rw [hkl]
              have hok : Hid (numB s.data.toList a b = (decide (a ≤ valTo s k) && decide (valTo s k ≤ b))) := by show _ = _; rw [ok.out (by rw [← hkl]; exact hD.out), hkl]
              clear hkl ok
              by_cases ha : a ≤ valTo s k
              · by_cases hb : valTo s k ≤ b
                · have hy : Hid (numB s.data.toList a b = true) := by show _ = _; rw [hok.out]; simp [ha, hb]
                  go_wp2
                  go_ret2
                  exact ⟨ret_num (by rw [numV_yes s hy.out, hE.out]) hy.out.symm, rfl⟩
                · have hn : Hid (numB s.data.toList a b = false) := by show _ = _; rw [hok.out]; simp [hb]
                  go_wp2
                  go_ret2
                  exact ⟨B.out hn.out, rfl⟩
              · have hn : Hid (numB s.data.toList a b = false) := by show _ = _; rw [hok.out]; simp [ha]
                go_wp2
                go_ret2
                exact ⟨B.out hn.out, rfl⟩
end Go.Proofs.YtppdhcjmdgkadaaDoor.Sc
