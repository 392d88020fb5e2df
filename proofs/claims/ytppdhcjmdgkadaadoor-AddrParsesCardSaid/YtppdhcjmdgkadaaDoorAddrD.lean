/-
  THE CONTRACTS OF addr.Parse AND OF THE REFERENCE's Address, and of what they call: strings.Cut at a byte.
-/
import Derived.Test.YtppdhcjmdgkadaaDoorAddrA
import Derived.Test.YtppdhcjmdgkadaaDoorAddrS
import Derived.Test.YtppdhcjmdgkadaaDoorLater
namespace Go.Proofs.YtppdhcjmdgkadaaDoor.Ad
set_option linter.unusedSimpArgs false
set_option linter.unusedVariables false
open Go.RowKit Sp Sc Am As Kt

theorem index (s : ByteArray) (c : UInt8) (w : World) :
    Calls Tryd.prog 64 #[.string s, .string ⟨#[c]⟩] w fun e w' => e = .returned (.int .i64 (Lib.indexByte s.data.toList c)) ∧ w = w' := by
  refine (Tryd.stringslite_Index_one s c w).mono ?_
  rintro e w' ⟨rfl, rfl⟩
  exact ⟨rfl, rfl⟩

theorem ret_cut {a a' b b' : ByteArray} {x x' : Bool} (h : a = a') (g : b = b') (k : x = x') : Ending.returned (.tuple #[.string a, .string b, .bool x]) = .returned (.tuple #[.string a', .string b', .bool x']) := by rw [h, g, k]

set_option maxHeartbeats 1000000 in
theorem lite_cut (s : ByteArray) (c : UInt8) (w : World) (hs : s.size ≤ maxLen) :
    Calls Tryd.prog 57 #[.string s, .string ⟨#[c]⟩] w fun e w' => e = .returned (.tuple #[.string ⟨(partL c s.data.toList).toArray⟩, .string ⟨(restL c s.data.toList).toArray⟩, .bool (hasB c s.data.toList)]) ∧ Below w.heap.size w w' := by
  unfold maxLen at hs
  have hI := fun wx => index s c wx
  rw [index_cut] at hI
  have hle := cutAt_le c s.data.toList
  rw [len_data] at hle hI
  by_cases h : cutAt c s.data.toList < s.size
  · rw [if_pos h] at hI
    have hp : Hid ((s.extract 0 (cutAt c s.data.toList)).data.toList = partL c s.data.toList) := by
      show _ = _; unfold partL; rw [Lib.extract_data]; simp
    have hr : Hid ((s.extract (cutAt c s.data.toList + 1) s.size).data.toList = restL c s.data.toList) := by
      show _ = _; unfold restL; rw [Lib.extract_data, List.take_of_length_le (by simp)]
    have hb : Hid (hasB c s.data.toList = true) := by show _ = _; unfold hasB; rw [len_data]; simpa using h
    generalize cutAt c s.data.toList = k at *
    go_enter Tryd.func57, Tryd.ntmps57
    go_wp2_with (go_at_call 64; refine (hI _).mono ?_; rintro e w' ⟨rfl, rfl⟩)
    go_quiet (fail)
    go_wp2
    go_ret3
    exact ⟨ret_cut (by rw [← hp.out]) (by rw [← hr.out]) hb.out.symm, drewN_below _ _ _⟩
  · rw [if_neg h] at hI
    have hp : Hid (s = ⟨(partL c s.data.toList).toArray⟩) := by
      show _ = _; unfold partL; rw [List.take_of_length_le (by rw [len_data]; omega)]
    have hr : Hid (restL c s.data.toList = []) := by
      show _ = _; unfold restL; rw [List.drop_eq_nil_of_le (by rw [len_data]; omega)]
    have hb : Hid (hasB c s.data.toList = false) := by show _ = _; unfold hasB; rw [len_data]; simpa using h
    clear h hle
    go_enter Tryd.func57, Tryd.ntmps57
    go_wp2_with (go_at_call 64; refine (hI _).mono ?_; rintro e w' ⟨rfl, rfl⟩)
    go_ret3
    exact ⟨ret_cut hp.out (by rw [hr.out]) hb.out.symm, Below.refl _ _⟩

set_option maxHeartbeats 1000000 in
theorem cut (s : ByteArray) (c : UInt8) (w : World) (hs : s.size ≤ maxLen) :
    Calls Tryd.prog 43 #[.string s, .string ⟨#[c]⟩] w fun e w' => e = .returned (.tuple #[.string ⟨(partL c s.data.toList).toArray⟩, .string ⟨(restL c s.data.toList).toArray⟩, .bool (hasB c s.data.toList)]) ∧ Below w.heap.size w w' := by
  have hC := fun wx => lite_cut s c wx hs
  generalize partL c s.data.toList = p at hC ⊢
  generalize restL c s.data.toList = r at hC ⊢
  generalize hasB c s.data.toList = b at hC ⊢
  go_enter Tryd.func43, Tryd.ntmps43
  go_wp2_with (go_at_call 57; refine (hC _).mono ?_; rintro e w1 ⟨rfl, b1⟩)
  go_ret3
  exact ⟨rfl, b1⟩

theorem ret_ub {a a' : Int} {b b' : Bool} (h : a = a') (g : b = b') : Ending.returned (.tuple #[.int .u32 a, .bool b]) = .returned (.tuple #[.int .u32 a', .bool b']) := by rw [h, g]
theorem pow256 (k : Nat) (h : k ≤ 3) : 256 ^ k ≤ 16777216 := by
  have : k = 0 ∨ k = 1 ∨ k = 2 ∨ k = 3 := by omega
  rcases this with rfl | rfl | rfl | rfl <;> decide
theorem part_size (c : UInt8) (t : ByteArray) (h : t.size ≤ maxLen) : (ByteArray.mk (partL c t.data.toList).toArray).size ≤ maxLen ∧ (ByteArray.mk (restL c t.data.toList).toArray).size ≤ maxLen := by
  have h1 : (partL c t.data.toList).length ≤ t.size := by unfold partL; rw [List.length_take, len_data]; omega
  have h2 : (restL c t.data.toList).length ≤ t.size := by unfold restL; rw [List.length_drop, len_data]; omega
  have e1 : (ByteArray.mk (partL c t.data.toList).toArray).size = (partL c t.data.toList).length := by rw [← len_data]
  have e2 : (ByteArray.mk (restL c t.data.toList).toArray).size = (restL c t.data.toList).length := by rw [← len_data]
  rw [e1, e2]
  exact ⟨Nat.le_trans h1 h, Nat.le_trans h2 h⟩

theorem join8 (a v : Nat) (ha : a < 16777216) (hv : v < 256) : bits .or .u32 ((a : Int) * 256) (v : Int) = ((a * 256 + v : Nat) : Int) := by
  have e : ((a : Int) * 256) = ((a * 256 : Nat) : Int) := by omega
  rw [e, u32_or_nat _ v (by omega) (by omega), nat_join 8 (a * 256) v (by omega) (by simpa using hv)]

set_option maxHeartbeats 2000000 in
theorem parse (s : ByteArray) (w : World) (hs : s.size ≤ maxLen) :
    Calls Tryd.prog 13 #[.string s] w fun e w' => e = .returned (.tuple #[.int .u32 (addrV s.data.toList : Nat), .bool (addrB s.data.toList)]) ∧ Below w.heap.size w w' := by
  have bad : addrO s.data.toList = none → Ending.returned (.tuple #[.int .u32 0, .bool false]) = .returned (.tuple #[.int .u32 (addrV s.data.toList : Nat), .bool (addrB s.data.toList)]) := fun h => by
    rw [(val_none h).1, (val_none h).2]; rfl
  have B := hid bad
  clear bad
  go_enter Tryd.func13, Tryd.ntmps13
  go_wp2_with (fail)
  go_loopw [4, 5, 13] (fun a r i wr => ∃ (k av : Nat) (t : ByteArray), k ≤ 4 ∧ i = .int .i64 k ∧ a = .int .u32 av ∧ r = .string t ∧ t.size ≤ maxLen ∧ av < 256 ^ k ∧ Hid (addrO s.data.toList = contF (4 - k) av t.data.toList) ∧ Below w.heap.size w wr) (fun _ _ i _ => 4 - (intOf i).toNat)
  case atStart => exact ⟨0, 0, s, by omega, rfl, rfl, rfl, hs, by decide, rfl, Below.refl _ _⟩
  case round =>
    obtain ⟨k, av, t, hk, rfl, rfl, rfl, ht, hav, hE, hB⟩ := hrel
    by_cases hlt : k < 4
    · have hC := fun wx => cut t 46 wx ht
      have hav' : av < 16777216 := Nat.lt_of_lt_of_le hav (pow256 k (by omega))
      have he : Hid (addrO s.data.toList = contF (3 - k + 1) av t.data.toList) := by show _ = _; rw [show 3 - k + 1 = 4 - k by omega]; exact hE.out
      by_cases hd : (hasB 46 t.data.toList != decide (0 < 3 - k)) = true
      · have hn : Hid (addrO s.data.toList = none) := he.out.trans (step_no _ _ _ hd)
        have hd2 : hasB 46 t.data.toList = !decide (k < 3) := by
          rw [show decide (0 < 3 - k) = decide (k < 3) by rw [decide_eq_decide]; omega] at hd
          revert hd; cases hasB 46 t.data.toList <;> cases decide (k < 3) <;> simp
        rw [hd2] at hC
        clear hd hd2
        have h3 : k < 3 ∨ k = 3 := by omega
        rcases h3 with h3 | rfl
        · have hkk : decide ((k : Int) < 3) = true := by simp; omega
          rw [decide_eq_true h3] at hC
          go_wp2_with (go_at_call 43; refine (hC _).mono ?_; rintro e w1 ⟨rfl, b1⟩)
          go_ret2
          exact ⟨B.out hn.out, hB.trans (b1.mono hB.size)⟩
        · go_wp2_with (go_at_call 43; refine (hC _).mono ?_; rintro e w1 ⟨rfl, b1⟩)
          go_ret2
          exact ⟨B.out hn.out, hB.trans (b1.mono hB.size)⟩
      · have hd' : (hasB 46 t.data.toList != decide (0 < 3 - k)) = false := by simpa using hd
        have hd2 : hasB 46 t.data.toList = decide (k < 3) := by
          rw [show decide (0 < 3 - k) = decide (k < 3) by rw [decide_eq_decide]; omega] at hd'
          revert hd'; cases hasB 46 t.data.toList <;> cases decide (k < 3) <;> simp
        rw [hd2] at hC
        obtain ⟨z1, z2⟩ := part_size 46 t ht
        have hN := fun wx => number ⟨(partL 46 t.data.toList).toArray⟩ 0 255 wx z1
        simp only [List.toList_toArray] at hN
        cases hb : numB (partL 46 t.data.toList) 0 255 with
        | false =>
          have hn : Hid (addrO s.data.toList = none) := he.out.trans (step_bad _ _ _ hb)
          rw [hb, numV_no hb] at hN
          clear hd hd' hd2
          have h3 : k < 3 ∨ k = 3 := by omega
          rcases h3 with h3 | rfl
          · have hkk : decide ((k : Int) < 3) = true := by simp; omega
            rw [decide_eq_true h3] at hC
            go_wp2_with (first | (go_at_call 43; refine (hC _).mono ?_; rintro e w1 ⟨rfl, b1⟩) | (go_at_call 44; refine (hN _).mono ?_; rintro e w2 ⟨rfl, rfl⟩))
            go_ret2
            exact ⟨B.out hn.out, hB.trans (b1.mono hB.size)⟩
          · go_wp2_with (first | (go_at_call 43; refine (hC _).mono ?_; rintro e w1 ⟨rfl, b1⟩) | (go_at_call 44; refine (hN _).mono ?_; rintro e w2 ⟨rfl, rfl⟩))
            go_ret2
            exact ⟨B.out hn.out, hB.trans (b1.mono hB.size)⟩
        | true =>
          have hv := num_bd hb
          have hs2 := step_yes (3 - k) av _ hd' hb
          obtain ⟨v, hv2⟩ : ∃ v : Nat, v = (numV (partL 46 t.data.toList) 0 255).toNat := ⟨_, rfl⟩
          have hv3 : numV (partL 46 t.data.toList) 0 255 = (v : Int) := by omega
          have hv4 : v < 256 := by omega
          have hnx : Hid (addrO s.data.toList = contF (4 - (k + 1)) (av * 256 + v) (ByteArray.mk (restL 46 t.data.toList).toArray).data.toList) := by
            show _ = _
            rw [he.out, hs2, ← hv2, show 3 - k = 4 - (k + 1) by omega]
          have hnb : Hid (av * 256 + v < 256 ^ (k + 1)) := by show _ < _; rw [Nat.pow_succ]; omega
          have hO := hid (join8 av v hav' hv4)
          rw [hb, hv3] at hN
          clear hd hd' hd2 hv hv2 hv3 hs2 hb
          have h3 : k < 3 ∨ k = 3 := by omega
          rcases h3 with h3 | rfl
          · have hkk : decide ((k : Int) < 3) = true := by simp; omega
            rw [decide_eq_true h3] at hC
            go_wp2_with (first | (go_at_call 43; refine (hC _).mono ?_; rintro e w1 ⟨rfl, b1⟩) | (go_at_call 44; refine (hN _).mono ?_; rintro e w2 ⟨rfl, rfl⟩))
            go_roundw
            case rel => exact ⟨k + 1, _, ⟨(restL 46 t.data.toList).toArray⟩, by omega, by go_num, by rw [hO.out], rfl, z2, hnb.out, hnx, hB.trans (b1.mono hB.size)⟩
            case measure => simp [intOf]; omega
          · go_wp2_with (first | (go_at_call 43; refine (hC _).mono ?_; rintro e w1 ⟨rfl, b1⟩) | (go_at_call 44; refine (hN _).mono ?_; rintro e w2 ⟨rfl, rfl⟩))
            go_roundw
            case rel => exact ⟨4, _, ⟨(restL 46 t.data.toList).toArray⟩, by omega, by go_num, by rw [hO.out], rfl, z2, hnb.out, hnx, hB.trans (b1.mono hB.size)⟩
            case measure => simp [intOf]
    · have hn : Hid (addrO s.data.toList = some av) := by
        show _ = _
        rw [hE.out, show 4 - k = 0 by omega, contF]
      go_wp2_with (fail)
      go_ret2
      exact ⟨ret_ub (by rw [(val_some hn.out).1]) (val_some hn.out).2.symm, hB⟩

theorem get_list (s : ByteArray) (j : Nat) (h : j < s.size) : s.data.toList[j]? = some (s[j]'h) := get_data s j h

set_option maxHeartbeats 2000000 in
theorem address (s : ByteArray) (w : World) (hs : s.size ≤ maxLen) (hs2 : s.size ≤ 1000000) :
    Calls Tryd.prog 14 #[.string s] w fun e w' => e = .returned (.tuple #[.int .u32 (addrV s.data.toList : Nat), .bool (addrB s.data.toList)]) ∧ Below w.heap.size w w' := by
  have bad : addrO s.data.toList = none → Ending.returned (.tuple #[.int .u32 0, .bool false]) = .returned (.tuple #[.int .u32 (addrV s.data.toList : Nat), .bool (addrB s.data.toList)]) := fun h => by
    rw [(val_none h).1, (val_none h).2]; rfl
  have B := hid bad
  have L := hid (len_data s)
  clear bad
  go_enter Tryd.func14, Tryd.ntmps14
  go_wp2_with (fail)
  go_loopw [4, 5, 6, 7] (fun a f p i wr => ∃ (k fv pv av : Nat), fv ≤ k ∧ k ≤ s.size + 1 ∧ pv ≤ 4 ∧ a = .int .u32 av ∧ f = .int .i64 fv ∧ p = .int .i64 pv ∧ i = .int .i64 k ∧ av < 256 ^ pv ∧ Hid (noDot s.data.toList fv k) ∧ Hid (addrO s.data.toList = contE s.data.toList k fv pv av) ∧ Below w.heap.size w wr) (fun _ _ _ i _ => s.size + 1 - (intOf i).toNat)
  case atStart => exact ⟨0, 0, 0, 0, by omega, by omega, by omega, rfl, rfl, rfl, rfl, by decide, (fun j h1 h2 => by omega), (contE_start _).symm, Below.refl _ _⟩
  case round =>
    obtain ⟨k, fv, pv, av, hfk, hk, hpv, rfl, rfl, rfl, rfl, hav, hD, hE, hB⟩ := hrel
    by_cases hle : k ≤ s.size
    · by_cases hmid : k < s.size ∧ (s.data.toList[k]? ≠ some 46)
      · obtain ⟨hlt, hne⟩ := hmid
        have hne2 : s[k] ≠ 46 := by rw [get_list s k hlt] at hne; simpa using hne
        have e1 : ((s[k].toNat : Int) == 46) = false := by simp; intro e; exact hne2 (UInt8.toNat_inj.1 (by simpa using (by omega : s[k].toNat = 46)))
        have e2 : ((s[k].toNat : Int) != 46) = true := by simp [bne, e1]
        have hnx : Hid (addrO s.data.toList = contE s.data.toList (k + 1) fv pv av) := by
          show _ = _; rw [contE_next _ _ _ _ _ (by rw [L.out]; exact hlt)]; exact hE.out
        have hnd : Hid (noDot s.data.toList fv (k + 1)) := fun j h1 h2 => by
          by_cases e : j = k
          · rw [e]; exact hne
          · exact hD.out j h1 (by omega)
        clear hne hne2
        go_wp2_with (fail)
        go_roundw
        case rel => exact ⟨k + 1, fv, pv, av, by omega, by omega, hpv, rfl, rfl, rfl, by go_num, hav, hnd, hnx, hB⟩
        case measure => (simp [intOf]; try omega)
      · have hlen : s.data.toList.length = s.size := L.out
        have hst : k = s.data.toList.length ∨ s.data.toList[k]? = some 46 := by
          by_cases h : k < s.size
          · right
            have : ¬ s.data.toList[k]? ≠ some 46 := fun e => hmid ⟨h, e⟩
            exact Decidable.not_not.1 this
          · left; omega
        have hpart := part_from s.data.toList fv k hfk (by omega) hD.out hst
        have hex : (s.extract fv k).data.toList = partL 46 (s.data.toList.drop fv) := by rw [Lib.extract_data, hpart.1]
        have hN := fun wx => refNumber (s.extract fv k) 0 255 wx (by rw [ByteArray.size_extract]; unfold maxLen; omega)
        rw [hex] at hN
        have hbadk : numB (partL 46 (s.data.toList.drop fv)) 0 255 = false → addrO s.data.toList = none := fun h => hE.out.trans (contE_bad _ _ _ _ _ (by omega) h)
        have hfour : pv = 4 → addrO s.data.toList = none := fun h => by rw [hE.out, h]; exact contE_four _ _ _ _ (by omega)
        have hnext : pv < 4 → numB (partL 46 (s.data.toList.drop fv)) 0 255 = true → addrO s.data.toList = contE s.data.toList (k + 1) (k + 1) (pv + 1) (av * 256 + (numV (partL 46 (s.data.toList.drop fv)) 0 255).toNat) := fun h1 h2 =>
          hE.out.trans (contE_part _ _ _ _ _ hfk (by omega) hD.out hst h1 h2)
        have hstop : (k = s.size) ∨ (∃ h : k < s.size, (((s[k]'h).toNat : Int) == 46) = true ∧ (((s[k]'h).toNat : Int) != 46) = false) := by
          by_cases h : k < s.size
          · right
            have h46 : s[k] = 46 := by
              rcases hst with e | e
              · omega
              · rw [get_list s k h] at e; simpa using e
            exact ⟨h, by rw [h46]; rfl, by rw [h46]; rfl⟩
          · left; omega
        have NX := hid hnext
        have BK := hid hbadk
        have FR := hid hfour
        have HV := hid (fun h : numB (partL 46 (s.data.toList.drop fv)) 0 255 = true => num_bd h)
        generalize partL 46 (s.data.toList.drop fv) = pl at hN NX BK HV
        clear hnext hbadk hfour hmid hlen hpart hex hst
        cases hb : numB pl 0 255 with
        | false =>
          have hn := hid (BK.out hb)
          rw [hb, numV_no hb] at hN
          clear NX BK FR HV hb
          rcases hstop with rfl | ⟨hlt, e1, e2⟩
          · go_wp2_with (go_at_call 45; refine (hN _).mono ?_; rintro e w2 ⟨rfl, rfl⟩)
            go_ret2
            exact ⟨B.out hn.out, hB⟩
          · go_wp2_with (go_at_call 45; refine (hN _).mono ?_; rintro e w2 ⟨rfl, rfl⟩)
            go_ret2
            exact ⟨B.out hn.out, hB⟩
        | true =>
          by_cases hp4 : pv = 4
          · have hn := hid (FR.out hp4)
            subst hp4
            rw [hb] at hN
            clear NX BK FR HV hb
            rcases hstop with rfl | ⟨hlt, e1, e2⟩
            · go_wp2_with (go_at_call 45; refine (hN _).mono ?_; rintro e w2 ⟨rfl, rfl⟩)
              go_ret2
              exact ⟨B.out hn.out, hB⟩
            · go_wp2_with (go_at_call 45; refine (hN _).mono ?_; rintro e w2 ⟨rfl, rfl⟩)
              go_ret2
              exact ⟨B.out hn.out, hB⟩
          · have hpl : pv < 4 := by omega
            have hnx := hid (NX.out hpl hb)
            have hv := HV.out hb
            obtain ⟨v, hv2⟩ : ∃ v : Nat, v = (numV pl 0 255).toNat := ⟨_, rfl⟩
            have hv3 : numV pl 0 255 = (v : Int) := by omega
            have hv4 : v < 256 := by omega
            have hav' : av < 16777216 := Nat.lt_of_lt_of_le hav (pow256 pv (by omega))
            have hnb : Hid (av * 256 + v < 256 ^ (pv + 1)) := by show _ < _; rw [Nat.pow_succ]; omega
            have hO := hid (join8 av v hav' hv4)
            have hp5 : ((pv : Int) == 4) = false := by simp; omega
            have hnd : Hid (noDot s.data.toList (k + 1) (k + 1)) := fun j h1 h2 => by omega
            rw [hb, hv3] at hN
            rw [← hv2] at hnx
            clear NX BK FR HV hb hp4 hv hv2 hv3
            rcases hstop with rfl | ⟨hlt, e1, e2⟩
            · go_wp2_with (go_at_call 45; refine (hN _).mono ?_; rintro e w2 ⟨rfl, rfl⟩)
              go_roundw
              case rel => exact ⟨s.size + 1, s.size + 1, pv + 1, _, by omega, by omega, by omega, by rw [hO.out], by go_num, by go_num, by go_num, hnb.out, hnd, hnx, hB⟩
              case measure => (simp [intOf]; try omega)
            · go_wp2_with (go_at_call 45; refine (hN _).mono ?_; rintro e w2 ⟨rfl, rfl⟩)
              go_roundw
              case rel => exact ⟨k + 1, k + 1, pv + 1, _, by omega, by omega, by omega, by rw [hO.out], by go_num, by go_num, by go_num, hnb.out, hnd, hnx, hB⟩
              case measure => (simp [intOf]; try omega)
    · have hend : Hid (addrO s.data.toList = if pv = 4 then some av else none) := hE.out.trans (contE_end _ _ _ _ _ (by rw [L.out]; exact hle))
      by_cases hp4 : pv = 4
      · have hn : Hid (addrO s.data.toList = some av) := by show _ = _; rw [hend.out, if_pos hp4]
        subst hp4
        go_wp2_with (fail)
        go_ret2
        exact ⟨ret_ub (by rw [(val_some hn.out).1]) (val_some hn.out).2.symm, hB⟩
      · have hn : Hid (addrO s.data.toList = none) := by show _ = _; rw [hend.out, if_neg hp4]
        have hp5 : ((pv : Int) == 4) = false := by simp; omega
        have hp6 : ((pv : Int) != 4) = true := by simp; omega
        go_wp2_with (fail)
        go_ret2
        exact ⟨B.out hn.out, hB⟩
end Go.Proofs.YtppdhcjmdgkadaaDoor.Ad
