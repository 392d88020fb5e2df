/-
  THE CONTRACTS OF addr.ParseHost, addr.ParsePrefix AND OF THE REFERENCE's Host, ReadPrefix.
-/
import Derived.Test.YtppdhcjmdgkadaaDoorAddrB
import Derived.Test.YtppdhcjmdgkadaaDoorAddrD
namespace Go.Proofs.YtppdhcjmdgkadaaDoor.As
set_option linter.unusedSimpArgs false
set_option linter.unusedVariables false
open Sp Am
theorem rest_none (c : UInt8) (l : List UInt8) (h : hasB c l = false) : restL c l = [] := by
  unfold hasB at h
  unfold restL
  simp only [decide_eq_false_iff_not] at h
  exact List.drop_eq_nil_of_le (by omega)
theorem num_nil (a b : Int) : numB [] a b = false := rfl
theorem host_badA (l : List UInt8) (h : addrB (partL 47 l) = false) : hostB l = false := by unfold hostB; rw [h]; simp
theorem host_badN (l : List UInt8) (h : numB (restL 47 l) 0 32 = false) : hostB l = false := by unfold hostB; rw [h]; simp
theorem host_noS (l : List UInt8) (h : hasB 47 l = false) : hostB l = false := by unfold hostB; rw [h]; simp
theorem host_yes (l : List UInt8) (h1 : addrB (partL 47 l) = true) (h2 : numB (restL 47 l) 0 32 = true) : hostB l = true := by
  have h3 : hasB 47 l = true := by
    cases e : hasB 47 l with
    | true => rfl
    | false => rw [rest_none 47 l e, num_nil] at h2; cases h2
  unfold hostB; rw [h1, h2, h3]; rfl
theorem host_v {l : List UInt8} (h : hostB l = true) : hostA l = addrV (partL 47 l) ∧ hostN l = (numV (restL 47 l) 0 32).toNat := by unfold hostA hostN; rw [h]; exact ⟨rfl, rfl⟩
theorem host_no {l : List UInt8} (h : hostB l = false) : hostA l = 0 ∧ hostN l = 0 := by unfold hostA hostN; rw [h]; exact ⟨rfl, rfl⟩
/-- P204: a prefix. -/
def preB (l : List UInt8) : Bool := hostB l && validB (hostA l) (hostN l)
def preA (l : List UInt8) : Nat := if preB l then hostA l else 0
def preN (l : List UInt8) : Nat := if preB l then hostN l else 0
theorem pre_no {l : List UInt8} (h : preB l = false) : preA l = 0 ∧ preN l = 0 := by unfold preA preN; rw [h]; exact ⟨rfl, rfl⟩
theorem pre_yes {l : List UInt8} (h : preB l = true) : preA l = hostA l ∧ preN l = hostN l := by unfold preA preN; rw [h]; exact ⟨rfl, rfl⟩
end Go.Proofs.YtppdhcjmdgkadaaDoor.As

namespace Go.Proofs.YtppdhcjmdgkadaaDoor.Ad
set_option linter.unusedSimpArgs false
set_option linter.unusedVariables false
open Go.RowKit Sp Sc Am As Kt

theorem ret_unb {a a' n n' : Int} {b b' : Bool} (h : a = a') (k : n = n') (g : b = b') : Ending.returned (.tuple #[.int .u32 a, .int .i64 n, .bool b]) = .returned (.tuple #[.int .u32 a', .int .i64 n', .bool b']) := by rw [h, k, g]

set_option maxHeartbeats 2000000 in
theorem parseHost (s : ByteArray) (w : World) (hs : s.size ≤ maxLen) :
    Calls Tryd.prog 27 #[.string s] w fun e w' => e = .returned (.tuple #[.int .u32 (hostA s.data.toList : Nat), .int .i64 (hostN s.data.toList : Nat), .bool (hostB s.data.toList)]) ∧ Below w.heap.size w w' := by
  have hC := fun wx => cut s 47 wx hs
  obtain ⟨z1, z2⟩ := part_size 47 s hs
  have hP := fun wx => parse ⟨(partL 47 s.data.toList).toArray⟩ wx z1
  have hN := fun wx => number ⟨(restL 47 s.data.toList).toArray⟩ 0 32 wx z2
  simp only [List.toList_toArray] at hP hN
  have H1 := hid (host_badA s.data.toList)
  have H2 := hid (host_badN s.data.toList)
  have H3 := hid (host_yes s.data.toList)
  have H4 := hid (fun h => host_v (l := s.data.toList) h)
  have H5 := hid (fun h => host_no (l := s.data.toList) h)
  have H6 := hid (fun h => num_bd (l := restL 47 s.data.toList) (b := 32) h)
  generalize partL 47 s.data.toList = p at *
  generalize restL 47 s.data.toList = r at *
  generalize hasB 47 s.data.toList = d at *
  cases ha : addrB p with
  | false =>
    have hb := hid (H1.out ha)
    have h0 := hid (H5.out hb.out)
    rw [ha] at hP
    go_enter Tryd.func27, Tryd.ntmps27
    go_wp2_with (first | (go_at_call 43; refine (hC _).mono ?_; rintro e w1 ⟨rfl, b1⟩) | (go_at_call 13; refine (hP _).mono ?_; rintro e w2 ⟨rfl, b2⟩))
    go_ret3
    exact ⟨ret_unb (by rw [h0.out.1]; rfl) (by rw [h0.out.2]; rfl) hb.out.symm, then_ b1 b2⟩
  | true =>
    rw [ha] at hP
    cases hn : numB r 0 32 with
    | false =>
      have hb := hid (H2.out hn)
      have h0 := hid (H5.out hb.out)
      rw [hn, numV_no hn] at hN
      go_enter Tryd.func27, Tryd.ntmps27
      go_wp2_with (first | (go_at_call 43; refine (hC _).mono ?_; rintro e w1 ⟨rfl, b1⟩) | (go_at_call 13; refine (hP _).mono ?_; rintro e w2 ⟨rfl, b2⟩) | (go_at_call 44; refine (hN _).mono ?_; rintro e w3 ⟨rfl, rfl⟩))
      go_ret3
      exact ⟨ret_unb (by rw [h0.out.1]; rfl) (by rw [h0.out.2]; rfl) hb.out.symm, then_ b1 b2⟩
    | true =>
      have hb := hid (H3.out ha hn)
      have h0 := hid (H4.out hb.out)
      have h6 := H6.out hn
      have hv : Hid (numV r 0 32 = ((numV r 0 32).toNat : Int)) := by show _ = _; omega
      rw [hn] at hN
      clear h6
      go_enter Tryd.func27, Tryd.ntmps27
      go_wp2_with (first | (go_at_call 43; refine (hC _).mono ?_; rintro e w1 ⟨rfl, b1⟩) | (go_at_call 13; refine (hP _).mono ?_; rintro e w2 ⟨rfl, b2⟩) | (go_at_call 44; refine (hN _).mono ?_; rintro e w3 ⟨rfl, rfl⟩))
      go_ret3
      exact ⟨ret_unb (by rw [h0.out.1]) (by rw [h0.out.2]; exact hv.out) hb.out.symm, then_ b1 b2⟩

set_option maxHeartbeats 2000000 in
theorem host (s : ByteArray) (w : World) (hs : s.size ≤ maxLen) (hs2 : s.size ≤ 1000000) :
    Calls Tryd.prog 28 #[.string s] w fun e w' => e = .returned (.tuple #[.int .u32 (hostA s.data.toList : Nat), .int .i64 (hostN s.data.toList : Nat), .bool (hostB s.data.toList)]) ∧ Below w.heap.size w w' := by
  have L := hid (len_data s)
  go_enter Tryd.func28, Tryd.ntmps28
  go_wp2_with (fail)
  go_loop [5] (fun i => ∃ k : Nat, k ≤ s.size ∧ i = .int .i64 k ∧ Hid (∀ j, j < k → s.data.toList[j]? ≠ some 47)) (fun i => s.size - (intOf i).toNat)
  case atStart => exact ⟨0, by omega, rfl, fun j hj => by omega⟩
  case round =>
    obtain ⟨k, hk, rfl, hD⟩ := hrel
    by_cases hlt : k < s.size
    · by_cases h47 : s[k] = 47
      · have hc : cutAt 47 s.data.toList = k := cut_eq 47 _ _ hD.out (by rw [L.out]; omega) (.inr (by rw [get_data s k hlt, h47]))
        have hp : (s.extract 0 k).data.toList = partL 47 s.data.toList := by unfold partL; rw [hc, Lib.extract_data]; simp
        have hr : (s.extract (k + 1) s.size).data.toList = restL 47 s.data.toList := by unfold restL; rw [hc, Lib.extract_data, List.take_of_length_le (by simp)]
        have e1 : ((s[k].toNat : Int) == 47) = true := by rw [h47]; rfl
        have hP := fun wx => address (s.extract 0 k) wx (by rw [ByteArray.size_extract]; unfold maxLen; omega) (by rw [ByteArray.size_extract]; omega)
        have hN := fun wx => refNumber (s.extract (k + 1) s.size) 0 32 wx (by rw [ByteArray.size_extract]; unfold maxLen; omega)
        rw [hp] at hP
        rw [hr] at hN
        have H1 := hid (host_badA s.data.toList)
        have H2 := hid (host_badN s.data.toList)
        have H3 := hid (host_yes s.data.toList)
        have H4 := hid (fun h => host_v (l := s.data.toList) h)
        have H5 := hid (fun h => host_no (l := s.data.toList) h)
        have H6 := hid (fun h => num_bd (l := restL 47 s.data.toList) (b := 32) h)
        generalize partL 47 s.data.toList = p at *
        generalize restL 47 s.data.toList = r at *
        clear h47 hc hp hr
        cases ha : addrB p with
        | false =>
          have hb := hid (H1.out ha)
          have h0 := hid (H5.out hb.out)
          rw [ha] at hP
          cases hn : numB r 0 32 with
          | false =>
            rw [hn, numV_no hn] at hN
            go_wp2_with (first | (go_at_call 14; refine (hP _).mono ?_; rintro e w2 ⟨rfl, b2⟩) | (go_at_call 45; refine (hN _).mono ?_; rintro e w3 ⟨rfl, rfl⟩))
            go_ret3
            exact ⟨ret_unb (by rw [h0.out.1]; rfl) (by rw [h0.out.2]; rfl) hb.out.symm, b2⟩
          | true =>
            rw [hn] at hN
            go_wp2_with (first | (go_at_call 14; refine (hP _).mono ?_; rintro e w2 ⟨rfl, b2⟩) | (go_at_call 45; refine (hN _).mono ?_; rintro e w3 ⟨rfl, rfl⟩))
            go_ret3
            exact ⟨ret_unb (by rw [h0.out.1]; rfl) (by rw [h0.out.2]; rfl) hb.out.symm, b2⟩
        | true =>
          rw [ha] at hP
          cases hn : numB r 0 32 with
          | false =>
            have hb := hid (H2.out hn)
            have h0 := hid (H5.out hb.out)
            rw [hn, numV_no hn] at hN
            go_wp2_with (first | (go_at_call 14; refine (hP _).mono ?_; rintro e w2 ⟨rfl, b2⟩) | (go_at_call 45; refine (hN _).mono ?_; rintro e w3 ⟨rfl, rfl⟩))
            go_ret3
            exact ⟨ret_unb (by rw [h0.out.1]; rfl) (by rw [h0.out.2]; rfl) hb.out.symm, b2⟩
          | true =>
            have hb := hid (H3.out ha hn)
            have h0 := hid (H4.out hb.out)
            have h6 := H6.out hn
            have hv : Hid (numV r 0 32 = ((numV r 0 32).toNat : Int)) := by show _ = _; omega
            rw [hn] at hN
            clear h6
            go_wp2_with (first | (go_at_call 14; refine (hP _).mono ?_; rintro e w2 ⟨rfl, b2⟩) | (go_at_call 45; refine (hN _).mono ?_; rintro e w3 ⟨rfl, rfl⟩))
            go_ret3
            exact ⟨ret_unb (by rw [h0.out.1]) (by rw [h0.out.2]; exact hv.out) hb.out.symm, b2⟩
      · have e1 : ((s[k].toNat : Int) == 47) = false := by simp; intro e; exact h47 (UInt8.toNat_inj.1 (by simpa using (by omega : s[k].toNat = 47)))
        have hnd : Hid (∀ j, j < k + 1 → s.data.toList[j]? ≠ some 47) := fun j hj => by
          by_cases e : j = k
          · rw [e, get_data s k hlt]; simpa using h47
          · exact hD.out j (by omega)
        clear h47
        go_wp2_with (fail)
        go_round
        case rel => exact ⟨k + 1, by omega, by go_num, hnd⟩
        case measure => (simp [intOf]; try omega)
    · have hks : k = s.size := by omega
      have hc : cutAt 47 s.data.toList = k := cut_eq 47 _ _ hD.out (by rw [L.out]; omega) (.inl (by rw [L.out]; exact hks))
      have hb : Hid (hostB s.data.toList = false) := host_noS _ (by unfold hasB; rw [hc, L.out]; simp; omega)
      have h0 := hid (host_no hb.out)
      clear hc hks
      go_wp2_with (fail)
      go_ret3
      exact ⟨ret_unb (by rw [h0.out.1]; rfl) (by rw [h0.out.2]; rfl) hb.out.symm, Below.refl _ _⟩

set_option maxHeartbeats 2000000 in
theorem parsePrefix (s : ByteArray) (w : World) (hs : s.size ≤ maxLen) :
    Calls Tryd.prog 29 #[.string s] w fun e w' => e = .returned (.tuple #[px (preA s.data.toList) (preN s.data.toList : Nat), .bool (preB s.data.toList)]) ∧ Below w.heap.size w w' := by
  have hH := fun wx => parseHost s wx hs
  have ha := hostA_lt s.data.toList
  have hpre : Hid (preB s.data.toList = (hostB s.data.toList && validB (hostA s.data.toList) (hostN s.data.toList))) := rfl
  have hno := hid (fun h => pre_no (l := s.data.toList) h)
  have hyes := hid (fun h => pre_yes (l := s.data.toList) h)
  generalize hostA s.data.toList = a at *
  generalize hostN s.data.toList = n at *
  have hV := fun wx => valid a n wx ha
  generalize preA s.data.toList = pa at *
  generalize preN s.data.toList = pn at *
  generalize preB s.data.toList = pb at *
  cases hb : hostB s.data.toList with
  | false =>
    have hf : pb = false := by rw [hpre.out, hb]; rfl
    obtain ⟨rfl, rfl⟩ := hno.out hf
    subst hf
    rw [hb] at hH
    clear hb hpre hno hyes
    go_enter Tryd.func29, Tryd.ntmps29
    go_wp2_with (fail)
    refine (hH _).mono ?_
    rintro e w1 ⟨rfl, b1⟩
    have k1 := box_all b1
    obtain ⟨⟨c0, c1⟩, f0, f1⟩ := blk_two k1
    have H := hid (then_ (al1 w _) b1)
    have hlt := blk_lt k1
    clear b1 k1
    go_wp2_with (fail)
    (try simp only [Exit.inBlock, Exit.then])
    refine bodyPost_ret (by simp [results, Tryd.results29, go_sem, c0, c1, hlt]; rfl) rfl ?_
    exact ⟨rfl, ((H.out.setCell (p := ⟨w.heap.size, 0, none⟩) (by simp) _).setCell (p := ⟨w.heap.size, 1, none⟩) (by simp) _).alloc (by simp; exact H.out.size) _⟩
  | true =>
    have hf : pb = validB a n := by rw [hpre.out, hb]; rfl
    subst hf
    rw [hb] at hH
    cases hv : validB a n with
    | false =>
      obtain ⟨rfl, rfl⟩ := hno.out hv
      rw [hv] at hV
      clear hb hpre hno hyes hv
      go_enter Tryd.func29, Tryd.ntmps29
      go_wp2_with (fail)
      refine (hH _).mono ?_
      rintro e w1 ⟨rfl, b1⟩
      have k1 := box_all b1
      have H1 := hid (then_ (al1 w _) b1)
      clear b1
      go_wp2_with (fail)
      refine (hV _).mono ?_
      rintro e w2 ⟨rfl, b2⟩
      have j := then_ (al1 w1 _) b2
      obtain ⟨⟨c0, c1⟩, f0, f1⟩ := blk_two (blk_keep k1 j)
      obtain ⟨⟨d0, d1⟩, g0, g1⟩ := blk_two (box_all b2)
      have H := hid (then_ H1.out j)
      have hlt := blk_lt k1
      clear k1 b2 j
      go_wp2_with (fail)
      (try simp only [Exit.inBlock, Exit.then])
      refine bodyPost_ret (by simp [results, Tryd.results29, go_sem, c0, c1]; rfl) rfl ?_
      exact ⟨rfl, ((H.out.setCell (p := ⟨w.heap.size, 0, none⟩) (by simp) _).setCell (p := ⟨w.heap.size, 1, none⟩) (by simp) _)⟩
    | true =>
      obtain ⟨rfl, rfl⟩ := hyes.out hv
      rw [hv] at hV
      clear hb hpre hno hyes hv
      go_enter Tryd.func29, Tryd.ntmps29
      go_wp2_with (fail)
      refine (hH _).mono ?_
      rintro e w1 ⟨rfl, b1⟩
      have k1 := box_all b1
      have H1 := hid (then_ (al1 w _) b1)
      clear b1
      go_wp2_with (fail)
      refine (hV _).mono ?_
      rintro e w2 ⟨rfl, b2⟩
      have j := then_ (al1 w1 _) b2
      obtain ⟨⟨c0, c1⟩, f0, f1⟩ := blk_two (blk_keep k1 j)
      obtain ⟨⟨d0, d1⟩, g0, g1⟩ := blk_two (box_all b2)
      have H := hid (then_ H1.out j)
      have hlt := blk_lt k1
      clear k1 b2 j
      go_wp2_with (fail)
      (try simp only [Exit.inBlock, Exit.then])
      refine bodyPost_ret (by simp [results, Tryd.results29, go_sem, c0, c1]; rfl) rfl ?_
      exact ⟨rfl, ((H.out.setCell (p := ⟨w.heap.size, 0, none⟩) (by simp) _).setCell (p := ⟨w.heap.size, 1, none⟩) (by simp) _)⟩

set_option maxHeartbeats 2000000 in
theorem readPrefix (s : ByteArray) (w : World) (hs : s.size ≤ maxLen) (hs2 : s.size ≤ 1000000) :
    Calls Tryd.prog 30 #[.string s] w fun e w' => e = .returned (.tuple #[px (preA s.data.toList) (preN s.data.toList : Nat), .bool (preB s.data.toList)]) ∧ Below w.heap.size w w' := by
  have hH := fun wx => host s wx hs hs2
  have ha := hostA_lt s.data.toList
  have hpre : Hid (preB s.data.toList = (hostB s.data.toList && validB (hostA s.data.toList) (hostN s.data.toList))) := rfl
  have hno := hid (fun h => pre_no (l := s.data.toList) h)
  have hyes := hid (fun h => pre_yes (l := s.data.toList) h)
  generalize hostA s.data.toList = a at *
  generalize hostN s.data.toList = n at *
  have hV := fun wx => refValid a n wx ha
  generalize preA s.data.toList = pa at *
  generalize preN s.data.toList = pn at *
  generalize preB s.data.toList = pb at *
  cases hb : hostB s.data.toList with
  | false =>
    have hf : pb = false := by rw [hpre.out, hb]; rfl
    obtain ⟨rfl, rfl⟩ := hno.out hf
    subst hf
    rw [hb] at hH
    clear hb hpre hno hyes
    go_enter Tryd.func30, Tryd.ntmps30
    go_wp2_with (fail)
    refine (hH _).mono ?_
    rintro e w1 ⟨rfl, b1⟩
    have k1 := box_all b1
    obtain ⟨⟨c0, c1⟩, f0, f1⟩ := blk_two k1
    have H := hid (then_ (al1 w _) b1)
    have hlt := blk_lt k1
    clear b1 k1
    go_wp2_with (fail)
    (try simp only [Exit.inBlock, Exit.then])
    refine bodyPost_ret (by simp [results, Tryd.results30, go_sem, c0, c1, hlt]; rfl) rfl ?_
    exact ⟨rfl, ((H.out.setCell (p := ⟨w.heap.size, 0, none⟩) (by simp) _).setCell (p := ⟨w.heap.size, 1, none⟩) (by simp) _).alloc (by simp; exact H.out.size) _⟩
  | true =>
    have hf : pb = validB a n := by rw [hpre.out, hb]; rfl
    subst hf
    rw [hb] at hH
    cases hv : validB a n with
    | false =>
      obtain ⟨rfl, rfl⟩ := hno.out hv
      rw [hv] at hV
      clear hb hpre hno hyes hv
      go_enter Tryd.func30, Tryd.ntmps30
      go_wp2_with (fail)
      refine (hH _).mono ?_
      rintro e w1 ⟨rfl, b1⟩
      have k1 := box_all b1
      have H1 := hid (then_ (al1 w _) b1)
      clear b1
      go_wp2_with (fail)
      refine (hV _).mono ?_
      rintro e w2 ⟨rfl, b2⟩
      have j := then_ (al1 w1 _) b2
      obtain ⟨⟨c0, c1⟩, f0, f1⟩ := blk_two (blk_keep k1 j)
      obtain ⟨⟨d0, d1⟩, g0, g1⟩ := blk_two (box_all b2)
      have H := hid (then_ H1.out j)
      have hlt := blk_lt k1
      clear k1 b2 j
      go_wp2_with (fail)
      (try simp only [Exit.inBlock, Exit.then])
      refine bodyPost_ret (by simp [results, Tryd.results30, go_sem, c0, c1]; rfl) rfl ?_
      exact ⟨rfl, ((H.out.setCell (p := ⟨w.heap.size, 0, none⟩) (by simp) _).setCell (p := ⟨w.heap.size, 1, none⟩) (by simp) _)⟩
    | true =>
      obtain ⟨rfl, rfl⟩ := hyes.out hv
      rw [hv] at hV
      clear hb hpre hno hyes hv
      go_enter Tryd.func30, Tryd.ntmps30
      go_wp2_with (fail)
      refine (hH _).mono ?_
      rintro e w1 ⟨rfl, b1⟩
      have k1 := box_all b1
      have H1 := hid (then_ (al1 w _) b1)
      clear b1
      go_wp2_with (fail)
      refine (hV _).mono ?_
      rintro e w2 ⟨rfl, b2⟩
      have j := then_ (al1 w1 _) b2
      obtain ⟨⟨c0, c1⟩, f0, f1⟩ := blk_two (blk_keep k1 j)
      obtain ⟨⟨d0, d1⟩, g0, g1⟩ := blk_two (box_all b2)
      have H := hid (then_ H1.out j)
      have hlt := blk_lt k1
      clear k1 b2 j
      go_wp2_with (fail)
      (try simp only [Exit.inBlock, Exit.then])
      refine bodyPost_ret (by simp [results, Tryd.results30, go_sem, c0, c1]; rfl) rfl ?_
      exact ⟨rfl, ((H.out.setCell (p := ⟨w.heap.size, 0, none⟩) (by simp) _).setCell (p := ⟨w.heap.size, 1, none⟩) (by simp) _)⟩
end Go.Proofs.YtppdhcjmdgkadaaDoor.Ad
