/-
  THE WALKS OF AddrParses, AddrTexts AND AddrRoundTrip.
-/
import Derived.Test.YtppdhcjmdgkadaaDoorAddrJ
namespace Go.Proofs.YtppdhcjmdgkadaaDoor.Ad
set_option linter.unusedSimpArgs false
set_option linter.unusedVariables false
open Go.RowKit Sp Sc Am As Kt

set_option maxHeartbeats 4000000 in
theorem walkAddrParses (s : ByteArray) (hs : s.size ≤ maxLen) (w : World) (ht : Tab w.heap.size w) :
    Calls Tryd.prog 3 #[.string s] w fun e w' => e = .returned (.bool true) ∧ Below w.heap.size w w' := by
  have hs' := hs
  unfold maxLen at hs'
  by_cases h60 : 60 < s.size
  · go_enter Tryd.func3, Tryd.ntmps3
    go_wp2_with (fail)
    go_ret
    exact ⟨rfl, Below.refl _ _⟩
  · have h1 := fun wx => parse s wx hs
    have h2 := fun wx => address s wx hs (by omega)
    generalize addrV s.data.toList = v at *
    generalize addrB s.data.toList = b at *
    go_enter Tryd.func3, Tryd.ntmps3
    go_wp2_with (fail)
    refine (h1 _).mono ?_
    rintro e w1 ⟨rfl, b1⟩
    go_wp2_with (fail)
    refine (h2 _).mono ?_
    rintro e w2 ⟨rfl, b2⟩
    have B2 := then_ b1 b2
    go_wp2_with (fail)
    refine (sane _ (ht.on B2) B2.size).mono ?_
    rintro e w3 ⟨rfl, b3⟩
    have B3 := then_ B2 b3
    go_wp2_with (fail)
    go_ret
    exact ⟨rfl, B3⟩

set_option maxHeartbeats 4000000 in
theorem walkAddrTexts (s : ByteArray) (hs : s.size ≤ maxLen) (w : World) (ht : Tab w.heap.size w) :
    Calls Tryd.prog 7 #[.string s] w fun e w' => e = .returned (.bool true) ∧ Below w.heap.size w w' := by
  have hs' := hs
  unfold maxLen at hs'
  by_cases h60 : 60 < s.size
  · go_enter Tryd.func7, Tryd.ntmps7
    go_wp2_with (fail)
    go_ret
    exact ⟨rfl, Below.refl _ _⟩
  · have h1 := fun wx => parseHost s wx hs
    have h2 := fun wx => host s wx hs (by omega)
    have h3 := fun wx => parsePrefix s wx hs
    have h4 := fun wx => readPrefix s wx hs (by omega)
    generalize hostA s.data.toList = v at *
    generalize hostN s.data.toList = n at *
    generalize hostB s.data.toList = b at *
    generalize preA s.data.toList = pv at *
    generalize preN s.data.toList = pn at *
    generalize preB s.data.toList = pb at *
    go_enter Tryd.func7, Tryd.ntmps7
    go_wp2_with (fail)
    refine (h1 _).mono ?_
    rintro e w1 ⟨rfl, b1⟩
    go_wp2_with (fail)
    refine (h2 _).mono ?_
    rintro e w2 ⟨rfl, b2⟩
    have B2 := then_ b1 b2
    go_wp2_with (fail)
    refine (h3 _).mono ?_
    rintro e w3 ⟨rfl, b3⟩
    have B3 := then_ B2 b3
    go_wp2_with (fail)
    refine (h4 _).mono ?_
    rintro e w4 ⟨rfl, b4⟩
    have B4 := then_ B3 (then_ (al1 w3 _) b4)
    have k1 := box_all b4
    obtain ⟨⟨c0, c1⟩, _⟩ := blk_two (blk_keep k1 (al1 w4 (.cells #[.int .u32 (pv : Int), .int .i64 (pn : Int)] 34)))
    have B5 := then_ B4 (al1 w4 (.cells #[.int .u32 (pv : Int), .int .i64 (pn : Int)] 34))
    clear b1 b2 b3 b4 B2 B3 k1
    go_wp2_with (fail)
    refine (sane _ (ht.on B5) B5.size).mono ?_
    rintro e w5 ⟨rfl, b5⟩
    have B6 := then_ B5 b5
    go_wp2_with (fail)
    go_ret
    exact ⟨rfl, B6⟩

set_option maxHeartbeats 4000000 in
theorem walkAddrRoundTrip (m : Int) (hm : (Lit.int .u32 m).wf = true) (w : World) (ht : Tab w.heap.size w) :
    Calls Tryd.prog 4 #[.int .u32 m] w fun e w' => e = .returned (.bool true) ∧ Below w.heap.size w w' := by
  obtain ⟨a, rfl, ha⟩ := u32_nat hm
  have hd := val_some (dot_back a ha)
  have hz : (ByteArray.mk (dotL a).toArray).size ≤ maxLen := by
    rw [← len_data]; have := dot_len a; unfold maxLen; simp; omega
  have h1 := fun wx (h : Tab w.heap.size wx) (k : w.heap.size ≤ wx.heap.size) => format a wx ha (tab_up h k)
  have h2 := fun wx => parse ⟨(dotL a).toArray⟩ wx hz
  have h3 := fun wx => dotted a wx ha
  simp only [List.toList_toArray] at h2
  rw [hd.1, hd.2] at h2
  generalize (ByteArray.mk (dotL a).toArray) = s at *
  clear hd hm
  go_enter Tryd.func4, Tryd.ntmps4
  go_wp2_with (fail)
  refine (h1 _ ht (Nat.le_refl _)).mono ?_
  rintro e w1 ⟨rfl, b1⟩
  go_wp2_with (fail)
  refine (h2 _).mono ?_
  rintro e w2 ⟨rfl, b2⟩
  have B2 := then_ b1 b2
  go_wp2_with (fail)
  refine (h1 _ (ht.on B2) B2.size).mono ?_
  rintro e w3 ⟨rfl, b3⟩
  have B3 := then_ B2 b3
  go_wp2_with (fail)
  refine (h3 _).mono ?_
  rintro e w4 ⟨rfl, rfl⟩
  go_wp2_with (fail)
  refine (sane _ (ht.on B3) B3.size).mono ?_
  rintro e w5 ⟨rfl, b5⟩
  have B5 := then_ B3 b5
  go_wp2_with (fail)
  go_ret
  exact ⟨rfl, B5⟩
end Go.Proofs.YtppdhcjmdgkadaaDoor.Ad
