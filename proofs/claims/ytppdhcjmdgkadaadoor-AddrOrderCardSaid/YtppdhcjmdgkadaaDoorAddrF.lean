/-
  THE CONTRACTS OF addr.Format AND OF THE REFERENCE's Dotted, and of what they call: strings.Builder's writers (walked at this dump: the text of copyCheck parts from the library's in its refused panic alone), strconv.Itoa.
-/
import Derived.Test.YtppdhcjmdgkadaaDoorAddrA
import Derived.Test.YtppdhcjmdgkadaaDoorAddrS
import Derived.Test.YtppdhcjmdgkadaaDoorLater
import Derived.Lib.Builder
import Derived.Lib.AppendStr
import Derived.Laws.Externs
import Derived.Lib.AppendIntMem
namespace Go.Proofs.YtppdhcjmdgkadaaDoor.Ad
set_option linter.unusedSimpArgs false
set_option linter.unusedVariables false
open Go.RowKit Sp Sc Am As Kt

theorem bSize : (Tryd.prog.info? 60).map (·.size) = some 2 := by kernel_rfl
theorem bInfo : ∃ j, Tryd.prog.info? 60 = some j ∧ j.size = 2 := by
  obtain ⟨j, h1, h2⟩ := Option.map_eq_some_iff.1 bSize
  exact ⟨j, h1, h2⟩
theorem bLies : liesAt Tryd.prog Tryd.prog.depth 60 (2 / Tryd.prog.cellsOf 60) 0 60 1 = true := by kernel_rfl
theorem u8Info : (Tryd.prog.info? 5).map (fun i => (i.zero, i.size, i.bytes)) = some (some (.int .u8 0), 1, 1) := by kernel_rfl
theorem u8Parts : ∃ i, Tryd.prog.info? 5 = some i ∧ i.zero = some (.int .u8 0) ∧ i.size = 1 ∧ i.bytes = 1 := by
  obtain ⟨i, h1, h2⟩ := Option.map_eq_some_iff.1 u8Info
  simp only [Prod.mk.injEq] at h2
  exact ⟨i, h1, h2.1, h2.2.1, h2.2.2⟩

set_option maxHeartbeats 1000000 in
theorem copyUsed (b : Nat) (w : World) (h0 : w.cell? ⟨b, 0, none⟩ = some (.pointer (some ⟨b, 0, none⟩))) :
    Calls Tryd.prog 59 #[.pointer (some ⟨b, 0, none⟩)] w fun e w' => e = .returned (.tuple #[]) ∧ w = w' := by
  obtain ⟨j, hj, _⟩ := bInfo
  go_enter Tryd.func59, Tryd.ntmps59
  go_wp2
  rw [Lib.run_neq_ptr_same w _ Tryd.underlying57 hj]
  go_wp2
  go_end0
  exact ⟨rfl, rfl⟩
set_option maxHeartbeats 1000000 in
theorem copyFresh (b : Nat) (w : World) (h0 : w.cell? ⟨b, 0, none⟩ = some (.pointer none)) (hsh : w.shape? b = some (60, 2)) (hfz : w.frozen? ⟨b, 0, none⟩ = false) :
    Calls Tryd.prog 59 #[.pointer (some ⟨b, 0, none⟩)] w fun e w' => e = .returned (.tuple #[]) ∧ w.setCell ⟨b, 0, none⟩ (.pointer (some ⟨b, 0, none⟩)) = w' := by
  obtain ⟨j, hj, hjs⟩ := bInfo
  go_enter Tryd.func59, Tryd.ntmps59
  go_wp2
  rw [Lib.run_to_unsafe w ⟨b, 0, none⟩ Tryd.underlying57 Tryd.underlying78 hj (by rw [hjs]; decide) hsh (Nat.zero_lt_succ 1)]
  simp only [Result.andThen]
  rw [Oper.upon_value]
  go_wp2
  rw [run_callFunc_extern Tryd.func65 (by kernel_rfl) (by kernel_rfl) (by kernel_rfl) (e := Extern.AbiNoEscape.same) (by kernel_rfl), Lib.run_noEscape]
  simp only [Result.andThen]
  rw [Oper.upon_value]
  go_wp2
  rw [Lib.run_from_unsafe w ⟨b, 0, none⟩ Tryd.underlying78 Tryd.underlying57 hj hsh bLies]
  simp only [Result.andThen]
  rw [Oper.upon_value]
  go_wp2
  go_end0
  exact ⟨rfl, rfl⟩
/-- A builder of the call's own. -/
abbrev IsB (B b : Nat) (l : List UInt8) (w : World) : Prop := Lib.IsBuilder 60 5 B b (Lib.byteCells l) w
abbrev UsedB (B b : Nat) (bs : List Value) (w : World) : Prop := Lib.BuilderAt 60 5 B b (.pointer (some ⟨b, 0, none⟩)) bs w
theorem copyCheck (B b : Nat) (bs : List Value) (w : World) (h : Lib.IsBuilder 60 5 B b bs w) :
    Calls Tryd.prog 59 #[.pointer (some ⟨b, 0, none⟩)] w fun e w' => e = .returned (.tuple #[]) ∧ UsedB B b bs w' ∧ Below B w w' := by
  rcases h with h | h
  · refine (copyFresh b w h.cell0 h.shape h.frozen0).mono ?_
    rintro e w' ⟨rfl, rfl⟩
    exact ⟨rfl, h.used _, (Below.refl B w).setCell (p := ⟨b, 0, none⟩) h.1 _⟩
  · refine (copyUsed b w h.cell0).mono ?_
    rintro e w' ⟨rfl, rfl⟩
    exact ⟨rfl, h, Below.refl B _⟩

set_option maxHeartbeats 2000000 in
theorem writeByte (B b : Nat) (bs : List Value) (c : Int) (w : World) (h : Lib.IsBuilder 60 5 B b bs w) (hlen : bs.length ≤ 1000000) (hBw : B ≤ w.heap.size) :
    Calls Tryd.prog 46 #[.pointer (some ⟨b, 0, none⟩), .int .u8 c] w fun e w' => e = .returned .nilIface ∧ UsedB B b (bs ++ [.int .u8 c]) w' ∧ Below B w w' := by
  obtain ⟨i0, hi, hz0, hz1, hz2⟩ := u8Parts
  go_enter Tryd.func46, Tryd.ntmps46
  go_wp2_with (fail)
  refine (copyCheck B b bs _ h).mono ?_
  rintro e w1 ⟨rfl, ⟨hB, v, hbk, hown, hne⟩, hb1⟩
  have c0 := blk_cell hbk 0
  have c1 := blk_cell hbk 1
  simp only [List.getElem?_toArray, List.getElem?_cons_zero, List.getElem?_cons_succ] at c0 c1
  have hs1 := hb1.size
  go_wp2_with (at_builtin; refine wpList_append_own _ rfl _ _ 58 rfl B 5 i0 (.int .u8 0) 1 1 Tryd.underlying58 hi hz0 hz1 hz2 rfl (by decide) _ _ _ rfl (hown.alloc _) ⟨w1.heap.size, 0, none⟩ 1 1 [.int .u8 c] rfl rfl ?c1 ?c2 ?c3 ?c4 ?c5 ?_)
  case c1 =>
    intro j u hj
    match j, hj with
    | 0, hj => simp at hj; subst hj; simp [Addr.add]
  case c2 => intro u hu; simp at hu; subst hu; rfl
  case c3 => unfold maxLen; omega
  case c4 => omega
  case c5 => simp; omega
  intro v' w2 hown' hgrow _
  have hlt := blk_lt hbk
  have hb2 : w2.heap[b]? = some (.cells #[.pointer (some ⟨b, 0, none⟩), v] 60 (0, 0)) := by
    rw [hgrow.block b (by simp; omega) (fun e => hne e.symm), Below.heap_alloc w1 _ b hlt]
    exact hbk
  have d0 := blk_cell hb2 0
  have d1 := blk_cell hb2 1
  have f1 := blk_frozen hb2 1
  simp only [List.getElem?_toArray, List.getElem?_cons_zero, List.getElem?_cons_succ] at d0 d1
  obtain ⟨g, cap, rfl⟩ : ∃ g cap, v' = .slice (some ⟨g, 0, none⟩) (bs.length + 1) cap := by
    rcases hown'.2 with ⟨_, h0⟩ | ⟨g, cap, cur, hv, _⟩
    · omega
    · exact ⟨g, cap, hv⟩
  go_wp2
  go_ret
  refine ⟨rfl, ?_, ?_⟩
  · exact Lib.BuilderAt.put (T := 60) (e := 5) hB hb2 (bs' := bs ++ [.int .u8 c]) (by simpa using hown') (by decide)
  · exact ((hb1.alloc (by omega) _).grown hgrow (by simp; omega) (fun k hk => (hown.lt k hk).1)).setCell (p := ⟨b, 1, none⟩) hB _

set_option maxHeartbeats 2000000 in
theorem writeString (B b : Nat) (bs : List Value) (s : ByteArray) (w : World) (h : Lib.IsBuilder 60 5 B b bs w) (hlen : bs.length ≤ 1000000) (hlen2 : s.size ≤ 1000000) (hBw : B ≤ w.heap.size) :
    Calls Tryd.prog 47 #[.pointer (some ⟨b, 0, none⟩), .string s] w fun e w' => e = .returned (.tuple #[.int .i64 s.size, .nilIface]) ∧ UsedB B b (bs ++ Lib.strCells s) w' ∧ Below B w w' := by
  obtain ⟨i0, hi, hz0, hz1, hz2⟩ := u8Parts
  go_enter Tryd.func47, Tryd.ntmps47
  go_wp2_with (fail)
  refine (copyCheck B b bs _ h).mono ?_
  rintro e w1 ⟨rfl, ⟨hB, v, hbk, hown, hne⟩, hb1⟩
  have c0 := blk_cell hbk 0
  have c1 := blk_cell hbk 1
  simp only [List.getElem?_toArray, List.getElem?_cons_zero, List.getElem?_cons_succ] at c0 c1
  have hs1 := hb1.size
  go_wp2_with (at_builtin; refine Lib.wpList_append_own_string _ rfl _ _ 58 9 rfl B 5 i0 Tryd.underlying58 Tryd.underlying9 hi hz0 hz1 hz2 _ _ _ rfl hown s rfl ?c3 ?c4 ?c5 ?_)
  case c3 => unfold maxLen; omega
  case c4 => omega
  case c5 => omega
  intro v' w2 hown' hgrow _
  have hlt := blk_lt hbk
  have hb2 : w2.heap[b]? = some (.cells #[.pointer (some ⟨b, 0, none⟩), v] 60 (0, 0)) := by
    rw [hgrow.block b hlt (fun e => hne e.symm)]
    exact hbk
  have d0 := blk_cell hb2 0
  have d1 := blk_cell hb2 1
  have f1 := blk_frozen hb2 1
  simp only [List.getElem?_toArray, List.getElem?_cons_zero, List.getElem?_cons_succ] at d0 d1
  obtain ⟨ao, n', cap, rfl⟩ : ∃ ao n' cap, v' = .slice ao n' cap := by
    rcases hown'.2 with ⟨hv, _⟩ | ⟨g, cap, cur, hv, _⟩
    · exact ⟨_, _, _, hv⟩
    · exact ⟨_, _, _, hv⟩
  go_wp2
  go_ret2
  refine ⟨rfl, ?_, ?_⟩
  · exact Lib.BuilderAt.put (T := 60) (e := 5) hB hb2 (bs' := bs ++ Lib.strCells s) (by simpa [Lib.strCells_length] using hown') (by decide)
  · exact (hb1.grown hgrow (by omega) (fun k hk => (hown.lt k hk).1)).setCell (p := ⟨b, 1, none⟩) hB _

/-- The library's table of powers of ten, as this world and all that follow it hold it. -/
abbrev Tab (B : Nat) (w : World) : Prop := Lib.TabBelow Tryd.prog B w "internal/strconv.uint64pow10" .u64 Lib.pow10Tab
theorem digit_byte (k : Nat) (h : k < 10) : (48 + k.toUInt8 : UInt8) = UInt8.ofNat (48 + k) := by
  have hc : k = 0 ∨ k = 1 ∨ k = 2 ∨ k = 3 ∨ k = 4 ∨ k = 5 ∨ k = 6 ∨ k = 7 ∨ k = 8 ∨ k = 9 := by omega
  rcases hc with rfl | rfl | rfl | rfl | rfl | rfl | rfl | rfl | rfl | rfl <;> rfl
theorem dig_dec : ∀ (f n : Nat), n < 10 ^ (f + 1) → digL f n = Lib.decDigits n
  | 0, n, h => by
    have hn : n < 10 := by simpa using h
    rw [Lib.decDigits, dif_pos hn, digL, digit_byte _ (by omega), Nat.mod_eq_of_lt hn]
  | f + 1, n, h => by
    rw [digL, Lib.decDigits]
    by_cases h9 : 9 < n
    · rw [if_pos h9, dif_neg (by omega), dig_dec f (n / 10) (by rw [Nat.pow_succ] at h; omega), digit_byte _ (by omega)]
    · rw [if_neg h9, dif_pos (by omega), digit_byte _ (by omega), Nat.mod_eq_of_lt (by omega)]
theorem dec8_dec (n : Nat) (h : n < 256) : Lib.itoa (n : Int) = dec8 n := by
  unfold Lib.itoa dec8
  rw [if_neg (by omega), Int.toNat_natCast, dig_dec 9 n (Nat.lt_of_lt_of_le h (by decide))]

theorem itoa (n : Nat) (w : World) (h : n < 256) {B : Nat} (ht : Tab B w) :
    Calls Tryd.prog 48 #[.int .i64 (n : Int)] w fun e w' => e = .returned (.string ⟨(dec8 n).toArray⟩) ∧ Below w.heap.size w w' := by
  refine (Tryd.strconv_Itoa n (by omega) (by omega) w ht.here).mono ?_
  rintro e w' ⟨rfl, k, os, rfl⟩
  rw [dec8_dec n h]
  exact ⟨rfl, Lib.below_grow _ _ (Nat.le_refl _) k os⟩

/-- What has been written behind k parts. -/
def accL (a : Nat) : Nat → List UInt8
  | 0 => []
  | k + 1 => (if 0 < k then accL a k ++ [46] else accL a k) ++ dec8 (a / 2 ^ (24 - 8 * k) % 256)
theorem acc_four (a : Nat) (h : a < 4294967296) : accL a 4 = dotL a := by
  unfold accL accL accL accL accL dotL
  simp only [Nat.lt_irrefl, if_false, Nat.zero_lt_succ, if_true, Nat.mul_zero, Nat.sub_zero, Nat.mul_one, List.nil_append, List.append_assoc, List.cons_append, List.singleton_append]
  rw [show a / 2 ^ 24 % 256 = a / 16777216 by omega, show a / 2 ^ (24 - 8) % 256 = a / 65536 % 256 by rfl, show a / 2 ^ (24 - 8 * 2) % 256 = a / 256 % 256 by rfl, show a / 2 ^ (24 - 8 * 3) % 256 = a % 256 by omega]
theorem dec8_len (n : Nat) : (dec8 n).length ≤ 10 := (digL_len 9 n).2
theorem acc_len (a : Nat) : ∀ k, (accL a k).length ≤ 11 * k
  | 0 => by simp [accL]
  | k + 1 => by
    have ih := acc_len a k
    have h2 := dec8_len (a / 2 ^ (24 - 8 * k) % 256)
    unfold accL
    rw [List.length_append]
    split
    · rw [List.length_append]; simp only [List.length_cons, List.length_nil]; omega
    · omega

theorem isB_keep {T e : TypeId} {B b : Nat} {bs : List Value} {w w' : World} (h : Lib.IsBuilder T e B b bs w) (hb : Below w.heap.size w w') : Lib.IsBuilder T e B b bs w' := by
  have go : ∀ p, Lib.BuilderAt T e B b p bs w → Lib.BuilderAt T e B b p bs w' := fun p ⟨h1, v, h2, h3, h4⟩ => ⟨h1, v, blk_keep h2 hb, own_keep h3 hb, h4⟩
  rcases h with h | h
  · exact .inl (go _ h)
  · exact .inr (go _ h)
theorem byteCells_append (a b : List UInt8) : Lib.byteCells (a ++ b) = Lib.byteCells a ++ Lib.byteCells b := by simp [Lib.byteCells]
theorem wrap_part (x : Nat) (h : x < 4294967296) : wrap64 (bits .and .u32 (x : Int) 255) = ((x % 256 : Nat) : Int) := by
  have e : bits .and .u32 (x : Int) 255 = ((x % 256 : Nat) : Int) := by
    have := u32_and_nat x 255 h (by decide)
    rw [nat_mask8] at this
    exact this
  rw [e]
  unfold wrap64
  omega
theorem part0 (a : Nat) (h : a < 4294967296) : wrap64 (bits .and .u32 ((a : Int) / 16777216) 255) = ((a / 2 ^ (24 - 8 * 0) % 256 : Nat) : Int) := by
  rw [show ((a : Int) / 16777216) = ((a / 16777216 : Nat) : Int) by omega, wrap_part _ (by omega)]
theorem part1 (a : Nat) (h : a < 4294967296) : wrap64 (bits .and .u32 ((a : Int) / 65536) 255) = ((a / 2 ^ (24 - 8 * 1) % 256 : Nat) : Int) := by
  rw [show ((a : Int) / 65536) = ((a / 65536 : Nat) : Int) by omega, wrap_part _ (by omega)]
theorem part2 (a : Nat) (h : a < 4294967296) : wrap64 (bits .and .u32 ((a : Int) / 256) 255) = ((a / 2 ^ (24 - 8 * 2) % 256 : Nat) : Int) := by
  rw [show ((a : Int) / 256) = ((a / 256 : Nat) : Int) by omega, wrap_part _ (by omega)]
theorem part3 (a : Nat) (h : a < 4294967296) : wrap64 (bits .and .u32 (a : Int) 255) = ((a / 2 ^ (24 - 8 * 3) % 256 : Nat) : Int) := by
  rw [wrap_part _ h, show a / 2 ^ (24 - 8 * 3) = a by simp]

set_option maxHeartbeats 2000000 in
theorem format (a : Nat) (w : World) (ha : a < 4294967296) (ht : Tab w.heap.size w) :
    Calls Tryd.prog 16 #[.int .u32 (a : Int)] w fun e w' => e = .returned (.string ⟨(dotL a).toArray⟩) ∧ Below w.heap.size w w' := by
  have hlast := hid (acc_four a ha)
  have hlen := hid (acc_len a)
  go_enter Tryd.func16, Tryd.ntmps16
  go_wp2_with (fail)
  go_loopw [6] (fun i wr => ∃ k : Nat, k ≤ 4 ∧ i = .int .i64 k ∧ Lib.IsBuilder 60 5 w.heap.size w.heap.size (Lib.byteCells (accL a k)) wr ∧ Below w.heap.size w wr) (fun i _ => 4 - (intOf i).toNat)
  case atStart => exact ⟨0, by omega, rfl, Lib.fresh_isBuilder _ _ w, al1 w _⟩
  case round =>
    obtain ⟨k, hk, rfl, hI, hB⟩ := hrel
    have hk4 : k = 0 ∨ k = 1 ∨ k = 2 ∨ k = 3 ∨ k = 4 := by omega
    rcases hk4 with rfl | rfl | rfl | rfl | rfl
    · have hJ := fun wx (h : Tab w.heap.size wx) => itoa (a / 2 ^ (24 - 8 * 0) % 256) wx (Nat.mod_lt _ (by decide)) h
      rw [← part0 a ha] at hJ
      have hl := hlen.out 0
      have hd := dec8_len (a / 2 ^ (24 - 8 * 0) % 256)
      have hnx := hid (show accL a 1 = accL a 0 ++ dec8 (a / 2 ^ (24 - 8 * 0) % 256) from rfl)
      generalize dec8 (a / 2 ^ (24 - 8 * 0) % 256) = dp at *
      generalize accL a 0 = ac at *
      go_wp2_with (fail)
      refine (hJ _ (ht.on hB)).mono ?_
      rintro e w2 ⟨rfl, b2⟩
      have hI2 := isB_keep hI b2
      have B2 := hB.trans (b2.mono hB.size)
      go_wp2_with (fail)
      refine (writeString _ _ _ _ _ hI2 (by rw [Lib.byteCells_length]; omega) (by rw [← len_data]; simp; omega) B2.size).mono ?_
      rintro e w3 ⟨rfl, hI3, b3⟩
      have HI3 : Hid (Lib.IsBuilder 60 5 w.heap.size w.heap.size (Lib.byteCells (accL a 1)) w3) := by
        refine .inr ?_
        rw [hnx.out, byteCells_append]; exact hI3
      have B3 := B2.trans b3
      clear hI hI2 hI3 b2 b3 hB B2
      go_wp2_with (fail)
      go_roundw
      case rel => exact ⟨1, by omega, by go_num, HI3, B3⟩
      case measure => simp [intOf]
    · have hJ := fun wx (h : Tab w.heap.size wx) => itoa (a / 2 ^ (24 - 8 * 1) % 256) wx (Nat.mod_lt _ (by decide)) h
      rw [← part1 a ha] at hJ
      have hl := hlen.out 1
      have hd := dec8_len (a / 2 ^ (24 - 8 * 1) % 256)
      have hnx := hid (show accL a 2 = accL a 1 ++ [46] ++ dec8 (a / 2 ^ (24 - 8 * 1) % 256) from rfl)
      generalize dec8 (a / 2 ^ (24 - 8 * 1) % 256) = dp at *
      generalize accL a 1 = ac at *
      go_wp2_with (fail)
      refine (writeByte _ _ _ _ _ hI (by rw [Lib.byteCells_length]; omega) hB.size).mono ?_
      rintro e w1 ⟨rfl, hI1, b1⟩
      have B1 := hB.trans b1
      go_wp2_with (fail)
      refine (hJ _ (ht.on B1)).mono ?_
      rintro e w2 ⟨rfl, b2⟩
      have hI2 := isB_keep (.inr hI1) b2
      have B2 := B1.trans (b2.mono B1.size)
      go_wp2_with (fail)
      refine (writeString _ _ _ _ _ hI2 (by rw [List.length_append, Lib.byteCells_length]; simp only [List.length_cons, List.length_nil]; omega) (by rw [← len_data]; simp; omega) B2.size).mono ?_
      rintro e w3 ⟨rfl, hI3, b3⟩
      have HI3 : Hid (Lib.IsBuilder 60 5 w.heap.size w.heap.size (Lib.byteCells (accL a 2)) w3) := by
        refine .inr ?_
        rw [hnx.out, byteCells_append, byteCells_append]; exact hI3
      have B3 := B2.trans b3
      clear hI hI1 hI2 hI3 b1 b2 b3 hB B1 B2
      go_wp2_with (fail)
      go_roundw
      case rel => exact ⟨2, by omega, by go_num, HI3, B3⟩
      case measure => simp [intOf]
    · have hJ := fun wx (h : Tab w.heap.size wx) => itoa (a / 2 ^ (24 - 8 * 2) % 256) wx (Nat.mod_lt _ (by decide)) h
      rw [← part2 a ha] at hJ
      have hl := hlen.out 2
      have hd := dec8_len (a / 2 ^ (24 - 8 * 2) % 256)
      have hnx := hid (show accL a 3 = accL a 2 ++ [46] ++ dec8 (a / 2 ^ (24 - 8 * 2) % 256) from rfl)
      generalize dec8 (a / 2 ^ (24 - 8 * 2) % 256) = dp at *
      generalize accL a 2 = ac at *
      go_wp2_with (fail)
      refine (writeByte _ _ _ _ _ hI (by rw [Lib.byteCells_length]; omega) hB.size).mono ?_
      rintro e w1 ⟨rfl, hI1, b1⟩
      have B1 := hB.trans b1
      go_wp2_with (fail)
      refine (hJ _ (ht.on B1)).mono ?_
      rintro e w2 ⟨rfl, b2⟩
      have hI2 := isB_keep (.inr hI1) b2
      have B2 := B1.trans (b2.mono B1.size)
      go_wp2_with (fail)
      refine (writeString _ _ _ _ _ hI2 (by rw [List.length_append, Lib.byteCells_length]; simp only [List.length_cons, List.length_nil]; omega) (by rw [← len_data]; simp; omega) B2.size).mono ?_
      rintro e w3 ⟨rfl, hI3, b3⟩
      have HI3 : Hid (Lib.IsBuilder 60 5 w.heap.size w.heap.size (Lib.byteCells (accL a 3)) w3) := by
        refine .inr ?_
        rw [hnx.out, byteCells_append, byteCells_append]; exact hI3
      have B3 := B2.trans b3
      clear hI hI1 hI2 hI3 b1 b2 b3 hB B1 B2
      go_wp2_with (fail)
      go_roundw
      case rel => exact ⟨3, by omega, by go_num, HI3, B3⟩
      case measure => simp [intOf]
    · have hJ := fun wx (h : Tab w.heap.size wx) => itoa (a / 2 ^ (24 - 8 * 3) % 256) wx (Nat.mod_lt _ (by decide)) h
      rw [← part3 a ha] at hJ
      have hl := hlen.out 3
      have hd := dec8_len (a / 2 ^ (24 - 8 * 3) % 256)
      have hnx := hid (show accL a 4 = accL a 3 ++ [46] ++ dec8 (a / 2 ^ (24 - 8 * 3) % 256) from rfl)
      generalize dec8 (a / 2 ^ (24 - 8 * 3) % 256) = dp at *
      generalize accL a 3 = ac at *
      go_wp2_with (fail)
      refine (writeByte _ _ _ _ _ hI (by rw [Lib.byteCells_length]; omega) hB.size).mono ?_
      rintro e w1 ⟨rfl, hI1, b1⟩
      have B1 := hB.trans b1
      go_wp2_with (fail)
      refine (hJ _ (ht.on B1)).mono ?_
      rintro e w2 ⟨rfl, b2⟩
      have hI2 := isB_keep (.inr hI1) b2
      have B2 := B1.trans (b2.mono B1.size)
      go_wp2_with (fail)
      refine (writeString _ _ _ _ _ hI2 (by rw [List.length_append, Lib.byteCells_length]; simp only [List.length_cons, List.length_nil]; omega) (by rw [← len_data]; simp; omega) B2.size).mono ?_
      rintro e w3 ⟨rfl, hI3, b3⟩
      have HI3 : Hid (Lib.IsBuilder 60 5 w.heap.size w.heap.size (Lib.byteCells (accL a 4)) w3) := by
        refine .inr ?_
        rw [hnx.out, byteCells_append, byteCells_append]; exact hI3
      have B3 := B2.trans b3
      clear hI hI1 hI2 hI3 b1 b2 b3 hB B1 B2
      go_wp2_with (fail)
      go_roundw
      case rel => exact ⟨4, by omega, by go_num, HI3, B3⟩
      case measure => simp [intOf]
    · rw [hlast.out] at hI
      have hS := Tryd.Builder_String_any w.heap.size w.heap.size (dotL a) wr hI hB.size
      go_wp2_with (fail)
      refine hS.mono ?_
      rintro e w1 ⟨rfl, b1⟩
      have B1 := hB.trans b1
      go_wp2_with (fail)
      go_ret
      exact ⟨rfl, B1⟩

theorem ret_str {a b : ByteArray} (h : a = b) : Ending.returned (.string a) = .returned (.string b) := by rw [h]
set_option maxHeartbeats 1000000 in
theorem decimal_last (n : Nat) (w : World) (h : n ≤ 9) : Calls Tryd.prog 50 #[.int .i64 (n : Int)] w fun e w' => e = .returned (.string (dgt (n % 10))) ∧ w = w' := by
  go_enter Tryd.func50, Tryd.ntmps50
  go_wp2
  go_ret
  exact ⟨rfl, rfl⟩
set_option maxHeartbeats 1000000 in
theorem decimal : ∀ (f n : Nat) (w : World), f ≤ 100 → n < 10 ^ (f + 1) → n ≤ 9999999999 → Calls Tryd.prog 50 #[.int .i64 (n : Int)] w fun e w' => e = .returned (.string (decF f n)) ∧ w = w'
  | 0, n, w, _, h, _ => decimal_last n w (by simp at h; omega)
  | f + 1, n, w, hf, h, h2 => by
    by_cases h9 : 9 < n
    · have ih := fun wx => decimal f (n / 10) wx (by omega) (by rw [Nat.pow_succ] at h; omega) (by omega)
      have e : ((n / 10 : Nat) : Int) = (n : Int) / 10 := by omega
      rw [e] at ih
      have E : decF (f + 1) n = decF f (n / 10) ++ dgt (n % 10) := by rw [decF, if_pos h9]
      rw [E]
      have S1 := dec_size f (n / 10)
      obtain ⟨d, hd⟩ : ∃ d, d = decF f (n / 10) := ⟨_, rfl⟩
      rw [← hd] at ih S1 ⊢
      have S2 : d.size ≤ 101 := by omega
      clear hd E h e
      go_enter Tryd.func50, Tryd.ntmps50
      go_wp2_with fail
      refine (ih _).mono ?_
      rintro e w' ⟨rfl, rfl⟩
      go_wp2
      go_ret
      exact ⟨rfl, rfl⟩
    · have E : decF (f + 1) n = dgt (n % 10) := by rw [decF, if_neg h9]
      rw [E]
      exact decimal_last n w (by omega)

/-- The decimal form as the program holds it. -/
def decA (n : Nat) : ByteArray := decF 9 n
theorem decA_data (n : Nat) : (decA n).data.toList = dec8 n := decF_data 9 n
theorem decA_size (n : Nat) : (decA n).size ≤ 10 := dec_size 9 n
theorem decimal8 (n : Nat) (w : World) (h : n < 256) : Calls Tryd.prog 50 #[.int .i64 (n : Int)] w fun e w' => e = .returned (.string (decA n)) ∧ w = w' :=
  decimal 9 n w (by omega) (Nat.lt_of_lt_of_le h (by decide)) (by omega)

theorem bytes_ext {a b : ByteArray} (h : a.data.toList = b.data.toList) : a = b := by
  cases a; cases b
  congr 1
  exact Array.ext' h
theorem dot_bytes (a : Nat) : ((((((decA (a / 16777216) ++ ⟨#[46]⟩) ++ decA (a / 65536 % 256)) ++ ⟨#[46]⟩) ++ decA (a / 256 % 256)) ++ ⟨#[46]⟩) ++ decA (a % 256)) = ⟨(dotL a).toArray⟩ := by
  refine bytes_ext ?_
  simp only [ByteArray.data_append, Array.toList_append, decA_data]
  simp [dotL]

set_option maxHeartbeats 2000000 in
theorem dotted (a : Nat) (w : World) (ha : a < 4294967296) :
    Calls Tryd.prog 17 #[.int .u32 (a : Int)] w fun e w' => e = .returned (.string ⟨(dotL a).toArray⟩) ∧ w = w' := by
  have h0 := fun wx => decimal8 (a / 16777216) wx (by omega)
  rw [show ((a / 16777216 : Nat) : Int) = (a : Int) / 16777216 by omega] at h0
  have h1 := fun wx => decimal8 (a / 65536 % 256) wx (by omega)
  have p1 := part1 a ha
  rw [show a / 2 ^ (24 - 8 * 1) = a / 65536 by rfl] at p1
  rw [← p1] at h1
  have h2 := fun wx => decimal8 (a / 256 % 256) wx (by omega)
  have p2 := part2 a ha
  rw [show a / 2 ^ (24 - 8 * 2) = a / 256 by rfl] at p2
  rw [← p2] at h2
  have h3 := fun wx => decimal8 (a % 256) wx (by omega)
  have p3 := part3 a ha
  rw [show a / 2 ^ (24 - 8 * 3) = a by simp] at p3
  rw [← p3] at h3
  have hE := hid (dot_bytes a)
  have s0 := decA_size (a / 16777216)
  have s1 := decA_size (a / 65536 % 256)
  have s2 := decA_size (a / 256 % 256)
  have s3 := decA_size (a % 256)
  generalize decA (a / 16777216) = x0 at *
  generalize decA (a / 65536 % 256) = x1 at *
  generalize decA (a / 256 % 256) = x2 at *
  generalize decA (a % 256) = x3 at *
  clear p1 p2 p3
  go_enter Tryd.func17, Tryd.ntmps17
  go_wp2_with (fail)
  refine (h0 _).mono ?_
  rintro e w' ⟨rfl, rfl⟩
  go_wp2_with (fail)
  refine (h1 _).mono ?_
  rintro e w' ⟨rfl, rfl⟩
  go_wp2_with (fail)
  refine (h2 _).mono ?_
  rintro e w' ⟨rfl, rfl⟩
  go_wp2_with (fail)
  refine (h3 _).mono ?_
  rintro e w' ⟨rfl, rfl⟩
  go_wp2_with (fail)
  go_ret
  exact ⟨ret_str hE.out, rfl⟩
end Go.Proofs.YtppdhcjmdgkadaaDoor.Ad
