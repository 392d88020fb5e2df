/-
  THE CONTRACT OF model's fitsStatic, AND THE CHECKS OF ONE RULE.
-/
import Derived.Test.YtlhbfpapmolohaaGreatModT
import Derived.Test.YtlhbfpapmolohaaGreatModJ
import Derived.Test.YtlhbfpapmolohaaGreatModK
namespace Go.Proofs.YtlhbfpapmolohaaGreat.Mw
set_option linter.unusedSimpArgs false
set_option linter.unusedVariables false
open Go.RowKit Kt Mm Mp

/-- How many of the first k are true. -/
def cntB (l : List Bool) (k : Nat) : Nat := ((l.take k).filter id).length
theorem cnt_succ {l : List Bool} {k : Nat} {b : Bool} (h : l[k]? = some b) : cntB l (k + 1) = cntB l k + (if b then 1 else 0) := by
  unfold cntB
  obtain ⟨hl, rfl⟩ := List.getElem?_eq_some_iff.1 h
  rw [List.take_succ_eq_append_getElem hl, List.filter_append, List.length_append]
  cases l[k] <;> rfl

set_option maxHeartbeats 1000000 in
theorem fitsStat (x : Stc) (w : World) (h1 : low x.pfx.addr) :
    Calls Tryz.prog 95 #[.agg (eStc x).toArray] w fun e w' => e = .returned (.bool (statOk x)) ∧ Below w.heap.size w w' := by
  have hV : ∀ wx, Calls Tryz.prog 75 #[Ad.px x.pfx.addr x.pfx.len] wx fun e w' => e = .returned (.bool (vPf x.pfx)) ∧ Below wx.heap.size wx w' := fun wx => Ad.valid x.pfx.addr x.pfx.len wx h1
  clear h1
  obtain ⟨b0, hb0⟩ : ∃ b0, ((x.next : Int) != 0) = b0 := ⟨_, rfl⟩
  obtain ⟨b1, hb1⟩ : ∃ b1, (!x.ifc.toList.isEmpty) = b1 := ⟨_, rfl⟩
  obtain ⟨b2, hb2⟩ : ∃ b2, x.discard = b2 := ⟨_, rfl⟩
  have W3 := hid (show waysN x = cntB [b0, b1, b2] 3 by
    unfold waysN noS cntB
    rw [← hb0, ← hb1, ← hb2]
    by_cases h0 : x.next = 0 <;> cases h1 : x.ifc.toList.isEmpty <;> cases h2 : x.discard <;> simp [h0])
  obtain ⟨X, hX⟩ : ∃ X, X = (eStc x).toArray := ⟨_, rfl⟩
  obtain ⟨w1, hw1⟩ : ∃ w1, w.alloc (.cells X 58) = w1 := ⟨_, rfl⟩
  obtain ⟨w2, hw2⟩ : ∃ w2, w1.alloc (.cells #[.bool b0, .bool b1, .bool b2] 4) = w2 := ⟨_, rfl⟩
  have s1 : w1.heap.size = w.heap.size + 1 := by rw [← hw1, new_size]
  have hh : w2.heap[w.heap.size]? = some (.cells X 58 (0, 0)) := by rw [← hw2, Below.heap_alloc _ _ _ (by omega), ← hw1, heap_new]
  have hs : w2.heap[w1.heap.size]? = some (.cells #[.bool b0, .bool b1, .bool b2] 4 (0, 0)) := by rw [← hw2, heap_new]
  have c2 : w1.cell? ⟨w.heap.size, 2, none⟩ = some (.int .u32 (x.next : Int)) := by rw [← hw1]; exact (new_cell w X _ 2).trans (by rw [hX]; rfl)
  have c3 : w1.cell? ⟨w.heap.size, 3, none⟩ = some (.string x.ifc) := by rw [← hw1]; exact (new_cell w X _ 3).trans (by rw [hX]; rfl)
  have c4 : w1.cell? ⟨w.heap.size, 4, none⟩ = some (.bool b2) := by rw [← hw1]; exact (new_cell w X _ 4).trans (by rw [hX, ← hb2]; rfl)
  have F0 : ∀ v : World, Below w2.heap.size w2 v → v.cell? ⟨w.heap.size, 0, none⟩ = some (.int .u32 (x.pfx.addr : Int)) := fun v h => box_at (blk_keep hh h) (by rw [hX]; rfl)
  have F1 : ∀ v : World, Below w2.heap.size w2 v → v.cell? ⟨w.heap.size, 1, none⟩ = some (.int .i64 x.pfx.len) := fun v h => box_at (blk_keep hh h) (by rw [hX]; rfl)
  have F5 : ∀ v : World, Below w2.heap.size w2 v → v.cell? ⟨w.heap.size, 5, none⟩ = some (.int .i64 x.admin) := fun v h => box_at (blk_keep hh h) (by rw [hX]; rfl)
  have F6 : ∀ v : World, Below w2.heap.size w2 v → v.cell? ⟨w.heap.size, 6, none⟩ = some (.int .i64 x.tag) := fun v h => box_at (blk_keep hh h) (by rw [hX]; rfl)
  have G : Below w2.heap.size w2 w2 := Below.refl _ _
  have H0 : Below w.heap.size w w1 := by rw [← hw1]; exact al1 _ _
  have H2 : Below w1.heap.size w1 w2 := by rw [← hw2]; exact al1 _ _
  have H := hid (then_ H0 H2)
  clear H0 H2
  rw [← hX]
  clear hX hh hb2
  go_enter Tryz.func95, Tryz.ntmps95
  repeat' (first | go_skip | go_guarded | go_step | go_upon)
  go_loopg [3, 16] 3 (fun gg s3 s16 wr => ∃ k : Nat, k ≤ 3 ∧ 3 - k ≤ gg ∧ s16 = .int .i64 k ∧ s3 = .int .i64 (cntB [b0, b1, b2] k : Nat) ∧ w2 = wr)
  case atStart => exact ⟨0, by omega, by omega, rfl, rfl, rfl⟩
  case round =>
    obtain ⟨k, hk, hg, rfl, rfl, rfl⟩ := hrel
    by_cases hlt : k < 3
    · have hlti : (k : Int) < 3 := by omega
      obtain ⟨b, hx⟩ := get_some (l := [b0, b1, b2]) (k := k) hlt
      have cb : w2.cell? ⟨w.heap.size + 1, k, none⟩ = some (.bool b) := box_at (by rw [← s1]; exact hs) (by
        match k, hlt, hx with
        | 0, _, hx => simpa using congrArg (Option.map Value.bool) hx
        | 1, _, hx => simpa using congrArg (Option.map Value.bool) hx
        | 2, _, hx => simpa using congrArg (Option.map Value.bool) hx)
      have S := hid (cnt_succ hx)
      have hle : cntB [b0, b1, b2] k ≤ 3 := by unfold cntB; exact Nat.le_trans (List.length_filter_le _ _) (by rw [List.length_take]; exact Nat.min_le_right _ _)
      obtain ⟨c, hc⟩ : ∃ c, c = cntB [b0, b1, b2] k := ⟨_, rfl⟩
      rw [← hc] at hle S ⊢
      clear hx hs hc
      cases b with
      | true =>
        repeat' (first | go_skip | go_guarded | go_step | go_upon)
        go_roundg (3 - (k + 1))
        case measure => omega
        case rel => exact ⟨k + 1, by omega, by omega, by go_num, by rw [S.out]; go_num, rfl⟩
      | false =>
        repeat' (first | go_skip | go_guarded | go_step | go_upon)
        go_roundg (3 - (k + 1))
        case measure => omega
        case rel => exact ⟨k + 1, by omega, by omega, by go_num, by rw [S.out]; rfl, rfl⟩
    · have hlti : ¬ (k : Int) < 3 := by omega
      obtain rfl : k = 3 := by omega
      have C : Hid ((waysN x = 1) = ((cntB [b0, b1, b2] 3 : Int) = 1)) := by show _ = _; rw [W3.out]; exact propext (by omega)
      obtain ⟨c, hc⟩ : ∃ c, c = cntB [b0, b1, b2] 3 := ⟨_, rfl⟩
      rw [← hc] at C ⊢
      clear hs hc hb0 hb1 c2 c3 c4
      repeat' (first | (go_at_call 64; with_reducible refine (within _ _ _ _).mono ?_; rintro e w' ⟨rfl, rfl⟩; try dsimp only) | (go_at_call 75; with_reducible refine (hV _).mono ?_; rintro e w' ⟨rfl, b⟩; have b' := then_ (w := w2) (by assumption) b; clear b; try dsimp only) | go_skip | go_guarded | go_step | go_upon)
      all_goals go_ret
      all_goals exact ⟨ret_bool (by unfold statOk; simp only [C.out]; simp_all), then_ H.out (by assumption)⟩

/-- The check of one rule of a prefix list. -/
theorem ruleE_ok (b : Bool) : (if b = true then (0 : Int) else 1) = (if b then 0 else 1) := rfl
set_option maxHeartbeats 1000000 in
theorem clPRule (i : Int) (x : PRule) (w : World) (h1 : x.pfx.addr < 4294967296) :
    Calls Tryz.prog 74 #[.int .i64 i, .agg (ePRule x).toArray] w fun e w' => e = .returned (.int .i64 (if pruleOk x then 0 else 1)) ∧ Below w.heap.size w w' := by
  obtain ⟨X, hX⟩ : ∃ X, X = (ePRule x).toArray := ⟨_, rfl⟩
  obtain ⟨w1, hw1⟩ : ∃ w1, w.alloc (.cells X 107) = w1 := ⟨_, rfl⟩
  have hhX : w1.heap[w.heap.size]? = some (.cells X 107 (0, 0)) := by rw [← hw1, heap_new]
  have FX1 : ∀ v : World, Below w1.heap.size w1 v → v.cell? ⟨w.heap.size, 1, none⟩ = some (.int .u32 (x.pfx.addr : Int)) := fun v h => box_at (blk_keep hhX h) (by rw [hX]; rfl)
  have FX2 : ∀ v : World, Below w1.heap.size w1 v → v.cell? ⟨w.heap.size, 2, none⟩ = some (.int .i64 x.pfx.len) := fun v h => box_at (blk_keep hhX h) (by rw [hX]; rfl)
  have FX3 : ∀ v : World, Below w1.heap.size w1 v → v.cell? ⟨w.heap.size, 3, none⟩ = some (.int .i64 x.mn) := fun v h => box_at (blk_keep hhX h) (by rw [hX]; rfl)
  have FX4 : ∀ v : World, Below w1.heap.size w1 v → v.cell? ⟨w.heap.size, 4, none⟩ = some (.int .i64 x.mx) := fun v h => box_at (blk_keep hhX h) (by rw [hX]; rfl)
  have GX : Below w1.heap.size w1 w1 := Below.refl _ _
  have HX := hid (show Below w.heap.size w w1 by rw [← hw1]; exact new_below _ _)
  have hX' := hid hX
  try rw [← hX]
  clear hX hhX
  have hV : ∀ wx, Calls Tryz.prog 75 #[Ad.px x.pfx.addr x.pfx.len] wx fun e w' => e = .returned (.bool (vPf x.pfx)) ∧ Below wx.heap.size wx w' := fun wx => Ad.valid x.pfx.addr x.pfx.len wx h1
  clear h1
  go_enter Tryz.func74, Tryz.ntmps74
  repeat' (first | (go_at_call 75; with_reducible refine (hV _).mono ?_; rintro e w' ⟨rfl, b⟩; have b' := then_ (w := w1) (by assumption) b; clear b; try dsimp only) | go_skip | go_guarded | go_step | go_upon)
  all_goals go_ret
  all_goals exact ⟨ret_int (by unfold pruleOk; first | (simp_all; done) | (simp_all; omega)), then_ HX.out (by assumption)⟩

set_option maxHeartbeats 1000000 in
theorem clRule (i : Int) (x : Rule) (w : World) (h1 : x.src.addr < 4294967296) (h2 : x.src.mask < 4294967296) (h3 : x.dst.addr < 4294967296) (h4 : x.dst.mask < 4294967296) :
    Calls Tryz.prog 87 #[.int .i64 i, .agg (eRule x).toArray] w fun e w' => e = .returned (.int .i64 (if ruleOk x then 0 else 1)) ∧ Below w.heap.size w w' := by
  have hF := fun wx => fitsRule x wx h1 h2 h3 h4
  clear h1 h2 h3 h4
  obtain ⟨q, hq⟩ : ∃ q, q = ruleOk x := ⟨_, rfl⟩
  rw [← hq] at hF ⊢
  simp only [eRule] at hF ⊢
  have cs := fun j => new_cell w #[.bool x.permit, .int .i64 x.proto, .int .u32 (x.src.addr : Int), .int .u32 (x.src.mask : Int), .int .u32 (x.dst.addr : Int), .int .u32 (x.dst.mask : Int), .int .i64 x.sp.lo, .int .i64 x.sp.hi, .int .i64 x.dp.lo, .int .i64 x.dp.hi] 126 j
  have c0 := cs 0; have c1 := cs 1; have c2 := cs 2; have c3 := cs 3; have c4 := cs 4; have c5 := cs 5; have c6 := cs 6; have c7 := cs 7; have c8 := cs 8; have c9 := cs 9
  clear cs hq
  obtain ⟨w1, hw1⟩ : ∃ w1, w.alloc (.cells #[.bool x.permit, .int .i64 x.proto, .int .u32 (x.src.addr : Int), .int .u32 (x.src.mask : Int), .int .u32 (x.dst.addr : Int), .int .u32 (x.dst.mask : Int), .int .i64 x.sp.lo, .int .i64 x.sp.hi, .int .i64 x.dp.lo, .int .i64 x.dp.hi] 126) = w1 := ⟨_, rfl⟩
  have H := hid (show Below w.heap.size w w1 by rw [← hw1]; exact al1 _ _)
  rw [hw1] at c0 c1 c2 c3 c4 c5 c6 c7 c8 c9
  simp only [List.getElem?_toArray, List.getElem?_cons_zero, List.getElem?_cons_succ] at c0 c1 c2 c3 c4 c5 c6 c7 c8 c9
  have G : Below w1.heap.size w1 w1 := Below.refl _ _
  go_enter Tryz.func87, Tryz.ntmps87
  repeat' (first | (go_at_call 88; with_reducible refine (hF _).mono ?_; rintro e w' ⟨rfl, b⟩; have b' := then_ (w := w1) (by assumption) b; clear b; try dsimp only) | go_skip | go_guarded | go_step | go_upon)
  all_goals go_ret
  all_goals exact ⟨ret_int (by simp_all), then_ H.out (by assumption)⟩
end Go.Proofs.YtlhbfpapmolohaaGreat.Mw
