/-
  THE CONTRACTS OF slices.Grow AND slices.Concat AS interval CALLS THEM, AND OF interval.Union.
-/
import Derived.Test.YtmcoccfbbhnmfaaDoorIvlB
namespace Go.Proofs.YtmcoccfbbhnmfaaDoor.Iw
set_option linter.unusedSimpArgs false
set_option linter.unusedVariables false
open Go.RowKit Sm Ip Im Kt

/-- slices.Grow at nil: an own row of no element. -/
theorem growNil (n : Nat) (w : World) (hn : n ≤ 20000000000) :
    Calls Tryd.prog 56 #[.slice none 0 0, .int .i64 (n : Int)] w fun e w' => ∃ v, e = .returned v ∧ w'.ownsRow w.heap.size 45 2 v 0 [] ∧ Below w.heap.size w w' := by
  obtain ⟨i0, hi, hz0, hz1, hz2⟩ := info_parts ivInfo
  by_cases h0 : n = 0
  · subst h0
    have hcon := Any8.slices_Grow_room Tryd.growIv none 0 0 0 w (Nat.le_refl _) (by omega) (by omega) (Nat.le_refl _)
    change Calls Tryd.prog 56 _ _ _ at hcon
    refine hcon.mono ?_
    rintro e w' ⟨rfl, rfl⟩
    exact ⟨_, rfl, World.ownsRow_nil _ _ _ _, Below.refl _ _⟩
  · have hcon := Any8.slices_Grow_grow Tryd.growIv i0 _ hi hz0 (by omega) none 0 0 n [] w (Nat.le_refl _) (by omega) (by rw [hz2]; omega) (by omega) (by simp) (fun _ => rfl) (fun _ h => by cases h)
    change Calls Tryd.prog 56 _ _ _ at hcon
    refine hcon.mono ?_
    rintro e w' ⟨rfl, rfl⟩
    have hge := grownCap_ge w (0 + n) 0 45
    have hle := grownCap_le_maxLen w (0 + n) 0 45 (by unfold maxLen; omega)
    refine ⟨_, rfl, World.ownsRow_made w.drew _ _ (Nat.le_refl _) hle ?_, (Below.refl _ w).drew.alloc (Nat.le_refl _) _⟩
    simp only [Array.size_append, size_zeroCells]
    have : (Value.agg #[.int .u32 0, .int .u32 0]).cells.size = 2 := rfl
    rw [this]
    show 0 + (0 + n - 0) * 2 + (grownCap w (0 + n) 0 45 - (0 + n)) * 2 = grownCap w (0 + n) 0 45 * 2
    omega

set_option maxHeartbeats 4000000 in
set_option maxRecDepth 100000 in
theorem concat (v1 v2 : Value) (a b : List Iv) (B : Nat) (w : World) (ha : IsIv w v1 a) (hb : IsIv w v2 b) (la : a.length ≤ 10000000000) (lb : b.length ≤ 10000000000)
    (c0 : w.cell? ⟨B, 0, none⟩ = some v1) (c1 : w.cell? ⟨B, 1, none⟩ = some v2) (hB : B < w.heap.size) :
    Calls Tryd.prog 45 #[.slice (some ⟨B, 0, none⟩) 2 2] w (IvPost (a ++ b) w) := by
  obtain ⟨i0, hi, hz0, hz1, hz2⟩ := info_parts ivInfo
  have ha' := ha
  have hb' := hb
  obtain ⟨a1, cap1, rfl, _⟩ := rows_open ha
  obtain ⟨a2, cap2, rfl, _⟩ := rows_open hb
  obtain ⟨n, hn⟩ : ∃ n, n = a.length := ⟨_, rfl⟩
  obtain ⟨m, hm⟩ : ∃ m, m = b.length := ⟨_, rfl⟩
  rw [← hn] at la c0
  rw [← hm] at lb c1
  have HA := hid (iv_n ha' hn)
  have HB := hid (iv_n hb' hm)
  rw [← hn] at HA
  rw [← hm] at HB
  have HN := hid hn
  have HM := hid hm
  clear ha hb ha' hb' hn hm
  go_enter Tryd.func45, Tryd.ntmps45
  go_wp2_with fail
  refine wp_loop_rounds 3 ?_
  repeat any_goals (rw [rounds_succ]; go_wp2_with fail)
  refine (growNil (n + m) _ (by omega)).mono ?_
  rintro e w1 ⟨v, rfl, own1, bel1⟩
  have c0 := (bel1.cell (p := ⟨B, 0, none⟩) hB).trans c0
  have c1 := (bel1.cell (p := ⟨B, 1, none⟩) hB).trans c1
  have hs1 := bel1.size
  have r1 := hid (rows_keep HA.out bel1)
  clear HA
  go_wp2_with fail
  refine wp_loop_rounds 3 ?_
  rw [rounds_succ]
  go_wp2_with (at_builtin; refine app2 rfl _ _ _ rfl 45 i0 _ 8 Tryd.underlying22 hi hz0 hz1 hz2 rfl (by decide) w.heap.size w1 v (.slice a1 n cap1) 0 n [] (iv2 a) rfl own1 hs1 rfl r1.out (iv2_one a) (by omega) la ?_; intro v2 w2 own2 bel2)
  have c0 := (bel2.cell (p := ⟨B, 0, none⟩) hB).trans c0
  have c1 := (bel2.cell (p := ⟨B, 1, none⟩) hB).trans c1
  have hb2 := bel1.trans bel2
  have hs2 := hb2.size
  have r2' := hid (rows_keep HB.out hb2)
  rw [rounds_succ]
  go_wp2_with (at_builtin; refine app2 rfl _ _ _ rfl 45 i0 _ 8 Tryd.underlying22 hi hz0 hz1 hz2 rfl (by decide) w.heap.size w2 v2 (.slice a2 m cap2) (0 + n) m ([] ++ iv2 a) (iv2 b) rfl own2 hs2 rfl r2'.out (iv2_one b) (by omega) lb ?_; intro v3 w3 own3 bel3)
  have hb3 := hb2.trans bel3
  rw [rounds_succ]
  go_wp2_with fail
  go_ret
  refine ⟨_, rfl, ?_, hb3⟩
  have := rows_own own3
  rw [List.nil_append, ← iv2_append] at this
  refine n_iv (n := 0 + n + m) (by simpa using this) ?_
  rw [List.length_append, HN.out, HM.out, Nat.zero_add]

theorem norm_union (a b : List Iv) (h : Bd 4294967296 a) (k : Bd 4294967296 b) : Bd 4294967296 (a ++ b) := bd_append.2 ⟨h, k⟩

set_option maxHeartbeats 1000000 in
theorem union (v1 v2 : Value) (a b : List Iv) (w : World) (ha : IsIv w v1 a) (hb : IsIv w v2 b) (ba : Bd 4294967296 a) (bb : Bd 4294967296 b) (la : a.length ≤ 5000000000) (lb : b.length ≤ 5000000000) :
    Calls Tryd.prog 20 #[v1, v2] w (IvPost (norm (a ++ b)) w) := by
  have C := concat v1 v2 a b w.heap.size (w.alloc (.cells #[v1, v2] 22)) (rows_keep ha (al1 w _)) (rows_keep hb (al1 w _)) (by omega) (by omega) (new_cell w _ _ 0) (new_cell w _ _ 1) (by simp)
  have HN := hid (norm_union a b ba bb)
  have hl : (a ++ b).length ≤ 10000000000 := by rw [List.length_append]; omega
  have HLn := hid hl
  obtain ⟨a1, cap1, rfl, _⟩ := rows_open ha
  obtain ⟨a2, cap2, rfl, _⟩ := rows_open hb
  clear ha hb ba bb la lb hl
  go_enter Tryd.func20, Tryd.ntmps20
  go_wp2_with fail
  refine C.mono ?_
  rintro e w1 ⟨v, rfl, r1, b1⟩
  have b1' := then_ (al1 w _) b1
  clear b1 C
  go_wp2_with fail
  refine (normalize v (a ++ b) _ r1 HN.out HLn.out).mono ?_
  rintro e w2 ⟨v', rfl, r2, b2⟩
  go_wp2_with fail
  go_ret
  exact ⟨_, rfl, r2, then_ b1' b2⟩
end Go.Proofs.YtmcoccfbbhnmfaaDoor.Iw
