/-
  THE CONTRACTS OF slices.Index, slices.Contains AT A PREFIX, AND OF model's CHECKS OF networks, neighbors, redistributions.
-/
import Derived.Test.YtlhbfpapmolohaaGreatModZ
import Derived.Shelf.RegionOpenPlain
import Derived.Deep.Draws
namespace Go.Proofs.YtlhbfpapmolohaaGreat.Mw
set_option linter.unusedSimpArgs false
set_option linter.unusedVariables false
open Go.RowKit Kt Mm Mp

set_option maxHeartbeats 2000000 in
theorem ixPfxC (v : Value) (l : List Pfx) (x : Pfx) (w : World) (hrow : IsRow ePfx 2 w v l) (hl : l.length ≤ 9223372036854775807) :
    Calls Tryz.prog 190 #[v, .agg (ePfx x).toArray] w fun e w' => e = .returned (.int .i64 (ixB (fun y => decide (x = y)) l)) ∧ Below w.heap.size w w' := by
  obtain ⟨a, cap, rfl, hcap, hcell⟩ := rows_open (z := 2) (by decide) hrow
  obtain ⟨n, hn⟩ : ∃ n, n = l.length := ⟨_, rfl⟩
  rw [← hn] at hl hcap hcell ⊢
  have N := hid hn
  clear hn hrow
  have hg := gdPfx
  have mixed : Tryz.prog.follows .mixedOrders = true := by kernel_rfl
  obtain ⟨w1, hw1⟩ : ∃ w1, w.alloc (.cells (ePfx x).toArray 56) = w1 := ⟨_, rfl⟩
  have H1 := hid (show Below w.heap.size w w1 by rw [← hw1]; exact new_below _ _)
  have d0 : w1.cell? ⟨w.heap.size, 0, none⟩ = some (.int .u32 (x.addr : Int)) := by rw [← hw1]; exact (new_cell w _ _ 0).trans rfl
  have d1 : w1.cell? ⟨w.heap.size, 1, none⟩ = some (.int .i64 x.len) := by rw [← hw1]; exact (new_cell w _ _ 1).trans rfl
  simp only [ePfx] at hw1 ⊢
  go_enter Tryz.func190, Tryz.ntmps190
  repeat' (first | go_skip | go_guarded | go_step | go_upon)
  go_loopg [8] n (fun gg s8 wr => ∃ k q : Nat, k ≤ n ∧ n - k ≤ gg ∧ s8 = .int .i64 k ∧ wr = w1.drewN q ∧ Aside (ixB (fun y => decide (x = y)) l = ixF (fun y => decide (x = y)) k (l.drop k)))
  case atStart => exact ⟨0, 0, Nat.zero_le _, by omega, rfl, rfl, rfl⟩
  case round =>
    obtain ⟨k, q, hk, hgg, rfl, rfl, E⟩ := hrel
    by_cases hlt : k < n
    · have hlti : (k : Int) < (n : Int) := by omega
      obtain ⟨y, hy⟩ := get_some (l := l) (k := k) (by have := N.out; omega)
      obtain ⟨b, off, rfl, hb, hc⟩ := hcell (by omega)
      have c0 : w1.cell? ⟨b, off + k * 2, none⟩ = some (.int .u32 (y.addr : Int)) := (H1.out.cell (p := ⟨b, off + k * 2, none⟩) hb).trans (row_cells (f := ePfx) (z := 2) (fun _ => rfl) hc hy 0 _ rfl)
      have c1 : w1.cell? ⟨b, off + k * 2 + 1, none⟩ = some (.int .i64 y.len) := (H1.out.cell (p := ⟨b, off + k * 2 + 1, none⟩) hb).trans (row_cells (f := ePfx) (z := 2) (fun _ => rfl) hc hy 1 _ rfl)
      have D := drop_get hy
      have he := fun wx => eqPfx10 x y wx
      clear hc hcell hy
      cases hxy : decide (x = y) with
      | true =>
        rw [hxy] at he
        have Q : Aside (ixF (fun y => decide (x = y)) k (l.drop k) = k) := by show _ = _; rw [D]; exact ixF_hit hxy
        clear D hxy
        go_wp2_with fail
        go_quiet_o (fail)
        repeat' (first | go_skip | go_guarded | go_step | go_upon)
        go_ret
        refine ⟨?_, (H1.out.trans (drewN_below _ _ _)).trans (drewN_below _ _ _)⟩
        rw [E.out, Q.out]
        rfl
      | false =>
        rw [hxy] at he
        have Q : Aside (ixF (fun y => decide (x = y)) k (l.drop k) = ixF (fun y => decide (x = y)) (k + 1) (l.drop (k + 1))) := by show _ = _; rw [D]; exact ixF_next hxy
        clear D hxy
        go_wp2_with fail
        go_quiet_o (fail)
        repeat' (first | go_skip | go_guarded | go_step | go_upon)
        go_roundg (n - (k + 1))
        case measure => omega
        case rel =>
          refine ⟨k + 1, q + nq, by omega, by omega, by go_num, by simp, ?_⟩
          show _ = _
          rw [E.out, Q.out]
    · have hlti : ¬ (k : Int) < (n : Int) := by omega
      have D : Aside (l.drop k = []) := drop_end (by have := N.out; omega)
      clear hcell
      repeat' (first | go_skip | go_guarded | go_step | go_upon)
      go_ret
      refine ⟨?_, H1.out.trans (drewN_below _ _ _)⟩
      rw [E.out, D.out]
      rfl

set_option maxHeartbeats 1000000 in
theorem coPfx (v : Value) (l : List Pfx) (x : Pfx) (w : World) (hrow : IsRow ePfx 2 w v l) (hl : l.length ≤ 9223372036854775807) :
    Calls Tryz.prog 169 #[v, .agg (ePfx x).toArray] w fun e w' => e = .returned (.bool (l.any fun y => decide (y = x))) ∧ Below w.heap.size w w' := by
  have e1 : (l.any fun y => decide (y = x)) = decide (0 ≤ ixB (fun y => decide (x = y)) l) := by
    rw [ixB_pos]; congr 1; funext y; rw [Bool.eq_iff_iff]; simp only [decide_eq_true_eq]; exact ⟨fun h => h.symm, fun h => h.symm⟩
  have R := hid e1
  have hc := fun wx (h : Below w.heap.size w wx) => ixPfxC v l x wx (rows_keep hrow h) hl
  obtain ⟨w1, hw1⟩ : ∃ w1, w.alloc (.cells (ePfx x).toArray 56) = w1 := ⟨_, rfl⟩
  have H1 := hid (show Below w.heap.size w w1 by rw [← hw1]; exact new_below _ _)
  have d0 : w1.cell? ⟨w.heap.size, 0, none⟩ = some (.int .u32 (x.addr : Int)) := by rw [← hw1]; exact (new_cell w _ _ 0).trans rfl
  have d1 : w1.cell? ⟨w.heap.size, 1, none⟩ = some (.int .i64 x.len) := by rw [← hw1]; exact (new_cell w _ _ 1).trans rfl
  have hc := hc w1 H1.out
  obtain ⟨q, hq⟩ : ∃ q, q = ixB (fun y => decide (x = y)) l := ⟨_, rfl⟩
  rw [← hq] at hc R
  simp only [ePfx] at hw1 hc ⊢
  have G1 : Below w1.heap.size w1 w1 := Below.refl _ _
  clear hrow hq e1
  go_enter Tryz.func169, Tryz.ntmps169
  repeat' (first | (go_at_call 190; with_reducible refine (hc).mono ?_; rintro e w' ⟨rfl, b⟩; have b' := then_ (w := w1) (by assumption) b; clear b; try dsimp only) | go_skip | go_guarded | go_step | go_upon)
  go_ret
  exact ⟨ret_bool R.out.symm, then_ H1.out (by assumption)⟩

set_option maxHeartbeats 2000000 in
theorem clNets (v : Value) (l : List Pfx) (i : Nat) (x : Pfx) (B : Nat) (w : World) (hr : InRow ePfx 2 w v l) (hlow : ∀ y ∈ l, low y.addr) (hB : w.heap[B]? = some (.cells #[v] 35 (0, 0))) (hx : l[i]? = some x) :
    Calls Tryz.prog 168 #[.int .i64 (i : Int), .agg (ePfx x).toArray, .pointer (some ⟨B, 0, none⟩)] w fun e w' => e = .returned (.int .i64 (netE l i x)) ∧ Below w.heap.size w w' := by
  have hm := get_mem hx
  obtain ⟨b, off, cap, rfl, hcap, hb, hcell⟩ := row_addr (z := 2) (by decide) hr.row hx
  have hlt : i < l.length := (List.getElem?_eq_some_iff.1 hx).1
  obtain ⟨w1, hw1⟩ : ∃ w1, w.alloc (.cells (ePfx x).toArray 56) = w1 := ⟨_, rfl⟩
  have HX := hid (show Below w.heap.size w w1 by rw [← hw1]; exact new_below _ _)
  have hh : w1.heap[w.heap.size]? = some (.cells (ePfx x).toArray 56 (0, 0)) := by rw [← hw1, heap_new]
  have FX0 : ∀ v : World, Below w1.heap.size w1 v → v.cell? ⟨w.heap.size, 0, none⟩ = some (.int .u32 (x.addr : Int)) := fun v h => box_at (blk_keep hh h) rfl
  have FX1 : ∀ v : World, Below w1.heap.size w1 v → v.cell? ⟨w.heap.size, 1, none⟩ = some (.int .i64 x.len) := fun v h => box_at (blk_keep hh h) rfl
  have GX : Below w1.heap.size w1 w1 := Below.refl _ _
  have KS : ∀ v : World, Below w1.heap.size w1 v → v.heap[B]? = some (.cells #[.slice (some ⟨b, off, none⟩) l.length cap] 35 (0, 0)) := fun v h => by rw [← hB]; exact (Below.block h _ (Nat.lt_of_lt_of_le (blk_lt hB) HX.out.size)).trans (HX.out.block _ (blk_lt hB))
  have S0 : ∀ v : World, Below w1.heap.size w1 v → v.cell? ⟨B, 0, none⟩ = some (.slice (some ⟨b, off, none⟩) l.length cap) := fun v h => box_at (KS v h) (by rfl)
  clear KS
  have hC := fun wx (h : Below w1.heap.size w1 wx) => coPfx (.slice (some ⟨b, off, none⟩) i cap) (l.take i) x wx (rows_keep (row_take (f := ePfx) (z := 2) (fun _ => rfl) hr.row rfl (Nat.le_of_lt hlt)) (then_ HX.out h)) (by have := hr.len; rw [List.length_take]; omega)
  have hV := validC (hlow x hm)
  have R := hid (show netE l i x = if !vPf x then 1 else if (l.take i).any (fun y => decide (y = x)) then 4 else 0 from rfl)
  obtain ⟨o, ho⟩ : ∃ o, o = (l.take i).any (fun y => decide (y = x)) := ⟨_, rfl⟩
  rw [← ho] at R hC
  obtain ⟨p, hp⟩ : ∃ p, p = vPf x := ⟨_, rfl⟩
  rw [← hp] at R hV
  simp only [ePfx] at hw1 hC ⊢
  have hlen := hr.len
  obtain ⟨m, hmm⟩ : ∃ m, m = l.length := ⟨_, rfl⟩
  rw [← hmm] at S0 hcap hlt hlen
  have hli : (i : Int) ≤ (cap : Int) := by omega
  have hl0 : (0 : Int) ≤ (i : Int) := by omega
  clear hh hr hlow hB hx hm hmm hcell ho hp
  have uFX0 := fun u : Later w1.heap.size w1 => FX0 u.w u.h
  have uFX1 := fun u : Later w1.heap.size w1 => FX1 u.w u.h
  have uS0 := fun u : Later w1.heap.size w1 => S0 u.w u.h
  go_enter Tryz.func168, Tryz.ntmps168
  repeat' (first | (go_at_call 75; with_reducible refine (hV _).mono ?_; rintro e w' ⟨rfl, b⟩; have b' := then_ (w := w1) (by assumption) b; clear b; try dsimp only) | go_skip | go_guarded | go_step | go_upon)
  all_goals try (go_ret; exact ⟨ret_int (by rw [R.out]; simp_all), then_ HX.out (by assumption)⟩)
  refine wp_region_base w1 (by assumption) (by first | assumption | kernel_rfl) (by kernel_rfl) ?_
  repeat (go_big_quiet_step (first | (go_at_call 169; with_reducible exact later_of (Nat.le_refl _) (hC _ (Later.h _)))))
  refine wpQuiet_nil ?_
  rintro _ ⟨u, rfl⟩
  have bu := u.h
  repeat' (first | go_skip | go_guarded | go_step | go_upon)
  all_goals go_ret
  all_goals exact ⟨ret_int (by rw [R.out]; simp_all), then_ HX.out (by assumption)⟩


set_option maxHeartbeats 1000000 in
theorem chkNets (v : Value) (l : List Pfx) (w : World) (hr : InRow ePfx 2 w v l) (hlow : ∀ y ∈ l, low y.addr) :
    Calls Tryz.prog 101 #[v] w fun e w' => e = .returned (.int .i64 (netsE l)) ∧ Below w.heap.size w w' := by
  have hv1 : (Value.cells v) = #[v] := by obtain ⟨_, h⟩ := hr.row; rcases h with ⟨rfl, _⟩ | ⟨_, _, rfl, _⟩ <;> rfl
  have hB : (w.alloc (.cells #[v] 35)).heap[w.heap.size]? = some (.cells #[v] 35 (0, 0)) := heap_new _ _
  have hc := eachPfx v l 8 (netE l) 168 #[.pointer (some ⟨w.heap.size, 0, none⟩)] (enters_of Tryz.func168 (by kernel_rfl) rfl) (w.alloc (.cells #[v] 35)) (rows_keep hr.row (new_below _ _)) hr.len
    (fun x _ => by simp [ePfx, one_str, one_int, one_bool]) (fun W i x hx hbw => clNets v l i x _ W (hr.keep (then_ (new_below _ _) hbw)) hlow (blk_keep hB hbw) hx)
  have R := hid (show netsE l = eachE 8 (netE l) l from rfl)
  obtain ⟨e0, he⟩ : ∃ e0, e0 = eachE 8 (netE l) l := ⟨_, rfl⟩
  rw [← he] at hc R
  rw [show ((8 : Nat) : Int) = 8 from rfl] at hc
  obtain ⟨a, cap, hv, _, _⟩ := rows_open (z := 2) (by decide) hr.row
  subst hv
  obtain ⟨w1, hw1⟩ : ∃ w1, w.alloc (.cells #[.slice a l.length cap] 35) = w1 := ⟨_, rfl⟩
  have H1 := hid (show Below w.heap.size w w1 by rw [← hw1]; exact new_below _ _)
  rw [hw1] at hc hB
  have F0 := box_at hB (j := 0) rfl
  have G1 : Below w1.heap.size w1 w1 := Below.refl _ _
  obtain ⟨m, hmm⟩ : ∃ m, m = l.length := ⟨_, rfl⟩
  rw [← hmm] at F0 hc hw1 ⊢
  clear hB hr hlow he hmm hv1
  go_enter Tryz.func101, Tryz.ntmps101
  repeat' (first | (go_at_call 167; with_reducible refine (hc).mono ?_; rintro e w' ⟨rfl, b⟩; have b' := then_ (w := w1) (by assumption) b; clear b; try dsimp only) | go_skip | go_guarded | go_step | go_upon)
  go_ret
  exact ⟨ret_int R.out.symm, then_ H1.out (by assumption)⟩
end Go.Proofs.YtlhbfpapmolohaaGreat.Mw
