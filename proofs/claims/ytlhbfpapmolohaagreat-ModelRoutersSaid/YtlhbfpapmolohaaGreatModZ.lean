/-
  THE CONTRACTS OF model's CHECKS OF THE LISTS OF THE PROTOCOLS: ranges, neighbors, networks, aggregates, conditions, redistributions.
-/
import Derived.Test.YtlhbfpapmolohaaGreatModY
namespace Go.Proofs.YtlhbfpapmolohaaGreat.Mw
set_option linter.unusedSimpArgs false
set_option linter.unusedVariables false
open Go.RowKit Kt Mm Mp

theorem validC {p : Pfx} (h : low p.addr) (wx : World) : Calls Tryz.prog 75 #[Ad.px p.addr p.len] wx fun e w' => e = .returned (.bool (vPf p)) ∧ Below wx.heap.size wx w' := Ad.valid p.addr p.len wx h


set_option maxHeartbeats 2000000 in
theorem clRngs (v : Value) (l : List Rng) (i : Nat) (x : Rng) (B : Nat) (w : World) (hr : InRow eRng 3 w v l) (hlow : ∀ y ∈ l, low y.pfx.addr) (hB : w.heap[B]? = some (.cells #[v] 28 (0, 0))) (hx : l[i]? = some x) :
    Calls Tryz.prog 155 #[.int .i64 (i : Int), .agg (eRng x).toArray, .pointer (some ⟨B, 0, none⟩)] w fun e w' => e = .returned (.int .i64 (rngE l i x)) ∧ Below w.heap.size w w' := by
  have hm := get_mem hx
  obtain ⟨b, off, cap, rfl, hcap, hb, hcell⟩ := row_addr (z := 3) (by decide) hr.row hx
  have hlt : i < l.length := (List.getElem?_eq_some_iff.1 hx).1
  obtain ⟨X, hX⟩ : ∃ X, X = (eRng x).toArray := ⟨_, rfl⟩
  obtain ⟨w1, hw1⟩ : ∃ w1, w.alloc (.cells X 150) = w1 := ⟨_, rfl⟩
  have hhX : w1.heap[w.heap.size]? = some (.cells X 150 (0, 0)) := by rw [← hw1, heap_new]
  have FX0 : ∀ v : World, Below w1.heap.size w1 v → v.cell? ⟨w.heap.size, 0, none⟩ = some (.int .i64 x.area) := fun v h => box_at (blk_keep hhX h) (by rw [hX]; rfl)
  have FX1 : ∀ v : World, Below w1.heap.size w1 v → v.cell? ⟨w.heap.size, 1, none⟩ = some (.int .u32 (x.pfx.addr : Int)) := fun v h => box_at (blk_keep hhX h) (by rw [hX]; rfl)
  have FX2 : ∀ v : World, Below w1.heap.size w1 v → v.cell? ⟨w.heap.size, 2, none⟩ = some (.int .i64 x.pfx.len) := fun v h => box_at (blk_keep hhX h) (by rw [hX]; rfl)
  have KX : ∀ v : World, Below w1.heap.size w1 v → v.heap[w.heap.size]? = some (.cells X 150 (0, 0)) := fun v h => blk_keep hhX h
  have GX : Below w1.heap.size w1 w1 := Below.refl _ _
  have HX := hid (show Below w.heap.size w w1 by rw [← hw1]; exact new_below _ _)
  have hX' := hid hX
  try rw [← hX]
  clear hX hhX
  have KS : ∀ v : World, Below w1.heap.size w1 v → v.heap[B]? = some (.cells #[.slice (some ⟨b, off, none⟩) l.length cap] 28 (0, 0)) := fun v h => by rw [← hB]; exact (Below.block h _ (Nat.lt_of_lt_of_le (blk_lt hB) HX.out.size)).trans (HX.out.block _ (blk_lt hB))
  have S0 : ∀ v : World, Below w1.heap.size w1 v → v.cell? ⟨B, 0, none⟩ = some (.slice (some ⟨b, off, none⟩) l.length cap) := fun v h => box_at (KS v h) (by rfl)
  clear KS
  have hC := fun wx (h : Below w1.heap.size w1 wx) => cfRng (.slice (some ⟨b, off, none⟩) i cap) (l.take i) (fun y => decide (y.area = x.area) && ovP y.pfx x.pfx) 156 #[.pointer (some ⟨w.heap.size, 0, none⟩)] (enters_of Tryz.func156 (by kernel_rfl) rfl) wx (rows_keep (row_take (f := eRng) (z := 3) (fun _ => rfl) hr.row rfl (Nat.le_of_lt hlt)) (then_ HX.out h)) (by have := hr.len; rw [List.length_take]; omega)
    (fun W y hy hbw => clRng2 y x w.heap.size W (by rw [KX W (then_ h hbw), hX'.out]) (hlow y (List.mem_of_mem_take hy)) (hlow x hm))
  have hV := validC (hlow x hm)
  have R := hid (show rngE l i x = if !wi x.area 0 255 || !vPf x.pfx then 1 else if (l.take i).any (fun y => decide (y.area = x.area) && ovP y.pfx x.pfx) then 6 else 0 from rfl)
  obtain ⟨o, ho⟩ : ∃ o, o = (l.take i).any (fun y => decide (y.area = x.area) && ovP y.pfx x.pfx) := ⟨_, rfl⟩
  rw [← ho] at R hC
  obtain ⟨p, hp⟩ : ∃ p, p = vPf x.pfx := ⟨_, rfl⟩
  rw [← hp] at R hV
  clear ho hp
  have hlen := hr.len
  obtain ⟨m, hmm⟩ : ∃ m, m = l.length := ⟨_, rfl⟩
  rw [← hmm] at S0 hcap hlt hlen
  have hli : (i : Int) ≤ (cap : Int) := by omega
  have hl0 : (0 : Int) ≤ (i : Int) := by omega
  clear KX hr hlow hB hx hm hmm hcell
  go_enter Tryz.func155, Tryz.ntmps155
  repeat' (first | (go_at_call 64; with_reducible refine (within _ _ _ _).mono ?_; rintro e w' ⟨rfl, rfl⟩; try dsimp only) | (go_at_call 75; with_reducible refine (hV _).mono ?_; rintro e w' ⟨rfl, b⟩; have b' := then_ (w := w1) (by assumption) b; clear b; try dsimp only) | (go_at_call 157; with_reducible refine (hC _ (by assumption)).mono ?_; rintro e w' ⟨rfl, b⟩; have b' := then_ (w := w1) (by assumption) b; clear b; try dsimp only) | go_skip | go_guarded | go_step | go_upon)
  all_goals go_ret
  all_goals exact ⟨ret_int (by rw [R.out]; simp_all), then_ HX.out (by assumption)⟩

set_option maxHeartbeats 2000000 in
theorem clAggs (v : Value) (l : List Aggr) (i : Nat) (x : Aggr) (B : Nat) (w : World) (hr : InRow eAggr 3 w v l) (hlow : ∀ y ∈ l, low y.pfx.addr) (hB : w.heap[B]? = some (.cells #[v] 36 (0, 0))) (hx : l[i]? = some x) :
    Calls Tryz.prog 171 #[.int .i64 (i : Int), .agg (eAggr x).toArray, .pointer (some ⟨B, 0, none⟩)] w fun e w' => e = .returned (.int .i64 (aggE l i x)) ∧ Below w.heap.size w w' := by
  have hm := get_mem hx
  obtain ⟨b, off, cap, rfl, hcap, hb, hcell⟩ := row_addr (z := 3) (by decide) hr.row hx
  have hlt : i < l.length := (List.getElem?_eq_some_iff.1 hx).1
  obtain ⟨X, hX⟩ : ∃ X, X = (eAggr x).toArray := ⟨_, rfl⟩
  obtain ⟨w1, hw1⟩ : ∃ w1, w.alloc (.cells X 163) = w1 := ⟨_, rfl⟩
  have hhX : w1.heap[w.heap.size]? = some (.cells X 163 (0, 0)) := by rw [← hw1, heap_new]
  have FX0 : ∀ v : World, Below w1.heap.size w1 v → v.cell? ⟨w.heap.size, 0, none⟩ = some (.int .u32 (x.pfx.addr : Int)) := fun v h => box_at (blk_keep hhX h) (by rw [hX]; rfl)
  have FX1 : ∀ v : World, Below w1.heap.size w1 v → v.cell? ⟨w.heap.size, 1, none⟩ = some (.int .i64 x.pfx.len) := fun v h => box_at (blk_keep hhX h) (by rw [hX]; rfl)
  have KX : ∀ v : World, Below w1.heap.size w1 v → v.heap[w.heap.size]? = some (.cells X 163 (0, 0)) := fun v h => blk_keep hhX h
  have GX : Below w1.heap.size w1 w1 := Below.refl _ _
  have HX := hid (show Below w.heap.size w w1 by rw [← hw1]; exact new_below _ _)
  have hX' := hid hX
  try rw [← hX]
  clear hX hhX
  have KS : ∀ v : World, Below w1.heap.size w1 v → v.heap[B]? = some (.cells #[.slice (some ⟨b, off, none⟩) l.length cap] 36 (0, 0)) := fun v h => by rw [← hB]; exact (Below.block h _ (Nat.lt_of_lt_of_le (blk_lt hB) HX.out.size)).trans (HX.out.block _ (blk_lt hB))
  have S0 : ∀ v : World, Below w1.heap.size w1 v → v.cell? ⟨B, 0, none⟩ = some (.slice (some ⟨b, off, none⟩) l.length cap) := fun v h => box_at (KS v h) (by rfl)
  clear KS
  have hC := fun wx (h : Below w1.heap.size w1 wx) => cfAggr (.slice (some ⟨b, off, none⟩) i cap) (l.take i) (fun y => decide (y.pfx = x.pfx)) 172 #[.pointer (some ⟨w.heap.size, 0, none⟩)] (enters_of Tryz.func172 (by kernel_rfl) rfl) wx (rows_keep (row_take (f := eAggr) (z := 3) (fun _ => rfl) hr.row rfl (Nat.le_of_lt hlt)) (then_ HX.out h)) (by have := hr.len; rw [List.length_take]; omega)
    (fun W y hy hbw => clAgg2 y x w.heap.size W (by rw [KX W (then_ h hbw), hX'.out]) )
  have hV := validC (hlow x hm)
  have R := hid (show aggE l i x = if !vPf x.pfx then 1 else if (l.take i).any (fun y => decide (y.pfx = x.pfx)) then 4 else 0 from rfl)
  obtain ⟨o, ho⟩ : ∃ o, o = (l.take i).any (fun y => decide (y.pfx = x.pfx)) := ⟨_, rfl⟩
  rw [← ho] at R hC
  obtain ⟨p, hp⟩ : ∃ p, p = vPf x.pfx := ⟨_, rfl⟩
  rw [← hp] at R hV
  clear ho hp
  have hlen := hr.len
  obtain ⟨m, hmm⟩ : ∃ m, m = l.length := ⟨_, rfl⟩
  rw [← hmm] at S0 hcap hlt hlen
  have hli : (i : Int) ≤ (cap : Int) := by omega
  have hl0 : (0 : Int) ≤ (i : Int) := by omega
  clear KX hr hlow hB hx hm hmm hcell
  go_enter Tryz.func171, Tryz.ntmps171
  repeat' (first | (go_at_call 75; with_reducible refine (hV _).mono ?_; rintro e w' ⟨rfl, b⟩; have b' := then_ (w := w1) (by assumption) b; clear b; try dsimp only) | (go_at_call 173; with_reducible refine (hC _ (by assumption)).mono ?_; rintro e w' ⟨rfl, b⟩; have b' := then_ (w := w1) (by assumption) b; clear b; try dsimp only) | go_skip | go_guarded | go_step | go_upon)
  all_goals go_ret
  all_goals exact ⟨ret_int (by rw [R.out]; simp_all), then_ HX.out (by assumption)⟩

set_option maxHeartbeats 2000000 in
theorem clCnds (v : Value) (l : List Cnd) (i : Nat) (x : Cnd) (B : Nat) (w : World) (hr : InRow eCnd 5 w v l) (hlow : ∀ y ∈ l, low y.pfx.addr ∧ low y.iff.addr) (hB : w.heap[B]? = some (.cells #[v] 37 (0, 0))) (hx : l[i]? = some x) :
    Calls Tryz.prog 175 #[.int .i64 (i : Int), .agg (eCnd x).toArray, .pointer (some ⟨B, 0, none⟩)] w fun e w' => e = .returned (.int .i64 (cndE l i x)) ∧ Below w.heap.size w w' := by
  have hm := get_mem hx
  obtain ⟨b, off, cap, rfl, hcap, hb, hcell⟩ := row_addr (z := 5) (by decide) hr.row hx
  have hlt : i < l.length := (List.getElem?_eq_some_iff.1 hx).1
  obtain ⟨X, hX⟩ : ∃ X, X = (eCnd x).toArray := ⟨_, rfl⟩
  obtain ⟨w1, hw1⟩ : ∃ w1, w.alloc (.cells X 165) = w1 := ⟨_, rfl⟩
  have hhX : w1.heap[w.heap.size]? = some (.cells X 165 (0, 0)) := by rw [← hw1, heap_new]
  have FX0 : ∀ v : World, Below w1.heap.size w1 v → v.cell? ⟨w.heap.size, 0, none⟩ = some (.int .u32 (x.pfx.addr : Int)) := fun v h => box_at (blk_keep hhX h) (by rw [hX]; rfl)
  have FX1 : ∀ v : World, Below w1.heap.size w1 v → v.cell? ⟨w.heap.size, 1, none⟩ = some (.int .i64 x.pfx.len) := fun v h => box_at (blk_keep hhX h) (by rw [hX]; rfl)
  have FX2 : ∀ v : World, Below w1.heap.size w1 v → v.cell? ⟨w.heap.size, 2, none⟩ = some (.int .u32 (x.iff.addr : Int)) := fun v h => box_at (blk_keep hhX h) (by rw [hX]; rfl)
  have FX3 : ∀ v : World, Below w1.heap.size w1 v → v.cell? ⟨w.heap.size, 3, none⟩ = some (.int .i64 x.iff.len) := fun v h => box_at (blk_keep hhX h) (by rw [hX]; rfl)
  have KX : ∀ v : World, Below w1.heap.size w1 v → v.heap[w.heap.size]? = some (.cells X 165 (0, 0)) := fun v h => blk_keep hhX h
  have GX : Below w1.heap.size w1 w1 := Below.refl _ _
  have HX := hid (show Below w.heap.size w w1 by rw [← hw1]; exact new_below _ _)
  have hX' := hid hX
  try rw [← hX]
  clear hX hhX
  have KS : ∀ v : World, Below w1.heap.size w1 v → v.heap[B]? = some (.cells #[.slice (some ⟨b, off, none⟩) l.length cap] 37 (0, 0)) := fun v h => by rw [← hB]; exact (Below.block h _ (Nat.lt_of_lt_of_le (blk_lt hB) HX.out.size)).trans (HX.out.block _ (blk_lt hB))
  have S0 : ∀ v : World, Below w1.heap.size w1 v → v.cell? ⟨B, 0, none⟩ = some (.slice (some ⟨b, off, none⟩) l.length cap) := fun v h => box_at (KS v h) (by rfl)
  clear KS
  have hC := fun wx (h : Below w1.heap.size w1 wx) => cfCnd (.slice (some ⟨b, off, none⟩) i cap) (l.take i) (fun y => decide (y.pfx = x.pfx)) 176 #[.pointer (some ⟨w.heap.size, 0, none⟩)] (enters_of Tryz.func176 (by kernel_rfl) rfl) wx (rows_keep (row_take (f := eCnd) (z := 5) (fun _ => rfl) hr.row rfl (Nat.le_of_lt hlt)) (then_ HX.out h)) (by have := hr.len; rw [List.length_take]; omega)
    (fun W y hy hbw => clCnd2 y x w.heap.size W (by rw [KX W (then_ h hbw), hX'.out]) )
  have hV := validC (hlow x hm).1
  have hV2 := validC (hlow x hm).2
  have he := fun wx => eqPfx10 x.pfx x.iff wx
  have hg := gdPfx
  have R := hid (show cndE l i x = if !vPf x.pfx || !vPf x.iff then 1 else if decide (x.pfx = x.iff) then 6 else if (l.take i).any (fun y => decide (y.pfx = x.pfx)) then 4 else 0 from rfl)
  obtain ⟨o, ho⟩ : ∃ o, o = (l.take i).any (fun y => decide (y.pfx = x.pfx)) := ⟨_, rfl⟩
  rw [← ho] at R hC
  obtain ⟨p, hp⟩ : ∃ p, p = vPf x.pfx := ⟨_, rfl⟩
  rw [← hp] at R hV
  obtain ⟨p2, hp2⟩ : ∃ p2, p2 = vPf x.iff := ⟨_, rfl⟩
  rw [← hp2] at R hV2
  obtain ⟨d, hd⟩ : ∃ d, d = decide (x.pfx = x.iff) := ⟨_, rfl⟩
  rw [← hd] at R he
  clear ho hp hp2 hd
  have hlen := hr.len
  obtain ⟨m, hmm⟩ : ∃ m, m = l.length := ⟨_, rfl⟩
  rw [← hmm] at S0 hcap hlt hlen
  have hli : (i : Int) ≤ (cap : Int) := by omega
  have hl0 : (0 : Int) ≤ (i : Int) := by omega
  clear KX hr hlow hB hx hm hmm hcell
  go_enter Tryz.func175, Tryz.ntmps175
  repeat' (first | (go_at_call 75; with_reducible refine (hV _).mono ?_; rintro e w' ⟨rfl, b⟩; have b' := then_ (w := w1) (by assumption) b; clear b; try dsimp only) | (go_at_call 75; with_reducible refine (hV2 _).mono ?_; rintro e w' ⟨rfl, b⟩; have b' := then_ (w := w1) (by assumption) b; clear b; try dsimp only) | (go_at_call 177; with_reducible refine (hC _ (by assumption)).mono ?_; rintro e w' ⟨rfl, b⟩; have b' := then_ (w := w1) (by assumption) b; clear b; try dsimp only) | go_skip | go_guarded | go_step | go_upon)
  all_goals go_ret
  all_goals exact ⟨ret_int (by rw [R.out]; simp_all), then_ HX.out (by assumption)⟩

set_option maxHeartbeats 1000000 in
theorem chkRngs (v : Value) (l : List Rng) (w : World) (hr : InRow eRng 3 w v l) (hlow : ∀ y ∈ l, low y.pfx.addr) :
    Calls Tryz.prog 98 #[v] w fun e w' => e = .returned (.int .i64 (rngsE l)) ∧ Below w.heap.size w w' := by
  have hv1 : (Value.cells v) = #[v] := by obtain ⟨_, h⟩ := hr.row; rcases h with ⟨rfl, _⟩ | ⟨_, _, rfl, _⟩ <;> rfl
  have hB : (w.alloc (.cells #[v] 28)).heap[w.heap.size]? = some (.cells #[v] 28 (0, 0)) := heap_new _ _
  have hc := eachRng v l 4 (rngE l) 155 #[.pointer (some ⟨w.heap.size, 0, none⟩)] (enters_of Tryz.func155 (by kernel_rfl) rfl) (w.alloc (.cells #[v] 28)) (rows_keep hr.row (new_below _ _)) hr.len
    (fun x _ => by simp [eRng, one_str, one_int, one_bool]) (fun W i x hx hbw => clRngs v l i x _ W (hr.keep (then_ (new_below _ _) hbw)) hlow (blk_keep hB hbw) hx)
  have R := hid (show rngsE l = eachE 4 (rngE l) l from rfl)
  obtain ⟨e0, he⟩ : ∃ e0, e0 = eachE 4 (rngE l) l := ⟨_, rfl⟩
  rw [← he] at hc R
  rw [show ((4 : Nat) : Int) = 4 from rfl] at hc
  obtain ⟨a, cap, hv, _, _⟩ := rows_open (z := 3) (by decide) hr.row
  subst hv
  obtain ⟨w1, hw1⟩ : ∃ w1, w.alloc (.cells #[.slice a l.length cap] 28) = w1 := ⟨_, rfl⟩
  have H1 := hid (show Below w.heap.size w w1 by rw [← hw1]; exact new_below _ _)
  rw [hw1] at hc hB
  have F0 := box_at hB (j := 0) rfl
  have G1 : Below w1.heap.size w1 w1 := Below.refl _ _
  obtain ⟨m, hmm⟩ : ∃ m, m = l.length := ⟨_, rfl⟩
  rw [← hmm] at F0 hc hw1 ⊢
  clear hB hr hlow he hmm hv1
  go_enter Tryz.func98, Tryz.ntmps98
  repeat' (first | (go_at_call 154; with_reducible refine (hc).mono ?_; rintro e w' ⟨rfl, b⟩; have b' := then_ (w := w1) (by assumption) b; clear b; try dsimp only) | go_skip | go_guarded | go_step | go_upon)
  go_ret
  exact ⟨ret_int R.out.symm, then_ H1.out (by assumption)⟩

set_option maxHeartbeats 1000000 in
theorem chkAggs (v : Value) (l : List Aggr) (w : World) (hr : InRow eAggr 3 w v l) (hlow : ∀ y ∈ l, low y.pfx.addr) :
    Calls Tryz.prog 102 #[v] w fun e w' => e = .returned (.int .i64 (aggsE l)) ∧ Below w.heap.size w w' := by
  have hv1 : (Value.cells v) = #[v] := by obtain ⟨_, h⟩ := hr.row; rcases h with ⟨rfl, _⟩ | ⟨_, _, rfl, _⟩ <;> rfl
  have hB : (w.alloc (.cells #[v] 36)).heap[w.heap.size]? = some (.cells #[v] 36 (0, 0)) := heap_new _ _
  have hc := eachAggr v l 8 (aggE l) 171 #[.pointer (some ⟨w.heap.size, 0, none⟩)] (enters_of Tryz.func171 (by kernel_rfl) rfl) (w.alloc (.cells #[v] 36)) (rows_keep hr.row (new_below _ _)) hr.len
    (fun x _ => by simp [eAggr, one_str, one_int, one_bool]) (fun W i x hx hbw => clAggs v l i x _ W (hr.keep (then_ (new_below _ _) hbw)) hlow (blk_keep hB hbw) hx)
  have R := hid (show aggsE l = eachE 8 (aggE l) l from rfl)
  obtain ⟨e0, he⟩ : ∃ e0, e0 = eachE 8 (aggE l) l := ⟨_, rfl⟩
  rw [← he] at hc R
  rw [show ((8 : Nat) : Int) = 8 from rfl] at hc
  obtain ⟨a, cap, hv, _, _⟩ := rows_open (z := 3) (by decide) hr.row
  subst hv
  obtain ⟨w1, hw1⟩ : ∃ w1, w.alloc (.cells #[.slice a l.length cap] 36) = w1 := ⟨_, rfl⟩
  have H1 := hid (show Below w.heap.size w w1 by rw [← hw1]; exact new_below _ _)
  rw [hw1] at hc hB
  have F0 := box_at hB (j := 0) rfl
  have G1 : Below w1.heap.size w1 w1 := Below.refl _ _
  obtain ⟨m, hmm⟩ : ∃ m, m = l.length := ⟨_, rfl⟩
  rw [← hmm] at F0 hc hw1 ⊢
  clear hB hr hlow he hmm hv1
  go_enter Tryz.func102, Tryz.ntmps102
  repeat' (first | (go_at_call 170; with_reducible refine (hc).mono ?_; rintro e w' ⟨rfl, b⟩; have b' := then_ (w := w1) (by assumption) b; clear b; try dsimp only) | go_skip | go_guarded | go_step | go_upon)
  go_ret
  exact ⟨ret_int R.out.symm, then_ H1.out (by assumption)⟩

set_option maxHeartbeats 1000000 in
theorem chkCnds (v : Value) (l : List Cnd) (w : World) (hr : InRow eCnd 5 w v l) (hlow : ∀ y ∈ l, low y.pfx.addr ∧ low y.iff.addr) :
    Calls Tryz.prog 103 #[v] w fun e w' => e = .returned (.int .i64 (cndsE l)) ∧ Below w.heap.size w w' := by
  have hv1 : (Value.cells v) = #[v] := by obtain ⟨_, h⟩ := hr.row; rcases h with ⟨rfl, _⟩ | ⟨_, _, rfl, _⟩ <;> rfl
  have hB : (w.alloc (.cells #[v] 37)).heap[w.heap.size]? = some (.cells #[v] 37 (0, 0)) := heap_new _ _
  have hc := eachCnd v l 8 (cndE l) 175 #[.pointer (some ⟨w.heap.size, 0, none⟩)] (enters_of Tryz.func175 (by kernel_rfl) rfl) (w.alloc (.cells #[v] 37)) (rows_keep hr.row (new_below _ _)) hr.len
    (fun x _ => by simp [eCnd, one_str, one_int, one_bool]) (fun W i x hx hbw => clCnds v l i x _ W (hr.keep (then_ (new_below _ _) hbw)) hlow (blk_keep hB hbw) hx)
  have R := hid (show cndsE l = eachE 8 (cndE l) l from rfl)
  obtain ⟨e0, he⟩ : ∃ e0, e0 = eachE 8 (cndE l) l := ⟨_, rfl⟩
  rw [← he] at hc R
  rw [show ((8 : Nat) : Int) = 8 from rfl] at hc
  obtain ⟨a, cap, hv, _, _⟩ := rows_open (z := 5) (by decide) hr.row
  subst hv
  obtain ⟨w1, hw1⟩ : ∃ w1, w.alloc (.cells #[.slice a l.length cap] 37) = w1 := ⟨_, rfl⟩
  have H1 := hid (show Below w.heap.size w w1 by rw [← hw1]; exact new_below _ _)
  rw [hw1] at hc hB
  have F0 := box_at hB (j := 0) rfl
  have G1 : Below w1.heap.size w1 w1 := Below.refl _ _
  obtain ⟨m, hmm⟩ : ∃ m, m = l.length := ⟨_, rfl⟩
  rw [← hmm] at F0 hc hw1 ⊢
  clear hB hr hlow he hmm hv1
  go_enter Tryz.func103, Tryz.ntmps103
  repeat' (first | (go_at_call 174; with_reducible refine (hc).mono ?_; rintro e w' ⟨rfl, b⟩; have b' := then_ (w := w1) (by assumption) b; clear b; try dsimp only) | go_skip | go_guarded | go_step | go_upon)
  go_ret
  exact ⟨ret_int R.out.symm, then_ H1.out (by assumption)⟩
end Go.Proofs.YtlhbfpapmolohaaGreat.Mw
