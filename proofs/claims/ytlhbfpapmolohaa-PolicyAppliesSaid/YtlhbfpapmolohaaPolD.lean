/-
  THE CONTRACTS OF policy.clauses, policy.matchesClause, policy.Clause.
-/
import Derived.Test.YtlhbfpapmolohaaPolC
namespace Go.Proofs.Ytlhbfpapmolohaa.Mw
set_option linter.unusedSimpArgs false
set_option linter.unusedVariables false
open Go.RowKit Kt Mm Mp Am

def clsV (ms : List RMap) (s : ByteArray) : Value := match ms.find? (fun x => x.name.toList == s.toList) with | none => .slice none 0 0 | some m => m.v
theorem cls_none {ms : List RMap} {s : ByteArray} (h : ms.find? (fun x => x.name.toList == s.toList) = none) : clsOf ms s = [] ∧ clsV ms s = .slice none 0 0 := by unfold clsOf clsV; rw [h]; exact ⟨rfl, rfl⟩
theorem cls_some {ms : List RMap} {s : ByteArray} {m : RMap} (h : ms.find? (fun x => x.name.toList == s.toList) = some m) : clsOf ms s = m.clauses ∧ clsV ms s = m.v := by unfold clsOf clsV; rw [h]; exact ⟨rfl, rfl⟩
theorem cls_in {w : World} {r : Rtr} (h : RtrIn w r) (s : ByteArray) : InRow eCla 7 w (clsV r.maps s) (clsOf r.maps s) := by
  unfold clsV clsOf
  cases hf : r.maps.find? (fun x => x.name.toList == s.toList) with
  | none => exact ⟨rows_nil, by simp⟩
  | some m => exact h.mapsR m (List.mem_of_find?_eq_some hf)
def zeroCl : Array Value := #[.bool false, .string ⟨#[]⟩, .int .i64 0, .int .i64 0, .int .i64 0, .int .i64 0, .int .i64 0]

set_option maxHeartbeats 4000000 in
theorem plClauses (r : Rtr) (s : ByteArray) (w : World) (hr : RtrIn w r) :
    Calls Try.prog 40 #[.agg (eRtr r).toArray, .string s] w fun e w' => e = .returned (clsV r.maps s) ∧ Below w.heap.size w w' := by
  obtain ⟨X, hX⟩ : ∃ X, X = (eRtr r).toArray := ⟨_, rfl⟩
  obtain ⟨w1, hw1⟩ : ∃ w1, w.alloc (.cells X 55) = w1 := ⟨_, rfl⟩
  have hhX : w1.heap[w.heap.size]? = some (.cells X 55 (0, 0)) := by rw [← hw1, heap_new]
  have FX4 : ∀ v : World, Below w1.heap.size w1 v → v.cell? ⟨w.heap.size, 4, none⟩ = some (r.vMaps) := fun v h => box_at (blk_keep hhX h) (by rw [hX]; rfl)
  have KX : ∀ v : World, Below w1.heap.size w1 v → v.heap[w.heap.size]? = some (.cells X 55 (0, 0)) := fun v h => blk_keep hhX h
  have GX : Below w1.heap.size w1 w1 := Below.refl _ _
  have HX := hid (show Below w.heap.size w w1 by rw [← hw1]; exact new_below _ _)
  have hX' := hid hX
  try rw [← hX]
  clear hX hhX
  have hL := fun wx (h : Below w1.heap.size w1 wx) => lkRMap X r.vMaps r.maps s wx (by rw [hX'.out]; rfl) (hr.keep (then_ HX.out h)).maps.row hr.maps.len
  have hXs : X.size = 25 := by rw [hX'.out]; rfl
  obtain ⟨a, cap, hv, hcap, hcell⟩ := rows_open (z := 2) (by decide) hr.maps.row
  obtain ⟨l, hl⟩ : ∃ l, l = r.maps := ⟨_, rfl⟩
  have hlen := hr.maps.len
  rw [← hl] at hv hcap hcell hlen hL ⊢
  obtain ⟨n, hn⟩ : ∃ n, n = l.length := ⟨_, rfl⟩
  rw [← hn] at hv hcap hcell hlen
  rw [hv] at FX4
  have N := hid hn
  have HC := hid hcell
  clear hcell hn hl hr hv
  obtain ⟨P, hP⟩ : ∃ P, P = Try.prog := ⟨_, rfl⟩
  have HP := hid hP
  have mixed : P.follows .mixedOrders = true := by rw [hP]; kernel_rfl
  have FG : P.funcs[40]? = some Try.f40 := by rw [hP]; exact Try.func40
  obtain ⟨zRouter, hzRouter⟩ : ∃ z, z = 25 := ⟨_, rfl⟩
  have nzRouter : ¬ zRouter = 0 := by omega
  obtain ⟨zRouteMap, hzRouteMap⟩ : ∃ z, z = 2 := ⟨_, rfl⟩
  have nzRouteMap : ¬ zRouteMap = 0 := by omega
  have ty3 := Try.underlying3; have ag3 := Try.isAgg3; have sz3 := Try.sizeOf3; have ru3 := Try.runUnderlying3
  have ty9 := Try.underlying9; have ag9 := Try.isAgg9; have sz9 := Try.sizeOf9; have ru9 := Try.runUnderlying9
  have ty38 := Try.underlying38; have ag38 := Try.isAgg38; have sz38 := Try.sizeOf38; have ru38 := Try.runUnderlying38
  have ty55 := Try.underlying55; have ag55 := Try.isAgg55; have sz55 := Try.sizeOf55; have ru55 := Try.runUnderlying55
  rw [← hzRouter] at sz55
  have ty63 := Try.underlying63; have ag63 := Try.isAgg63; have sz63 := Try.sizeOf63; have ru63 := Try.runUnderlying63
  have ty65 := Try.underlying65; have ag65 := Try.isAgg65; have sz65 := Try.sizeOf65; have ru65 := Try.runUnderlying65
  rw [← hzRouteMap] at sz65
  have en0 : ∀ args w, (callFunc 60 args).run Try.prog w = .ok (.enter 60 args) w := enters_of Try.func60 (by kernel_rfl) rfl
  rw [← hP] at ty3 ag3 sz3 ru3 ty9 ag9 sz9 ru9 ty38 ag38 sz38 ru38 ty55 ag55 sz55 ru55 ty63 ag63 sz63 ru63 ty65 ag65 sz65 ru65 en0 hL ⊢
  clear hP
  have LX : ∀ v : World, Below w1.heap.size w1 v → Sem.run P (loadCellsFrom ⟨w.heap.size, 0, none⟩ 0 zRouter #[]) v = .ok X v := fun v h => ld_box P (KX v h) (by rw [hzRouter]; exact hXs)
  have ZM := hid hzRouteMap
  clear hzRouter hzRouteMap KX hXs
  rcases ix_find (p := fun x : RMap => x.name.toList == s.toList) l with ⟨hi, hf⟩ | ⟨j, x, hi, hx, hf, -, hj⟩
  · have R := hid (show clsV l s = .slice none 0 0 from (cls_none hf).2)
    rw [hi] at hL
    clear hi hf
    go_enter FG, Try.ntmps40
    repeat' (first | (go_at_call 60; with_reducible refine (hL _ (by assumption)).mono ?_; rintro e w' ⟨rfl, b⟩; have b' := then_ (w := w1) (by assumption) b; clear b; try dsimp only) | go_skip | go_guarded | go_step | go_upon)
    go_ret
    exact ⟨by rw [R.out]; rfl, then_ HX.out (by assumption)⟩
  · have R := hid (show clsV l s = x.v from (cls_some hf).2)
    rw [hi] at hL
    have hji : (j : Int) < (n : Int) := by have := N.out; omega
    have hj0 : (0 : Int) ≤ (j : Int) := by omega
    have hjn : ((j : Int) == -1) = false := by first | (simp; done) | (simp; omega)
    obtain ⟨b, off, rfl, hb, hc⟩ := HC.out (by omega)
    have hcx := row_cells (f := eRMap) (z := 2) (fun _ => rfl) hc hx
    have FE1 : ∀ v : World, Below w1.heap.size w1 v → v.cell? ⟨b, off + j * zRouteMap + 1, none⟩ = some x.v := fun v h => by
      rw [ZM.out]; exact ((then_ HX.out h).cell (p := ⟨b, off + j * 2 + 1, none⟩) hb).trans (hcx 1 _ rfl)
    obtain ⟨xv, hxv⟩ : ∃ q, q = x.v := ⟨_, rfl⟩
    rw [← hxv] at FE1 R
    clear hi hf hcx hc hx hxv
    go_enter FG, Try.ntmps40
    repeat' (first | (go_at_call 60; with_reducible refine (hL _ (by assumption)).mono ?_; rintro e w' ⟨rfl, b⟩; have b' := then_ (w := w1) (by assumption) b; clear b; try dsimp only) | go_skip | go_guarded | go_step | go_upon)
    go_ret
    exact ⟨by rw [R.out]; rfl, then_ HX.out (by assumption)⟩

set_option maxHeartbeats 8000000 in
theorem plMatchesClause (r : Rtr) (c : Cla) (x : Rte) (w : World) (hr : RtrIn w r) (ha : low x.pfx.addr) :
    Calls Try.prog 41 #[.agg (eRtr r).toArray, .agg (eCla c).toArray, .agg (eRte x).toArray] w fun e w' => e = .returned (.bool (cmB r.lists x.pfx x.tag c)) ∧ Below w.heap.size w w' := by
  obtain ⟨X, hX⟩ : ∃ X, X = (eRtr r).toArray := ⟨_, rfl⟩
  obtain ⟨w1, hw1⟩ : ∃ w1, w.alloc (.cells X 55) = w1 := ⟨_, rfl⟩
  have hhX : w1.heap[w.heap.size]? = some (.cells X 55 (0, 0)) := by rw [← hw1, heap_new]
  have KX : ∀ v : World, Below w1.heap.size w1 v → v.heap[w.heap.size]? = some (.cells X 55 (0, 0)) := fun v h => blk_keep hhX h
  have GX : Below w1.heap.size w1 w1 := Below.refl _ _
  have HX := hid (show Below w.heap.size w w1 by rw [← hw1]; exact new_below _ _)
  have hX' := hid hX
  try rw [← hX]
  clear hX hhX
  obtain ⟨C, hC⟩ : ∃ C, C = (eCla c).toArray := ⟨_, rfl⟩
  obtain ⟨Y, hY⟩ : ∃ Y, Y = (eRte x).toArray := ⟨_, rfl⟩
  obtain ⟨w3, hw3⟩ : ∃ w3, (w1.alloc (.cells C 80)).alloc (.cells Y 62) = w3 := ⟨_, rfl⟩
  have hhC : w3.heap[w1.heap.size]? = some (.cells C 80 (0, 0)) := by rw [← hw3, Below.heap_alloc _ _ _ (by simp), heap_new]
  have hhY : w3.heap[w1.heap.size + 1]? = some (.cells Y 62 (0, 0)) := by rw [← hw3]; have h := heap_new (w1.alloc (.cells C 80)) (.cells Y 62 (0, 0)); rwa [new_size] at h
  have FC1 : ∀ v : World, Below w3.heap.size w3 v → v.cell? ⟨w1.heap.size, 1, none⟩ = some (.string c.lst) := fun v h => box_at (blk_keep hhC h) (by rw [hC]; rfl)
  have FC2 : ∀ v : World, Below w3.heap.size w3 v → v.cell? ⟨w1.heap.size, 2, none⟩ = some (.int .i64 c.tag) := fun v h => box_at (blk_keep hhC h) (by rw [hC]; rfl)
  have FY0 : ∀ v : World, Below w3.heap.size w3 v → v.cell? ⟨w1.heap.size + 1, 0, none⟩ = some (.int .u32 (x.pfx.addr : Int)) := fun v h => box_at (blk_keep hhY h) (by rw [hY]; rfl)
  have FY1 : ∀ v : World, Below w3.heap.size w3 v → v.cell? ⟨w1.heap.size + 1, 1, none⟩ = some (.int .i64 x.pfx.len) := fun v h => box_at (blk_keep hhY h) (by rw [hY]; rfl)
  have FY7 : ∀ v : World, Below w3.heap.size w3 v → v.cell? ⟨w1.heap.size + 1, 7, none⟩ = some (.int .i64 x.tag) := fun v h => box_at (blk_keep hhY h) (by rw [hY]; rfl)
  have Gw3 : Below w3.heap.size w3 w3 := Below.refl _ _
  have Hw3 := hid (show Below w1.heap.size w1 w3 by rw [← hw3]; exact al2 _ _ _)
  have hC' := hid hC
  have hY' := hid hY
  try rw [← hC]
  try rw [← hY]
  clear hC hY hhC hhY
  have hXs : X.size = 25 := by rw [hX'.out]; rfl
  have hp := fun wx (h : Below w3.heap.size w3 wx) => plPermits r c.lst x.pfx wx (hr.keep (then_ HX.out (then_ Hw3.out h))) ha
  simp only [ePfx] at hp
  obtain ⟨pm, hpm⟩ : ∃ q, q = pmB r.lists c.lst x.pfx := ⟨_, rfl⟩
  rw [← hX'.out, ← hpm] at hp
  obtain ⟨t1, ht1⟩ : ∃ q, (c.tag == -1) = q := ⟨_, rfl⟩
  obtain ⟨t2, ht2⟩ : ∃ q, (c.tag == x.tag) = q := ⟨_, rfl⟩
  have R := hid (show cmB r.lists x.pfx x.tag c = ((t1 || t2) && pm) by rw [hpm, ← ht1, ← ht2]; unfold cmB; rw [Bool.eq_iff_iff]; simp)
  have KX3 := fun (v : World) (h : Below w3.heap.size w3 v) => KX v (then_ Hw3.out h)
  clear hr ha hpm
  obtain ⟨P, hP⟩ : ∃ P, P = Try.prog := ⟨_, rfl⟩
  have HP := hid hP
  have mixed : P.follows .mixedOrders = true := by rw [hP]; kernel_rfl
  have FG : P.funcs[41]? = some Try.f41 := by rw [hP]; exact Try.func41
  obtain ⟨zRouter, hzRouter⟩ : ∃ z, z = 25 := ⟨_, rfl⟩
  have nzRouter : ¬ zRouter = 0 := by omega
  have ty3 := Try.underlying3; have ag3 := Try.isAgg3; have sz3 := Try.sizeOf3; have ru3 := Try.runUnderlying3
  have ty9 := Try.underlying9; have ag9 := Try.isAgg9; have sz9 := Try.sizeOf9; have ru9 := Try.runUnderlying9
  have ty27 := Try.underlying27; have ag27 := Try.isAgg27; have sz27 := Try.sizeOf27; have ru27 := Try.runUnderlying27
  have ty55 := Try.underlying55; have ag55 := Try.isAgg55; have sz55 := Try.sizeOf55; have ru55 := Try.runUnderlying55
  rw [← hzRouter] at sz55
  have ty62 := Try.underlying62; have ag62 := Try.isAgg62; have sz62 := Try.sizeOf62; have ru62 := Try.runUnderlying62
  have ty80 := Try.underlying80; have ag80 := Try.isAgg80; have sz80 := Try.sizeOf80; have ru80 := Try.runUnderlying80
  have en0 : ∀ args w, (callFunc 18 args).run Try.prog w = .ok (.enter 18 args) w := enters_of Try.func18 (by kernel_rfl) rfl
  rw [← hP] at ty3 ag3 sz3 ru3 ty9 ag9 sz9 ru9 ty27 ag27 sz27 ru27 ty55 ag55 sz55 ru55 ty62 ag62 sz62 ru62 ty80 ag80 sz80 ru80 en0 hp ⊢
  clear hP
  have LX : ∀ v : World, Below w3.heap.size w3 v → Sem.run P (loadCellsFrom ⟨w.heap.size, 0, none⟩ 0 zRouter #[]) v = .ok X v := fun v h => ld_box P (KX3 v h) (by rw [hzRouter]; exact hXs)
  clear hzRouter KX KX3 hXs
  go_enter FG, Try.ntmps41
  repeat' (first | (go_at_call 18; with_reducible refine (hp _ (by assumption)).mono ?_; rintro e w' ⟨rfl, b⟩; have b' := then_ (w := w3) (by assumption) b; clear b; try dsimp only) | go_skip | go_big_skip | go_big_want | go_big_guard | go_step | go_upon)
  all_goals go_ret
  all_goals exact ⟨ret_bool (by rw [R.out]; simp_all), then_ HX.out (then_ Hw3.out (by assumption))⟩
end Go.Proofs.Ytlhbfpapmolohaa.Mw
