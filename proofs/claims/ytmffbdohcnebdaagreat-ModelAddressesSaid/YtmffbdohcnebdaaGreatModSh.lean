/-
  THE CONTRACTS OF model.sharesAddress AND ITS CLOSURES.
-/
import Derived.Test.YtmffbdohcnebdaaGreatModL
import Derived.Test.YtmffbdohcnebdaaGreatModF
import Derived.Test.YtmffbdohcnebdaaGreatModK
namespace Go.Proofs.YtmffbdohcnebdaaGreat.Mw
set_option linter.unusedSimpArgs false
set_option linter.unusedVariables false
open Go.RowKit Kt Mm Mp

set_option maxHeartbeats 1000000 in
theorem clShq (q : Rtr) (x : Ifc) (B : Nat) (w : World) (hq : RtrIn w q) (hB : w.heap[B]? = some (.cells (eIfc x).toArray 54 (0, 0))) :
    Calls Tryz.prog 137 #[.agg (eRtr q).toArray, .pointer (some ⟨B, 0, none⟩)] w fun e w' => e = .returned (.bool (decide (0 ≤ adIx q.ifs x.addr))) ∧ Below w.heap.size w w' := by
  obtain ⟨X, hX⟩ : ∃ X, X = (eRtr q).toArray := ⟨_, rfl⟩
  obtain ⟨w1, hw1⟩ : ∃ w1, w.alloc (.cells X 41) = w1 := ⟨_, rfl⟩
  have hhX : w1.heap[w.heap.size]? = some (.cells X 41 (0, 0)) := by rw [← hw1, heap_new]
  have KX : ∀ v : World, Below w1.heap.size w1 v → v.heap[w.heap.size]? = some (.cells X 41 (0, 0)) := fun v h => blk_keep hhX h
  have GX : Below w1.heap.size w1 w1 := Below.refl _ _
  have HX := hid (show Below w.heap.size w w1 by rw [← hw1]; exact new_below _ _)
  have hX' := hid hX
  try rw [← hX]
  clear hX hhX
  have K1 : ∀ v : World, Below w1.heap.size w1 v → v.heap[B]? = some (.cells (eIfc x).toArray 54 (0, 0)) := fun v h => by rw [← hB]; exact (Below.block h _ (Nat.lt_of_lt_of_le (blk_lt hB) HX.out.size)).trans (HX.out.block _ (blk_lt hB))
  have S1 : ∀ v : World, Below w1.heap.size w1 v → v.cell? ⟨B, 1, none⟩ = some (.int .u32 (x.addr : Int)) := fun v h => box_at (K1 v h) (by rfl)
  have hA := fun wx (h : Below w1.heap.size w1 wx) => lkAdr X q.vIfs q.ifs x.addr wx (by rw [hX'.out]; rfl) (rows_keep hq.ifs.row (then_ HX.out h)) hq.ifs.len
  obtain ⟨ad, had⟩ : ∃ ad, ad = adIx q.ifs x.addr := ⟨_, rfl⟩
  rw [← had] at hA ⊢
  clear K1 hB hq had
  obtain ⟨P, hP⟩ : ∃ P, P = Tryz.prog := ⟨_, rfl⟩
  have HP := hid hP
  have mixed : P.follows .mixedOrders = true := by rw [hP]; kernel_rfl
  have FG : P.funcs[137]? = some Tryz.f137 := by rw [hP]; exact Tryz.func137
  obtain ⟨zRouter, hzRouter⟩ : ∃ z, z = 25 := ⟨_, rfl⟩
  have nzRouter : ¬ zRouter = 0 := by omega
  have ty3 := Tryz.underlying3; have ag3 := Tryz.isAgg3; have sz3 := Tryz.sizeOf3; have ru3 := Tryz.runUnderlying3
  have ty41 := Tryz.underlying41; have ag41 := Tryz.isAgg41; have sz41 := Tryz.sizeOf41; have ru41 := Tryz.runUnderlying41
  rw [← hzRouter] at sz41
  have ty52 := Tryz.underlying52; have ag52 := Tryz.isAgg52; have sz52 := Tryz.sizeOf52; have ru52 := Tryz.runUnderlying52
  have ty54 := Tryz.underlying54; have ag54 := Tryz.isAgg54; have sz54 := Tryz.sizeOf54; have ru54 := Tryz.runUnderlying54
  have en0 : ∀ args w, (callFunc 30 args).run Tryz.prog w = .ok (.enter 30 args) w := enters_of Tryz.func30 (by kernel_rfl) rfl
  rw [← hP] at ty3 ag3 sz3 ru3 ty41 ag41 sz41 ru41 ty52 ag52 sz52 ru52 ty54 ag54 sz54 ru54 en0 hA ⊢
  clear hP
  have LX : ∀ v : World, Below w1.heap.size w1 v → Sem.run P (loadCellsFrom ⟨w.heap.size, 0, none⟩ 0 zRouter #[]) v = .ok X v := fun v h => ld_box P (KX v h) (by rw [hzRouter]; exact (by rw [hX'.out]; rfl))
  clear KX hzRouter
  go_enter FG, Tryz.ntmps137
  repeat' (first | (go_at_call 30; with_reducible refine (hA _ (by assumption)).mono ?_; rintro e w' ⟨rfl, b⟩; have b' := then_ (w := w1) (by assumption) b; clear b; try dsimp only) | go_skip | go_guarded | go_step | go_upon)
  go_ret
  exact ⟨ret_bool (by first | rfl | (rw [Bool.eq_iff_iff]; simp)), then_ HX.out (by assumption)⟩

set_option maxHeartbeats 1000000 in
theorem clShx (l : List Rtr) (v : Value) (x : Ifc) (B : Nat) (w : World) (hn : NetIn w v l) (hB : w.heap[B]? = some (.cells #[v] 46 (0, 0))) :
    Calls Tryz.prog 135 #[.agg (eIfc x).toArray, .pointer (some ⟨B, 0, none⟩)] w fun e w' => e = .returned (.bool (!decide (x.len = 0) && l.any fun s => decide (0 ≤ adIx s.ifs x.addr))) ∧ Below w.heap.size w w' := by
  obtain ⟨X, hX⟩ : ∃ X, X = (eIfc x).toArray := ⟨_, rfl⟩
  obtain ⟨w1, hw1⟩ : ∃ w1, w.alloc (.cells X 54) = w1 := ⟨_, rfl⟩
  have hhX : w1.heap[w.heap.size]? = some (.cells X 54 (0, 0)) := by rw [← hw1, heap_new]
  have FX2 : ∀ v : World, Below w1.heap.size w1 v → v.cell? ⟨w.heap.size, 2, none⟩ = some (.int .i64 x.len) := fun v h => box_at (blk_keep hhX h) (by rw [hX]; rfl)
  have KX : ∀ v : World, Below w1.heap.size w1 v → v.heap[w.heap.size]? = some (.cells X 54 (0, 0)) := fun v h => blk_keep hhX h
  have GX : Below w1.heap.size w1 w1 := Below.refl _ _
  have HX := hid (show Below w.heap.size w w1 by rw [← hw1]; exact new_below _ _)
  have hX' := hid hX
  try rw [← hX]
  clear hX hhX
  have K1 : ∀ v' : World, Below w1.heap.size w1 v' → v'.heap[B]? = some (.cells #[v] 46 (0, 0)) := fun v' h => by rw [← hB]; exact (Below.block h _ (Nat.lt_of_lt_of_le (blk_lt hB) HX.out.size)).trans (HX.out.block _ (blk_lt hB))
  have S0 : ∀ v' : World, Below w1.heap.size w1 v' → v'.cell? ⟨B, 0, none⟩ = some v := fun v' h => box_at (K1 v' h) (by rfl)
  have hc := fun wx (h : Below w1.heap.size w1 wx) => cfRtr v l (fun s => decide (0 ≤ adIx s.ifs x.addr)) 137 #[.pointer (some ⟨w.heap.size, 0, none⟩)] (enters_of Tryz.func137 (by kernel_rfl) rfl) wx (hn.keep (then_ HX.out h)).row.row hn.row.len
    (fun W s hs hb => clShq s x w.heap.size W ((hn.each s hs).keep (then_ HX.out (then_ h hb))) (by rw [← hX'.out]; exact KX W (then_ h hb)))
  obtain ⟨o, ho⟩ : ∃ o, o = l.any (fun s => decide (0 ≤ adIx s.ifs x.addr)) := ⟨_, rfl⟩
  rw [← ho] at hc ⊢
  clear K1 KX hB hn ho
  by_cases hz : x.len = 0
  · have R := hid (show (!decide (x.len = 0) && o) = false by rw [decide_eq_true hz]; rfl)
    have hzb : (x.len != 0) = false := by simpa using hz
    clear hc
    go_enter Tryz.func135, Tryz.ntmps135
    repeat' (first | go_skip | go_guarded | go_step | go_upon)
    go_ret
    exact ⟨ret_bool R.out.symm, HX.out⟩
  · have R := hid (show (!decide (x.len = 0) && o) = o by rw [decide_eq_false hz]; rfl)
    have hzb : (x.len != 0) = true := by simpa using hz
    go_enter Tryz.func135, Tryz.ntmps135
    repeat' (first | (go_at_call 136; with_reducible refine (hc _ (by assumption)).mono ?_; rintro e w' ⟨rfl, b⟩; have b' := then_ (w := w1) (by assumption) b; clear b; try dsimp only) | go_skip | go_guarded | go_step | go_upon)
    go_ret
    exact ⟨ret_bool R.out.symm, then_ HX.out (by assumption)⟩

set_option maxHeartbeats 1000000 in
theorem sharesC (l : List Rtr) (v : Value) (r : Rtr) (w : World) (hn : NetIn w v l) (hr : RtrIn w r) :
    Calls Tryz.prog 60 #[v, .agg (eRtr r).toArray] w fun e w' => e = .returned (.bool (shares l r)) ∧ Below w.heap.size w w' := by
  obtain ⟨a, cap, hv, -, -⟩ := rows_open (z := 25) (by decide) hn.row.row
  obtain ⟨m, hm⟩ : ∃ m, m = l.length := ⟨_, rfl⟩
  rw [← hm] at hv
  subst hv
  obtain ⟨X, hX⟩ : ∃ X, X = (eRtr r).toArray := ⟨_, rfl⟩
  obtain ⟨w2, hw2⟩ : ∃ w2, (w.alloc (.cells #[.slice a m cap] 46)).alloc (.cells X 41) = w2 := ⟨_, rfl⟩
  have k1 : w2.heap[w.heap.size]? = some (.cells #[.slice a m cap] 46 (0, 0)) := by rw [← hw2, Below.heap_alloc _ _ _ (by simp), heap_new]
  have k2 : w2.heap[w.heap.size + 1]? = some (.cells X 41 (0, 0)) := by rw [← hw2]; have h := heap_new (w.alloc (.cells #[.slice a m cap] 46)) (.cells X 41 (0, 0)); rwa [new_size] at h
  have c2 : w2.cell? ⟨w.heap.size + 1, 2, none⟩ = some r.vIfs := box_at k2 (by rw [hX]; rfl)
  have HW := hid (show Below w.heap.size w w2 by rw [← hw2]; exact al2 _ _ _)
  have hc := cfIfc r.vIfs r.ifs (fun x => !decide (x.len = 0) && l.any fun s => decide (0 ≤ adIx s.ifs x.addr)) 135 #[.pointer (some ⟨w.heap.size, 0, none⟩)] (enters_of Tryz.func135 (by kernel_rfl) rfl) w2 (hr.keep HW.out).ifs.row hr.ifs.len
    (fun W x _ hb => clShx l _ x w.heap.size W (hn.keep (then_ HW.out hb)) (blk_keep k1 hb))
  have R := hid (show shares l r = r.ifs.any (fun x => !decide (x.len = 0) && l.any fun s => decide (0 ≤ adIx s.ifs x.addr)) from rfl)
  obtain ⟨o, ho⟩ : ∃ o, o = r.ifs.any (fun x => !decide (x.len = 0) && l.any fun s => decide (0 ≤ adIx s.ifs x.addr)) := ⟨_, rfl⟩
  rw [← ho] at hc R
  rw [← hX]
  clear hn hr ho hm k1 k2 hX
  go_enter Tryz.func60, Tryz.ntmps60
  repeat' (first | (go_at_call 134; with_reducible refine (hc).mono ?_; rintro e w' ⟨rfl, b⟩; dsimp only) | go_skip | go_guarded | go_step | go_upon)
  go_ret
  exact ⟨ret_bool R.out.symm, then_ HW.out b⟩
end Go.Proofs.YtmffbdohcnebdaaGreat.Mw
