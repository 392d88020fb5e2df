/-
  THE CONTRACTS OF model's CHECKS OF THE SECTIONS OF A ROUTER, FIRST PART: interfaces, prefix lists.
-/
import Derived.Test.YtlhbfpapmolohaaGreatModV
import Derived.Test.YtlhbfpapmolohaaGreatModW
namespace Go.Proofs.YtlhbfpapmolohaaGreat.Mw
set_option linter.unusedSimpArgs false
set_option linter.unusedVariables false
open Go.RowKit Kt Mm Mp

theorem nmC {s : ByteArray} (h : sz s) (wx : World) : Calls Tryz.prog 63 #[.string s] wx fun e w' => e = .returned (.bool (nmB s)) ∧ wx = w' := Sc.name s wx h

set_option maxHeartbeats 2000000 in
theorem clIfs (r : Rtr) (i : Nat) (x : Ifc) (B : Nat) (w : World) (hr : RtrIn w r) (hB : w.heap[B]? = some (.cells (eRtr r).toArray 41 (0, 0))) (hx : r.ifs[i]? = some x) :
    Calls Tryz.prog 66 #[.int .i64 (i : Int), .agg (eIfc x).toArray, .pointer (some ⟨B, 0, none⟩)] w fun e w' => e = .returned (.int .i64 (ifcE r.ifs i x)) ∧ Below w.heap.size w w' := by
  have hm := get_mem hx
  have hN := nmC (hr.ifsN x hm)
  have hF := fun wx => fitsIfc x wx
  obtain ⟨b, off, cap, hv, hcap, hb, hcell⟩ := row_addr (z := 12) (by decide) hr.ifs.row hx
  have hlt : i < r.ifs.length := (List.getElem?_eq_some_iff.1 hx).1
  obtain ⟨A, hA⟩ : ∃ A, A = (eRtr r).toArray := ⟨_, rfl⟩
  have hA2 : A[2]? = some r.vIfs := by rw [hA]; rfl
  have hAs : A.size = 25 := by rw [hA]; rfl
  have hA3 : A[2]? = some (.slice (some ⟨b, off, none⟩) r.ifs.length cap) := by rw [← hv]; exact hA2
  rw [← hA] at hB
  obtain ⟨X, hX⟩ : ∃ X, X = (eIfc x).toArray := ⟨_, rfl⟩
  obtain ⟨w1, hw1⟩ : ∃ w1, w.alloc (.cells X 53) = w1 := ⟨_, rfl⟩
  have hhX : w1.heap[w.heap.size]? = some (.cells X 53 (0, 0)) := by rw [← hw1, heap_new]
  have FX0 : ∀ v : World, Below w1.heap.size w1 v → v.cell? ⟨w.heap.size, 0, none⟩ = some (.string x.name) := fun v h => box_at (blk_keep hhX h) (by rw [hX]; rfl)
  have KX : ∀ v : World, Below w1.heap.size w1 v → v.heap[w.heap.size]? = some (.cells X 53 (0, 0)) := fun v h => blk_keep hhX h
  have GX : Below w1.heap.size w1 w1 := Below.refl _ _
  have HX := hid (show Below w.heap.size w w1 by rw [← hw1]; exact new_below _ _)
  have hX' := hid hX
  try rw [← hX]
  clear hX hhX
  have KS : ∀ v : World, Below w1.heap.size w1 v → v.heap[B]? = some (.cells A 41 (0, 0)) := fun v h => by rw [← hB]; exact (Below.block h _ (Nat.lt_of_lt_of_le (blk_lt hB) HX.out.size)).trans (HX.out.block _ (blk_lt hB))
  have S2 : ∀ v : World, Below w1.heap.size w1 v → v.cell? ⟨B, 2, none⟩ = some (.slice (some ⟨b, off, none⟩) r.ifs.length cap) := fun v h => box_at (KS v h) (by exact hA3)
  have hrow := hr.ifs.row
  have hlen := hr.ifs.len
  have hQ := fun wx (h : Below w1.heap.size w1 wx) => lkIfc A r.vIfs r.ifs x.name wx hA2 (rows_keep hrow (then_ HX.out h)) hlen
  have hO := fun wx (h : Below w1.heap.size w1 wx) => overlapsAny (.slice (some ⟨b, off, none⟩) i cap) (r.ifs.take i) x wx (rows_keep (row_take (f := eIfc) (z := 12) (fun _ => rfl) (by rw [← hv]; exact hrow) rfl (Nat.le_of_lt hlt)) (then_ HX.out h)) (by rw [List.length_take]; omega) (fun y hy => hr.ifsA y (List.mem_of_mem_take hy)) (hr.ifsA x hm)
  have R := hid (show ifcE r.ifs i x = if !nmB x.name then 3 else if decide (ixB (fun y : Ifc => y.name.toList == x.name.toList) r.ifs < (i : Int)) then 4 else if !ifcOk x then 1 else if ovAny (r.ifs.take i) x then 6 else 0 by
    unfold ifcE; rw [ixB_lt hx (by simp)])
  rw [← hX'.out] at hF hO
  obtain ⟨n, hn⟩ : ∃ n, n = nmB x.name := ⟨_, rfl⟩
  obtain ⟨q, hq⟩ : ∃ q, q = ixB (fun y : Ifc => y.name.toList == x.name.toList) r.ifs := ⟨_, rfl⟩
  obtain ⟨f, hf⟩ : ∃ f, f = ifcOk x := ⟨_, rfl⟩
  obtain ⟨o, ho⟩ : ∃ o, o = ovAny (r.ifs.take i) x := ⟨_, rfl⟩
  rw [← hn, ← hq, ← hf, ← ho] at R
  rw [← hn] at hN
  rw [← hq] at hQ
  rw [← hf] at hF
  rw [← ho] at hO
  obtain ⟨m, hmm⟩ : ∃ m, m = r.ifs.length := ⟨_, rfl⟩
  rw [← hmm] at S2 hcap hlt hlen
  clear hn hq hf ho hr hcell hA hA2 hA3 hrow hx hm hmm hB hv
  obtain ⟨P, hP⟩ : ∃ P, P = Tryz.prog := ⟨_, rfl⟩
  have HP := hid hP
  have mixed : P.follows .mixedOrders = true := by rw [hP]; kernel_rfl
  have FG : P.funcs[66]? = some Tryz.f66 := by rw [hP]; exact Tryz.func66
  obtain ⟨zRouter, hzRouter⟩ : ∃ z, z = 25 := ⟨_, rfl⟩
  obtain ⟨zInterface, hzInterface⟩ : ∃ z, z = 12 := ⟨_, rfl⟩
  have ty3 := Tryz.underlying3; have ag3 := Tryz.isAgg3; have sz3 := Tryz.sizeOf3; have ru3 := Tryz.runUnderlying3
  have ty4 := Tryz.underlying4; have ag4 := Tryz.isAgg4; have sz4 := Tryz.sizeOf4; have ru4 := Tryz.runUnderlying4
  have ty9 := Tryz.underlying9; have ag9 := Tryz.isAgg9; have sz9 := Tryz.sizeOf9; have ru9 := Tryz.runUnderlying9
  have ty22 := Tryz.underlying22; have ag22 := Tryz.isAgg22; have sz22 := Tryz.sizeOf22; have ru22 := Tryz.runUnderlying22
  have ty41 := Tryz.underlying41; have ag41 := Tryz.isAgg41; have sz41 := Tryz.sizeOf41; have ru41 := Tryz.runUnderlying41
  rw [← hzRouter] at sz41
  have ty54 := Tryz.underlying53; have ag54 := Tryz.isAgg53; have sz54 := Tryz.sizeOf53; have ru54 := Tryz.runUnderlying53
  rw [← hzInterface] at sz54
  have en0 : ∀ args w, (callFunc 41 args).run Tryz.prog w = .ok (.enter 41 args) w := enters_of Tryz.func41 (by kernel_rfl) rfl
  have en1 : ∀ args w, (callFunc 67 args).run Tryz.prog w = .ok (.enter 67 args) w := enters_of Tryz.func67 (by kernel_rfl) rfl
  have en2 : ∀ args w, (callFunc 68 args).run Tryz.prog w = .ok (.enter 68 args) w := enters_of Tryz.func68 (by kernel_rfl) rfl
  have en3 : ∀ args w, (callFunc 63 args).run Tryz.prog w = .ok (.enter 63 args) w := enters_of Tryz.func63 (by kernel_rfl) rfl
  rw [← hP] at ty3 ag3 sz3 ru3 ty4 ag4 sz4 ru4 ty9 ag9 sz9 ru9 ty22 ag22 sz22 ru22 ty41 ag41 sz41 ru41 ty54 ag54 sz54 ru54 en0 en1 en2 en3 hN hQ hF hO ⊢
  clear hP
  have LX : ∀ v : World, Below w1.heap.size w1 v → Sem.run P (loadCellsFrom ⟨w.heap.size, 0, none⟩ 0 zInterface #[]) v = .ok X v := fun v h => ld_box P (KX v h) (by rw [hzInterface]; exact (by rw [hX'.out]; rfl))
  have LS : ∀ v : World, Below w1.heap.size w1 v → Sem.run P (loadCellsFrom ⟨B, 0, none⟩ 0 zRouter #[]) v = .ok A v := fun v h => ld_box P (KS v h) (by rw [hzRouter]; exact hAs)
  clear KX KS hzRouter hzInterface
  have uFX0 := fun u : Later w1.heap.size w1 => FX0 u.w u.h
  have uLX := fun u : Later w1.heap.size w1 => LX u.w u.h
  have uS2 := fun u : Later w1.heap.size w1 => S2 u.w u.h
  have uLS := fun u : Later w1.heap.size w1 => LS u.w u.h
  go_enter FG, Tryz.ntmps66
  repeat' (first | (go_at_call 63; with_reducible refine (hN _).mono ?_; rintro e w' ⟨rfl, rfl⟩; try dsimp only) | (go_at_call 41; with_reducible refine (hQ _ (by assumption)).mono ?_; rintro e w' ⟨rfl, b⟩; have b' := then_ (w := w1) (by assumption) b; clear b; try dsimp only) | (go_at_call 67; with_reducible refine (hF _).mono ?_; rintro e w' ⟨rfl, b⟩; have b' := then_ (w := w1) (by assumption) b; clear b; try dsimp only) | go_skip | go_guarded | go_step | go_upon)
  all_goals try (go_ret; exact ⟨ret_int (by rw [R.out]; simp_all), then_ HX.out (by assumption)⟩)
  have hli : (i : Int) ≤ (cap : Int) := by omega
  have hl0 : (0 : Int) ≤ (i : Int) := by omega
  refine wp_region_base w1 (by assumption) (by first | assumption | kernel_rfl) (by kernel_rfl) ?_
  repeat (go_big_quiet_step (first | (go_at_call 68; with_reducible exact later_of (Nat.le_refl _) (hO _ (Later.h _)))))
  refine wpQuiet_nil ?_
  rintro _ ⟨u, rfl⟩
  have bu := u.h
  repeat' (first | go_skip | go_guarded | go_step | go_upon)
  all_goals go_ret
  all_goals exact ⟨ret_int (by rw [R.out]; simp_all), then_ HX.out (by assumption)⟩


/-- chk --/
theorem chk_mark : True := trivial


set_option maxHeartbeats 1000000 in
theorem chkIfs (r : Rtr) (w : World) (hr : RtrIn w r) :
    Calls Tryz.prog 18 #[.agg (eRtr r).toArray] w fun e w' => e = .returned (.int .i64 (ifsE r.ifs)) ∧ Below w.heap.size w w' := by
  have hB : (w.alloc (.cells (eRtr r).toArray 41)).heap[w.heap.size]? = some (.cells (eRtr r).toArray 41 (0, 0)) := heap_new _ _
  have hc := eachIfc r.vIfs r.ifs 8 (ifcE r.ifs) 66 #[.pointer (some ⟨w.heap.size, 0, none⟩)] (enters_of Tryz.func66 (by kernel_rfl) rfl) (w.alloc (.cells (eRtr r).toArray 41)) (rows_keep hr.ifs.row (new_below _ _)) hr.ifs.len
    (fun x _ => by simp [eIfc, one_str, one_int, one_bool]) (fun W i x hx hbw => clIfs r i x _ W (hr.keep (then_ (new_below _ _) hbw)) (blk_keep hB hbw) hx)
  have R := hid (show ifsE r.ifs = eachE 8 (ifcE r.ifs) r.ifs from rfl)
  obtain ⟨e0, he⟩ : ∃ e0, e0 = eachE 8 (ifcE r.ifs) r.ifs := ⟨_, rfl⟩
  rw [← he] at hc R
  obtain ⟨v0, hv⟩ : ∃ v0, v0 = r.vIfs := ⟨_, rfl⟩
  obtain ⟨X, hX⟩ : ∃ X, X = (eRtr r).toArray := ⟨_, rfl⟩
  obtain ⟨w1, hw1⟩ : ∃ w1, w.alloc (.cells X 41) = w1 := ⟨_, rfl⟩
  have hhX : w1.heap[w.heap.size]? = some (.cells X 41 (0, 0)) := by rw [← hw1, heap_new]
  have FX2 : ∀ v : World, Below w1.heap.size w1 v → v.cell? ⟨w.heap.size, 2, none⟩ = some (r.vIfs) := fun v h => box_at (blk_keep hhX h) (by rw [hX]; rfl)
  have GX : Below w1.heap.size w1 w1 := Below.refl _ _
  have HX := hid (show Below w.heap.size w w1 by rw [← hw1]; exact new_below _ _)
  have hX' := hid hX
  try rw [← hX]
  clear hX hhX
  rw [← hX'.out, hw1] at hc
  rw [← hv, show ((8 : Nat) : Int) = 8 from rfl] at hc
  rw [← hv] at FX2
  clear hB hr he hv
  go_enter Tryz.func18, Tryz.ntmps18
  repeat' (first | (go_at_call 65; with_reducible refine (hc).mono ?_; rintro e w' ⟨rfl, b⟩; have b' := then_ (w := w1) (by assumption) b; clear b; try dsimp only) | go_skip | go_guarded | go_step | go_upon)
  go_ret
  exact ⟨ret_int R.out.symm, then_ HX.out (by assumption)⟩

set_option maxHeartbeats 2000000 in
theorem clLists (r : Rtr) (i : Nat) (x : PList) (B : Nat) (w : World) (hr : RtrIn w r) (hB : w.heap[B]? = some (.cells (eRtr r).toArray 41 (0, 0))) (hx : r.lists[i]? = some x) :
    Calls Tryz.prog 70 #[.int .i64 (i : Int), .agg (ePList x).toArray, .pointer (some ⟨B, 0, none⟩)] w fun e w' => e = .returned (.int .i64 (plistE r.lists i x)) ∧ Below w.heap.size w w' := by
  have hm := get_mem hx
  have hL := fun (t : Bool) (n : Nat) wx => checkList x.name t n wx (hr.listsN x hm)
  have hB' := hB
  obtain ⟨A, hA⟩ : ∃ A, A = (eRtr r).toArray := ⟨_, rfl⟩
  have hA2 : A[3]? = some r.vLists := by rw [hA]; rfl
  have hAs : A.size = 25 := by rw [hA]; rfl
  rw [← hA] at hB
  obtain ⟨ra, rcap, hrv, _, _⟩ := rows_open (z := 5) (by decide) (hr.listsR x hm).row
  obtain ⟨X, hX⟩ : ∃ X, X = (ePList x).toArray := ⟨_, rfl⟩
  obtain ⟨w1, hw1⟩ : ∃ w1, w.alloc (.cells X 64) = w1 := ⟨_, rfl⟩
  have hhX : w1.heap[w.heap.size]? = some (.cells X 64 (0, 0)) := by rw [← hw1, heap_new]
  have FX0 : ∀ v : World, Below w1.heap.size w1 v → v.cell? ⟨w.heap.size, 0, none⟩ = some (.string x.name) := fun v h => box_at (blk_keep hhX h) (by rw [hX]; rfl)
  have FX1 : ∀ v : World, Below w1.heap.size w1 v → v.cell? ⟨w.heap.size, 1, none⟩ = some (x.v) := fun v h => box_at (blk_keep hhX h) (by rw [hX]; rfl)
  have KX : ∀ v : World, Below w1.heap.size w1 v → v.heap[w.heap.size]? = some (.cells X 64 (0, 0)) := fun v h => blk_keep hhX h
  have GX : Below w1.heap.size w1 w1 := Below.refl _ _
  have HX := hid (show Below w.heap.size w w1 by rw [← hw1]; exact new_below _ _)
  have hX' := hid hX
  try rw [← hX]
  clear hX hhX
  have KS : ∀ v : World, Below w1.heap.size w1 v → v.heap[B]? = some (.cells A 41 (0, 0)) := fun v h => by rw [← hB]; exact (Below.block h _ (Nat.lt_of_lt_of_le (blk_lt hB) HX.out.size)).trans (HX.out.block _ (blk_lt hB))
  have S3 : ∀ v : World, Below w1.heap.size w1 v → v.cell? ⟨B, 3, none⟩ = some (r.vLists) := fun v h => box_at (KS v h) (by exact hA2)
  have hrow := hr.lists.row
  have hlen := hr.lists.len
  have hQ := fun wx (h : Below w1.heap.size w1 wx) => lkPList A r.vLists r.lists x.name wx hA2 (rows_keep hrow (then_ HX.out h)) hlen
  have hE := fun wx (h : Below w1.heap.size w1 wx) => eachPRule x.v x.rules 16 (fun _ y => if pruleOk y then 0 else 1) 74 #[] (enters_of Tryz.func74 (by kernel_rfl) rfl) wx (rows_keep (hr.listsR x hm).row (then_ HX.out h)) (hr.listsR x hm).len
    (fun y _ => by simp [ePRule, one_str, one_int, one_bool]) (fun W j y hy hbw => clPRule j y W (hr.listsA x hm y (get_mem hy)))
  have R := hid (show plistE r.lists i x = thenE (headE x.name (decide (ixB (fun y : PList => y.name.toList == x.name.toList) r.lists < (i : Int))) x.rules.length) (eachE 16 (fun _ y => if pruleOk y then 0 else 1) x.rules) by
    unfold plistE; rw [ixB_lt hx (by simp)])
  obtain ⟨q, hq⟩ : ∃ q, q = ixB (fun y : PList => y.name.toList == x.name.toList) r.lists := ⟨_, rfl⟩
  obtain ⟨m, hmm⟩ : ∃ m, m = x.rules.length := ⟨_, rfl⟩
  obtain ⟨g, hg⟩ : ∃ g, g = eachE 16 (fun _ y => if pruleOk y then 0 else 1) x.rules := ⟨_, rfl⟩
  rw [← hq, ← hmm, ← hg] at R
  rw [← hq] at hQ
  rw [← hg, hrv, ← hmm] at hE
  simp only [show ((16 : Nat) : Int) = 16 from rfl] at hE
  rw [hrv, ← hmm] at FX1
  have hL2 := hL (decide (q < (i : Int))) m
  obtain ⟨e1, he1⟩ : ∃ e1, e1 = headE x.name (decide (q < (i : Int))) m := ⟨_, rfl⟩
  rw [← he1] at R hL2
  clear hq hg hr hA hA2 hrow hx hm hmm hB hB' hlen hL hrv he1
  obtain ⟨P, hP⟩ : ∃ P, P = Tryz.prog := ⟨_, rfl⟩
  have HP := hid hP
  have mixed : P.follows .mixedOrders = true := by rw [hP]; kernel_rfl
  have FG : P.funcs[70]? = some Tryz.f70 := by rw [hP]; exact Tryz.func70
  obtain ⟨zRouter, hzRouter⟩ : ∃ z, z = 25 := ⟨_, rfl⟩
  have ty3 := Tryz.underlying3; have ag3 := Tryz.isAgg3; have sz3 := Tryz.sizeOf3; have ru3 := Tryz.runUnderlying3
  have ty4 := Tryz.underlying4; have ag4 := Tryz.isAgg4; have sz4 := Tryz.sizeOf4; have ru4 := Tryz.runUnderlying4
  have ty9 := Tryz.underlying9; have ag9 := Tryz.isAgg9; have sz9 := Tryz.sizeOf9; have ru9 := Tryz.runUnderlying9
  have ty41 := Tryz.underlying41; have ag41 := Tryz.isAgg41; have sz41 := Tryz.sizeOf41; have ru41 := Tryz.runUnderlying41
  rw [← hzRouter] at sz41
  have ty43 := Tryz.underlying43; have ag43 := Tryz.isAgg43; have sz43 := Tryz.sizeOf43; have ru43 := Tryz.runUnderlying43
  have ty80 := Tryz.underlying62; have ag80 := Tryz.isAgg62; have sz80 := Tryz.sizeOf62; have ru80 := Tryz.runUnderlying62
  have ty82 := Tryz.underlying64; have ag82 := Tryz.isAgg64; have sz82 := Tryz.sizeOf64; have ru82 := Tryz.runUnderlying64
  have ty128 := Tryz.underlying109; have ag128 := Tryz.isAgg109; have sz128 := Tryz.sizeOf109; have ru128 := Tryz.runUnderlying109
  have en0 : ∀ args w, (callFunc 72 args).run Tryz.prog w = .ok (.enter 72 args) w := enters_of Tryz.func72 (by kernel_rfl) rfl
  have en1 : ∀ args w, (callFunc 73 args).run Tryz.prog w = .ok (.enter 73 args) w := enters_of Tryz.func73 (by kernel_rfl) rfl
  have en2 : ∀ args w, (callFunc 71 args).run Tryz.prog w = .ok (.enter 71 args) w := enters_of Tryz.func71 (by kernel_rfl) rfl
  rw [← hP] at ty3 ag3 sz3 ru3 ty4 ag4 sz4 ru4 ty9 ag9 sz9 ru9 ty41 ag41 sz41 ru41 ty43 ag43 sz43 ru43 ty80 ag80 sz80 ru80 ty82 ag82 sz82 ru82 ty128 ag128 sz128 ru128 en0 en1 en2 hL2 hQ hE ⊢
  clear hP
  have LS : ∀ v : World, Below w1.heap.size w1 v → Sem.run P (loadCellsFrom ⟨B, 0, none⟩ 0 zRouter #[]) v = .ok A v := fun v h => ld_box P (KS v h) (by rw [hzRouter]; exact hAs)
  clear KX KS hzRouter
  have uFX0 := fun u : Later w1.heap.size w1 => FX0 u.w u.h
  have uFX1 := fun u : Later w1.heap.size w1 => FX1 u.w u.h
  have uLS := fun u : Later w1.heap.size w1 => LS u.w u.h
  go_enter FG, Tryz.ntmps70
  repeat' (first | go_skip | go_guarded | go_step | go_upon)
  refine wp_region_base w1 (by assumption) (by first | assumption | kernel_rfl) (by kernel_rfl) ?_
  repeat (go_big_quiet_step (first | (go_at_call 72; with_reducible exact later_of (Nat.le_refl _) (hQ _ (Later.h _))) | (go_at_call 71; with_reducible exact later_same (hL2 _))))
  refine wpQuiet_nil ?_
  rintro _ ⟨u, rfl⟩
  have bu := u.h
  repeat' (first | (go_at_call 73; with_reducible refine (hE _ (by assumption)).mono ?_; rintro e w' ⟨rfl, b⟩; have b' := then_ (w := w1) (by assumption) b; clear b; try dsimp only) | go_skip | go_guarded | go_step | go_upon)
  all_goals go_ret
  all_goals exact ⟨ret_int (by rw [R.out]; unfold thenE; simp_all), then_ HX.out (by assumption)⟩

set_option maxHeartbeats 1000000 in
theorem chkLists (r : Rtr) (w : World) (hr : RtrIn w r) :
    Calls Tryz.prog 19 #[.agg (eRtr r).toArray] w fun e w' => e = .returned (.int .i64 (listsE r.lists)) ∧ Below w.heap.size w w' := by
  have hB : (w.alloc (.cells (eRtr r).toArray 41)).heap[w.heap.size]? = some (.cells (eRtr r).toArray 41 (0, 0)) := heap_new _ _
  have hc := eachPList r.vLists r.lists 8 (plistE r.lists) 70 #[.pointer (some ⟨w.heap.size, 0, none⟩)] (enters_of Tryz.func70 (by kernel_rfl) rfl) (w.alloc (.cells (eRtr r).toArray 41)) (rows_keep hr.lists.row (new_below _ _)) hr.lists.len
    (fun x hx => ePList_one (hr.listsR x hx)) (fun W i x hx hbw => clLists r i x _ W (hr.keep (then_ (new_below _ _) hbw)) (blk_keep hB hbw) hx)
  have R := hid (show listsE r.lists = eachE 8 (plistE r.lists) r.lists from rfl)
  obtain ⟨e0, he⟩ : ∃ e0, e0 = eachE 8 (plistE r.lists) r.lists := ⟨_, rfl⟩
  rw [← he] at hc R
  obtain ⟨v0, hv⟩ : ∃ v0, v0 = r.vLists := ⟨_, rfl⟩
  obtain ⟨X, hX⟩ : ∃ X, X = (eRtr r).toArray := ⟨_, rfl⟩
  obtain ⟨w1, hw1⟩ : ∃ w1, w.alloc (.cells X 41) = w1 := ⟨_, rfl⟩
  have hhX : w1.heap[w.heap.size]? = some (.cells X 41 (0, 0)) := by rw [← hw1, heap_new]
  have FX3 : ∀ v : World, Below w1.heap.size w1 v → v.cell? ⟨w.heap.size, 3, none⟩ = some (r.vLists) := fun v h => box_at (blk_keep hhX h) (by rw [hX]; rfl)
  have GX : Below w1.heap.size w1 w1 := Below.refl _ _
  have HX := hid (show Below w.heap.size w w1 by rw [← hw1]; exact new_below _ _)
  have hX' := hid hX
  try rw [← hX]
  clear hX hhX
  rw [← hX'.out, hw1] at hc
  rw [← hv, show ((8 : Nat) : Int) = 8 from rfl] at hc
  rw [← hv] at FX3
  clear hB hr he hv
  go_enter Tryz.func19, Tryz.ntmps19
  repeat' (first | (go_at_call 69; with_reducible refine (hc).mono ?_; rintro e w' ⟨rfl, b⟩; have b' := then_ (w := w1) (by assumption) b; clear b; try dsimp only) | go_skip | go_guarded | go_step | go_upon)
  go_ret
  exact ⟨ret_int R.out.symm, then_ HX.out (by assumption)⟩

set_option maxHeartbeats 2000000 in
theorem clAcls (r : Rtr) (i : Nat) (x : Acl) (B : Nat) (w : World) (hr : RtrIn w r) (hB : w.heap[B]? = some (.cells (eRtr r).toArray 41 (0, 0))) (hx : r.acls[i]? = some x) :
    Calls Tryz.prog 84 #[.int .i64 (i : Int), .agg (eAcl x).toArray, .pointer (some ⟨B, 0, none⟩)] w fun e w' => e = .returned (.int .i64 (aclE r.acls i x)) ∧ Below w.heap.size w w' := by
  have hm := get_mem hx
  have hL := fun (t : Bool) (n : Nat) wx => checkList x.name t n wx (hr.aclsN x hm)
  have hB' := hB
  obtain ⟨A, hA⟩ : ∃ A, A = (eRtr r).toArray := ⟨_, rfl⟩
  have hA2 : A[5]? = some r.vAcls := by rw [hA]; rfl
  have hAs : A.size = 25 := by rw [hA]; rfl
  rw [← hA] at hB
  obtain ⟨ra, rcap, hrv, _, _⟩ := rows_open (z := 10) (by decide) (hr.aclsR x hm).row
  obtain ⟨X, hX⟩ : ∃ X, X = (eAcl x).toArray := ⟨_, rfl⟩
  obtain ⟨w1, hw1⟩ : ∃ w1, w.alloc (.cells X 70) = w1 := ⟨_, rfl⟩
  have hhX : w1.heap[w.heap.size]? = some (.cells X 70 (0, 0)) := by rw [← hw1, heap_new]
  have FX0 : ∀ v : World, Below w1.heap.size w1 v → v.cell? ⟨w.heap.size, 0, none⟩ = some (.string x.name) := fun v h => box_at (blk_keep hhX h) (by rw [hX]; rfl)
  have FX1 : ∀ v : World, Below w1.heap.size w1 v → v.cell? ⟨w.heap.size, 1, none⟩ = some (x.v) := fun v h => box_at (blk_keep hhX h) (by rw [hX]; rfl)
  have KX : ∀ v : World, Below w1.heap.size w1 v → v.heap[w.heap.size]? = some (.cells X 70 (0, 0)) := fun v h => blk_keep hhX h
  have GX : Below w1.heap.size w1 w1 := Below.refl _ _
  have HX := hid (show Below w.heap.size w w1 by rw [← hw1]; exact new_below _ _)
  have hX' := hid hX
  try rw [← hX]
  clear hX hhX
  have KS : ∀ v : World, Below w1.heap.size w1 v → v.heap[B]? = some (.cells A 41 (0, 0)) := fun v h => by rw [← hB]; exact (Below.block h _ (Nat.lt_of_lt_of_le (blk_lt hB) HX.out.size)).trans (HX.out.block _ (blk_lt hB))
  have S5 : ∀ v : World, Below w1.heap.size w1 v → v.cell? ⟨B, 5, none⟩ = some (r.vAcls) := fun v h => box_at (KS v h) (by exact hA2)
  have hrow := hr.acls.row
  have hlen := hr.acls.len
  have hQ := fun wx (h : Below w1.heap.size w1 wx) => lkAcl A r.vAcls r.acls x.name wx hA2 (rows_keep hrow (then_ HX.out h)) hlen
  have hE := fun wx (h : Below w1.heap.size w1 wx) => eachRule x.v x.rules 16 (fun _ y => if ruleOk y then 0 else 1) 87 #[] (enters_of Tryz.func87 (by kernel_rfl) rfl) wx (rows_keep (hr.aclsR x hm).row (then_ HX.out h)) (hr.aclsR x hm).len
    (fun y _ => by simp [eRule, one_str, one_int, one_bool]) (fun W j y hy hbw => clRule j y W (hr.aclsA x hm y (get_mem hy)).1 (hr.aclsA x hm y (get_mem hy)).2.1 (hr.aclsA x hm y (get_mem hy)).2.2.1 (hr.aclsA x hm y (get_mem hy)).2.2.2)
  have R := hid (show aclE r.acls i x = thenE (headE x.name (decide (ixB (fun y : Acl => y.name.toList == x.name.toList) r.acls < (i : Int))) x.rules.length) (eachE 16 (fun _ y => if ruleOk y then 0 else 1) x.rules) by
    unfold aclE; rw [ixB_lt hx (by simp)])
  obtain ⟨q, hq⟩ : ∃ q, q = ixB (fun y : Acl => y.name.toList == x.name.toList) r.acls := ⟨_, rfl⟩
  obtain ⟨m, hmm⟩ : ∃ m, m = x.rules.length := ⟨_, rfl⟩
  obtain ⟨g, hg⟩ : ∃ g, g = eachE 16 (fun _ y => if ruleOk y then 0 else 1) x.rules := ⟨_, rfl⟩
  rw [← hq, ← hmm, ← hg] at R
  rw [← hq] at hQ
  rw [← hg, hrv, ← hmm] at hE
  simp only [show ((16 : Nat) : Int) = 16 from rfl] at hE
  rw [hrv, ← hmm] at FX1
  have hL2 := hL (decide (q < (i : Int))) m
  obtain ⟨e1, he1⟩ : ∃ e1, e1 = headE x.name (decide (q < (i : Int))) m := ⟨_, rfl⟩
  rw [← he1] at R hL2
  clear hq hg hr hA hA2 hrow hx hm hmm hB hB' hlen hL hrv he1
  obtain ⟨P, hP⟩ : ∃ P, P = Tryz.prog := ⟨_, rfl⟩
  have HP := hid hP
  have mixed : P.follows .mixedOrders = true := by rw [hP]; kernel_rfl
  have FG : P.funcs[84]? = some Tryz.f84 := by rw [hP]; exact Tryz.func84
  obtain ⟨zRouter, hzRouter⟩ : ∃ z, z = 25 := ⟨_, rfl⟩
  have ty3 := Tryz.underlying3; have ag3 := Tryz.isAgg3; have sz3 := Tryz.sizeOf3; have ru3 := Tryz.runUnderlying3
  have ty4 := Tryz.underlying4; have ag4 := Tryz.isAgg4; have sz4 := Tryz.sizeOf4; have ru4 := Tryz.runUnderlying4
  have ty9 := Tryz.underlying9; have ag9 := Tryz.isAgg9; have sz9 := Tryz.sizeOf9; have ru9 := Tryz.runUnderlying9
  have ty41 := Tryz.underlying41; have ag41 := Tryz.isAgg41; have sz41 := Tryz.sizeOf41; have ru41 := Tryz.runUnderlying41
  rw [← hzRouter] at sz41
  have ty43 := Tryz.underlying43; have ag43 := Tryz.isAgg43; have sz43 := Tryz.sizeOf43; have ru43 := Tryz.runUnderlying43
  have ty65 := Tryz.underlying68; have ag65 := Tryz.isAgg68; have sz65 := Tryz.sizeOf68; have ru65 := Tryz.runUnderlying68
  have ty67 := Tryz.underlying70; have ag67 := Tryz.isAgg70; have sz67 := Tryz.sizeOf70; have ru67 := Tryz.runUnderlying70
  have ty147 := Tryz.underlying128; have ag147 := Tryz.isAgg128; have sz147 := Tryz.sizeOf128; have ru147 := Tryz.runUnderlying128
  have en0 : ∀ args w, (callFunc 85 args).run Tryz.prog w = .ok (.enter 85 args) w := enters_of Tryz.func85 (by kernel_rfl) rfl
  have en1 : ∀ args w, (callFunc 86 args).run Tryz.prog w = .ok (.enter 86 args) w := enters_of Tryz.func86 (by kernel_rfl) rfl
  have en2 : ∀ args w, (callFunc 71 args).run Tryz.prog w = .ok (.enter 71 args) w := enters_of Tryz.func71 (by kernel_rfl) rfl
  rw [← hP] at ty3 ag3 sz3 ru3 ty4 ag4 sz4 ru4 ty9 ag9 sz9 ru9 ty41 ag41 sz41 ru41 ty43 ag43 sz43 ru43 ty65 ag65 sz65 ru65 ty67 ag67 sz67 ru67 ty147 ag147 sz147 ru147 en0 en1 en2 hL2 hQ hE ⊢
  clear hP
  have LS : ∀ v : World, Below w1.heap.size w1 v → Sem.run P (loadCellsFrom ⟨B, 0, none⟩ 0 zRouter #[]) v = .ok A v := fun v h => ld_box P (KS v h) (by rw [hzRouter]; exact hAs)
  clear KX KS hzRouter
  have uFX0 := fun u : Later w1.heap.size w1 => FX0 u.w u.h
  have uFX1 := fun u : Later w1.heap.size w1 => FX1 u.w u.h
  have uLS := fun u : Later w1.heap.size w1 => LS u.w u.h
  go_enter FG, Tryz.ntmps84
  repeat' (first | go_skip | go_guarded | go_step | go_upon)
  refine wp_region_base w1 (by assumption) (by first | assumption | kernel_rfl) (by kernel_rfl) ?_
  repeat (go_big_quiet_step (first | (go_at_call 85; with_reducible exact later_of (Nat.le_refl _) (hQ _ (Later.h _))) | (go_at_call 71; with_reducible exact later_same (hL2 _))))
  refine wpQuiet_nil ?_
  rintro _ ⟨u, rfl⟩
  have bu := u.h
  repeat' (first | (go_at_call 86; with_reducible refine (hE _ (by assumption)).mono ?_; rintro e w' ⟨rfl, b⟩; have b' := then_ (w := w1) (by assumption) b; clear b; try dsimp only) | go_skip | go_guarded | go_step | go_upon)
  all_goals go_ret
  all_goals exact ⟨ret_int (by rw [R.out]; unfold thenE; simp_all), then_ HX.out (by assumption)⟩

set_option maxHeartbeats 1000000 in
theorem chkAcls (r : Rtr) (w : World) (hr : RtrIn w r) :
    Calls Tryz.prog 21 #[.agg (eRtr r).toArray] w fun e w' => e = .returned (.int .i64 (aclsE r.acls)) ∧ Below w.heap.size w w' := by
  have hB : (w.alloc (.cells (eRtr r).toArray 41)).heap[w.heap.size]? = some (.cells (eRtr r).toArray 41 (0, 0)) := heap_new _ _
  have hc := eachAcl r.vAcls r.acls 8 (aclE r.acls) 84 #[.pointer (some ⟨w.heap.size, 0, none⟩)] (enters_of Tryz.func84 (by kernel_rfl) rfl) (w.alloc (.cells (eRtr r).toArray 41)) (rows_keep hr.acls.row (new_below _ _)) hr.acls.len
    (fun x hx => eAcl_one (hr.aclsR x hx)) (fun W i x hx hbw => clAcls r i x _ W (hr.keep (then_ (new_below _ _) hbw)) (blk_keep hB hbw) hx)
  have R := hid (show aclsE r.acls = eachE 8 (aclE r.acls) r.acls from rfl)
  obtain ⟨e0, he⟩ : ∃ e0, e0 = eachE 8 (aclE r.acls) r.acls := ⟨_, rfl⟩
  rw [← he] at hc R
  obtain ⟨v0, hv⟩ : ∃ v0, v0 = r.vAcls := ⟨_, rfl⟩
  obtain ⟨X, hX⟩ : ∃ X, X = (eRtr r).toArray := ⟨_, rfl⟩
  obtain ⟨w1, hw1⟩ : ∃ w1, w.alloc (.cells X 41) = w1 := ⟨_, rfl⟩
  have hhX : w1.heap[w.heap.size]? = some (.cells X 41 (0, 0)) := by rw [← hw1, heap_new]
  have FX5 : ∀ v : World, Below w1.heap.size w1 v → v.cell? ⟨w.heap.size, 5, none⟩ = some (r.vAcls) := fun v h => box_at (blk_keep hhX h) (by rw [hX]; rfl)
  have GX : Below w1.heap.size w1 w1 := Below.refl _ _
  have HX := hid (show Below w.heap.size w w1 by rw [← hw1]; exact new_below _ _)
  have hX' := hid hX
  try rw [← hX]
  clear hX hhX
  rw [← hX'.out, hw1] at hc
  rw [← hv, show ((8 : Nat) : Int) = 8 from rfl] at hc
  rw [← hv] at FX5
  clear hB hr he hv
  go_enter Tryz.func21, Tryz.ntmps21
  repeat' (first | (go_at_call 83; with_reducible refine (hc).mono ?_; rintro e w' ⟨rfl, b⟩; have b' := then_ (w := w1) (by assumption) b; clear b; try dsimp only) | go_skip | go_guarded | go_step | go_upon)
  go_ret
  exact ⟨ret_int R.out.symm, then_ HX.out (by assumption)⟩
end Go.Proofs.YtlhbfpapmolohaaGreat.Mw
