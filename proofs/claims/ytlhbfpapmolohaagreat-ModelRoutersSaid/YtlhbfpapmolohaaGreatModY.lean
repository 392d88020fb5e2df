/-
  THE CONTRACTS OF model's CHECKS OF THE SECTIONS OF A ROUTER, SECOND PART: identity, route maps, translations, filters, static routes.
-/
import Derived.Test.YtlhbfpapmolohaaGreatModX
namespace Go.Proofs.YtlhbfpapmolohaaGreat.Mw
set_option linter.unusedSimpArgs false
set_option linter.unusedVariables false
open Go.RowKit Kt Mm Mp

set_option maxHeartbeats 1000000 in
theorem chkId (r : Rtr) (w : World) (hr : RtrIn w r) :
    Calls Tryz.prog 17 #[.agg (eRtr r).toArray] w fun e w' => e = .returned (.int .i64 (idE r)) ∧ Below w.heap.size w w' := by
  have hN := nmC hr.name
  obtain ⟨X, hX⟩ : ∃ X, X = (eRtr r).toArray := ⟨_, rfl⟩
  obtain ⟨w1, hw1⟩ : ∃ w1, w.alloc (.cells X 41) = w1 := ⟨_, rfl⟩
  have hhX : w1.heap[w.heap.size]? = some (.cells X 41 (0, 0)) := by rw [← hw1, heap_new]
  have FX0 : ∀ v : World, Below w1.heap.size w1 v → v.cell? ⟨w.heap.size, 0, none⟩ = some (.string r.name) := fun v h => box_at (blk_keep hhX h) (by rw [hX]; rfl)
  have FX1 : ∀ v : World, Below w1.heap.size w1 v → v.cell? ⟨w.heap.size, 1, none⟩ = some (.int .i64 r.asn) := fun v h => box_at (blk_keep hhX h) (by rw [hX]; rfl)
  have GX : Below w1.heap.size w1 w1 := Below.refl _ _
  have HX := hid (show Below w.heap.size w w1 by rw [← hw1]; exact new_below _ _)
  have hX' := hid hX
  try rw [← hX]
  clear hX hhX
  clear hr
  go_enter Tryz.func17, Tryz.ntmps17
  repeat' (first | (go_at_call 63; with_reducible refine (hN _).mono ?_; rintro e w' ⟨rfl, rfl⟩; try dsimp only) | (go_at_call 64; with_reducible refine (within _ _ _ _).mono ?_; rintro e w' ⟨rfl, rfl⟩; try dsimp only) | go_skip | go_guarded | go_step | go_upon)
  all_goals go_ret
  all_goals exact ⟨ret_int (by unfold idE; simp_all), HX.out⟩

set_option maxHeartbeats 2000000 in
theorem clCla (r : Rtr) (j : Nat) (c : Cla) (B : Nat) (w : World) (hr : RtrIn w r) (hB : w.heap[B]? = some (.cells (eRtr r).toArray 41 (0, 0))) :
    Calls Tryz.prog 80 #[.int .i64 (j : Int), .agg (eCla c).toArray, .pointer (some ⟨B, 0, none⟩)] w fun e w' => e = .returned (.int .i64 (claE r.lists c)) ∧ Below w.heap.size w w' := by
  obtain ⟨A, hA⟩ : ∃ A, A = (eRtr r).toArray := ⟨_, rfl⟩
  have hA3 : A[3]? = some r.vLists := by rw [hA]; rfl
  have hAs : A.size = 25 := by rw [hA]; rfl
  rw [← hA] at hB
  have hF := fun wx => fitsClause c wx
  obtain ⟨X, hX⟩ : ∃ X, X = (eCla c).toArray := ⟨_, rfl⟩
  obtain ⟨w1, hw1⟩ : ∃ w1, w.alloc (.cells X 114) = w1 := ⟨_, rfl⟩
  have hhX : w1.heap[w.heap.size]? = some (.cells X 114 (0, 0)) := by rw [← hw1, heap_new]
  have FX1 : ∀ v : World, Below w1.heap.size w1 v → v.cell? ⟨w.heap.size, 1, none⟩ = some (.string c.lst) := fun v h => box_at (blk_keep hhX h) (by rw [hX]; rfl)
  have KX : ∀ v : World, Below w1.heap.size w1 v → v.heap[w.heap.size]? = some (.cells X 114 (0, 0)) := fun v h => blk_keep hhX h
  have GX : Below w1.heap.size w1 w1 := Below.refl _ _
  have HX := hid (show Below w.heap.size w w1 by rw [← hw1]; exact new_below _ _)
  have hX' := hid hX
  try rw [← hX]
  clear hX hhX
  have KS : ∀ v : World, Below w1.heap.size w1 v → v.heap[B]? = some (.cells A 41 (0, 0)) := fun v h => by rw [← hB]; exact (Below.block h _ (Nat.lt_of_lt_of_le (blk_lt hB) HX.out.size)).trans (HX.out.block _ (blk_lt hB))
  have S3 : ∀ v : World, Below w1.heap.size w1 v → v.cell? ⟨B, 3, none⟩ = some (r.vLists) := fun v h => box_at (KS v h) (by exact hA3)
  have hrow := hr.lists.row
  have hlen := hr.lists.len
  have hU := fun wx (h : Below w1.heap.size w1 wx) => isUnk A c.lst (liIx r.lists c.lst) 72 (enters_of Tryz.func72 (by kernel_rfl) rfl) wx hAs (fun W hb => lkPList A r.vLists r.lists c.lst W hA3 (rows_keep hrow (then_ (then_ HX.out h) hb)) hlen)
  rw [← hX'.out] at hF
  obtain ⟨u1, hu1⟩ : ∃ u1, u1 = unk c.lst (liIx r.lists c.lst) := ⟨_, rfl⟩
  obtain ⟨f1, hf1⟩ : ∃ f1, f1 = claOk c := ⟨_, rfl⟩
  have R := hid (show claE r.lists c = if u1 then 5 else if !f1 then 1 else 0 by rw [hu1, hf1]; rfl)
  rw [← hu1] at hU
  rw [← hf1] at hF
  clear hu1 hf1 hA hA3 hrow hr hB hlen
  obtain ⟨P, hP⟩ : ∃ P, P = Tryz.prog := ⟨_, rfl⟩
  have HP := hid hP
  have mixed : P.follows .mixedOrders = true := by rw [hP]; kernel_rfl
  have FG : P.funcs[80]? = some Tryz.f80 := by rw [hP]; exact Tryz.func80
  obtain ⟨zRouter, hzRouter⟩ : ∃ z, z = 25 := ⟨_, rfl⟩
  obtain ⟨zClause, hzClause⟩ : ∃ z, z = 7 := ⟨_, rfl⟩
  have ty4 := Tryz.underlying4; have ag4 := Tryz.isAgg4; have sz4 := Tryz.sizeOf4; have ru4 := Tryz.runUnderlying4
  have ty9 := Tryz.underlying9; have ag9 := Tryz.isAgg9; have sz9 := Tryz.sizeOf9; have ru9 := Tryz.runUnderlying9
  have ty41 := Tryz.underlying41; have ag41 := Tryz.isAgg41; have sz41 := Tryz.sizeOf41; have ru41 := Tryz.runUnderlying41
  rw [← hzRouter] at sz41
  have ty55 := Tryz.underlying54; have ag55 := Tryz.isAgg54; have sz55 := Tryz.sizeOf54; have ru55 := Tryz.runUnderlying54
  have ty133 := Tryz.underlying114; have ag133 := Tryz.isAgg114; have sz133 := Tryz.sizeOf114; have ru133 := Tryz.runUnderlying114
  rw [← hzClause] at sz133
  have en0 : ∀ args w, (callFunc 82 args).run Tryz.prog w = .ok (.enter 82 args) w := enters_of Tryz.func82 (by kernel_rfl) rfl
  have en1 : ∀ args w, (callFunc 81 args).run Tryz.prog w = .ok (.enter 81 args) w := enters_of Tryz.func81 (by kernel_rfl) rfl
  rw [← hP] at ty4 ag4 sz4 ru4 ty9 ag9 sz9 ru9 ty41 ag41 sz41 ru41 ty55 ag55 sz55 ru55 ty133 ag133 sz133 ru133 en0 en1 hF hU ⊢
  clear hP
  have LX : ∀ v : World, Below w1.heap.size w1 v → Sem.run P (loadCellsFrom ⟨w.heap.size, 0, none⟩ 0 zClause #[]) v = .ok X v := fun v h => ld_box P (KX v h) (by rw [hzClause]; exact (by rw [hX'.out]; rfl))
  have LS : ∀ v : World, Below w1.heap.size w1 v → Sem.run P (loadCellsFrom ⟨B, 0, none⟩ 0 zRouter #[]) v = .ok A v := fun v h => ld_box P (KS v h) (by rw [hzRouter]; exact hAs)
  clear KX KS hzRouter hzClause
  go_enter FG, Tryz.ntmps80
  repeat' (first | (go_at_call 81; with_reducible refine (hU _ (by assumption)).mono ?_; rintro e w' ⟨rfl, b⟩; have b' := then_ (w := w1) (by assumption) b; clear b; try dsimp only) | (go_at_call 82; with_reducible refine (hF _).mono ?_; rintro e w' ⟨rfl, b⟩; have b' := then_ (w := w1) (by assumption) b; clear b; try dsimp only) | go_skip | go_guarded | go_step | go_upon)
  all_goals go_ret
  all_goals exact ⟨ret_int (by rw [R.out]; simp_all), then_ HX.out (by assumption)⟩

set_option maxHeartbeats 2000000 in
theorem clTran (r : Rtr) (j : Nat) (x : Tran) (B : Nat) (w : World) (hr : RtrIn w r) (hB : w.heap[B]? = some (.cells (eRtr r).toArray 41 (0, 0))) (hx : low x.ins ∧ low x.outs ∧ low x.lo ∧ low x.hi) :
    Calls Tryz.prog 90 #[.int .i64 (j : Int), .agg (eTran x).toArray, .pointer (some ⟨B, 0, none⟩)] w fun e w' => e = .returned (.int .i64 (tranE r.acls x)) ∧ Below w.heap.size w w' := by
  obtain ⟨A, hA⟩ : ∃ A, A = (eRtr r).toArray := ⟨_, rfl⟩
  have hA5 : A[5]? = some r.vAcls := by rw [hA]; rfl
  have hAs : A.size = 25 := by rw [hA]; rfl
  rw [← hA] at hB
  have hF := fun wx => fitsTran x wx hx.1 hx.2.1 hx.2.2.1 hx.2.2.2
  obtain ⟨X, hX⟩ : ∃ X, X = (eTran x).toArray := ⟨_, rfl⟩
  obtain ⟨w1, hw1⟩ : ∃ w1, w.alloc (.cells X 85) = w1 := ⟨_, rfl⟩
  have hhX : w1.heap[w.heap.size]? = some (.cells X 85 (0, 0)) := by rw [← hw1, heap_new]
  have FX0 : ∀ v : World, Below w1.heap.size w1 v → v.cell? ⟨w.heap.size, 0, none⟩ = some (.int .i64 x.kind) := fun v h => box_at (blk_keep hhX h) (by rw [hX]; rfl)
  have FX6 : ∀ v : World, Below w1.heap.size w1 v → v.cell? ⟨w.heap.size, 6, none⟩ = some (.string x.lst) := fun v h => box_at (blk_keep hhX h) (by rw [hX]; rfl)
  have KX : ∀ v : World, Below w1.heap.size w1 v → v.heap[w.heap.size]? = some (.cells X 85 (0, 0)) := fun v h => blk_keep hhX h
  have GX : Below w1.heap.size w1 w1 := Below.refl _ _
  have HX := hid (show Below w.heap.size w w1 by rw [← hw1]; exact new_below _ _)
  have hX' := hid hX
  try rw [← hX]
  clear hX hhX
  have KS : ∀ v : World, Below w1.heap.size w1 v → v.heap[B]? = some (.cells A 41 (0, 0)) := fun v h => by rw [← hB]; exact (Below.block h _ (Nat.lt_of_lt_of_le (blk_lt hB) HX.out.size)).trans (HX.out.block _ (blk_lt hB))
  have S5 : ∀ v : World, Below w1.heap.size w1 v → v.cell? ⟨B, 5, none⟩ = some (r.vAcls) := fun v h => box_at (KS v h) (by exact hA5)
  have hrow := hr.acls.row
  have hlen := hr.acls.len
  have hQ := fun wx (h : Below w1.heap.size w1 wx) => lkAcl A r.vAcls r.acls x.lst wx hA5 (rows_keep hrow (then_ HX.out h)) hlen
  rw [← hX'.out] at hF
  obtain ⟨q, hq⟩ : ∃ q, q = ixB (fun y : Acl => y.name.toList == x.lst.toList) r.acls := ⟨_, rfl⟩
  obtain ⟨f1, hf1⟩ : ∃ f1, f1 = tranOk x := ⟨_, rfl⟩
  have R := hid (show tranE r.acls x = if !f1 then 1 else if decide (x.kind = 2) && decide (q < 0) then 5 else 0 by rw [hq, hf1]; rfl)
  rw [← hq] at hQ
  rw [← hf1] at hF
  clear hq hf1 hA hA5 hrow hr hB hlen hx
  obtain ⟨P, hP⟩ : ∃ P, P = Tryz.prog := ⟨_, rfl⟩
  have HP := hid hP
  have mixed : P.follows .mixedOrders = true := by rw [hP]; kernel_rfl
  have FG : P.funcs[90]? = some Tryz.f90 := by rw [hP]; exact Tryz.func90
  obtain ⟨zRouter, hzRouter⟩ : ∃ z, z = 25 := ⟨_, rfl⟩
  obtain ⟨zTranslation, hzTranslation⟩ : ∃ z, z = 9 := ⟨_, rfl⟩
  have ty3 := Tryz.underlying3; have ag3 := Tryz.isAgg3; have sz3 := Tryz.sizeOf3; have ru3 := Tryz.runUnderlying3
  have ty4 := Tryz.underlying4; have ag4 := Tryz.isAgg4; have sz4 := Tryz.sizeOf4; have ru4 := Tryz.runUnderlying4
  have ty9 := Tryz.underlying9; have ag9 := Tryz.isAgg9; have sz9 := Tryz.sizeOf9; have ru9 := Tryz.runUnderlying9
  have ty41 := Tryz.underlying41; have ag41 := Tryz.isAgg41; have sz41 := Tryz.sizeOf41; have ru41 := Tryz.runUnderlying41
  rw [← hzRouter] at sz41
  have ty95 := Tryz.underlying85; have ag95 := Tryz.isAgg85; have sz95 := Tryz.sizeOf85; have ru95 := Tryz.runUnderlying85
  rw [← hzTranslation] at sz95
  have en0 : ∀ args w, (callFunc 85 args).run Tryz.prog w = .ok (.enter 85 args) w := enters_of Tryz.func85 (by kernel_rfl) rfl
  have en1 : ∀ args w, (callFunc 91 args).run Tryz.prog w = .ok (.enter 91 args) w := enters_of Tryz.func91 (by kernel_rfl) rfl
  rw [← hP] at ty3 ag3 sz3 ru3 ty4 ag4 sz4 ru4 ty9 ag9 sz9 ru9 ty41 ag41 sz41 ru41 ty95 ag95 sz95 ru95 en0 en1 hF hQ ⊢
  clear hP
  have LX : ∀ v : World, Below w1.heap.size w1 v → Sem.run P (loadCellsFrom ⟨w.heap.size, 0, none⟩ 0 zTranslation #[]) v = .ok X v := fun v h => ld_box P (KX v h) (by rw [hzTranslation]; exact (by rw [hX'.out]; rfl))
  have LS : ∀ v : World, Below w1.heap.size w1 v → Sem.run P (loadCellsFrom ⟨B, 0, none⟩ 0 zRouter #[]) v = .ok A v := fun v h => ld_box P (KS v h) (by rw [hzRouter]; exact hAs)
  clear KX KS hzRouter hzTranslation
  go_enter FG, Tryz.ntmps90
  repeat' (first | (go_at_call 85; with_reducible refine (hQ _ (by assumption)).mono ?_; rintro e w' ⟨rfl, b⟩; have b' := then_ (w := w1) (by assumption) b; clear b; try dsimp only) | (go_at_call 91; with_reducible refine (hF _).mono ?_; rintro e w' ⟨rfl, b⟩; have b' := then_ (w := w1) (by assumption) b; clear b; try dsimp only) | go_skip | go_guarded | go_step | go_upon)
  all_goals go_ret
  all_goals exact ⟨ret_int (by rw [R.out]; simp_all), then_ HX.out (by assumption)⟩

set_option maxHeartbeats 2000000 in
theorem clFilt (r : Rtr) (j : Nat) (x : Ifc) (B : Nat) (w : World) (hr : RtrIn w r) (hB : w.heap[B]? = some (.cells (eRtr r).toArray 41 (0, 0))) :
    Calls Tryz.prog 92 #[.int .i64 (j : Int), .agg (eIfc x).toArray, .pointer (some ⟨B, 0, none⟩)] w fun e w' => e = .returned (.int .i64 (filtE r.acls x)) ∧ Below w.heap.size w w' := by
  obtain ⟨A, hA⟩ : ∃ A, A = (eRtr r).toArray := ⟨_, rfl⟩
  have hA5 : A[5]? = some r.vAcls := by rw [hA]; rfl
  have hAs : A.size = 25 := by rw [hA]; rfl
  rw [← hA] at hB
  obtain ⟨X, hX⟩ : ∃ X, X = (eIfc x).toArray := ⟨_, rfl⟩
  obtain ⟨w1, hw1⟩ : ∃ w1, w.alloc (.cells X 53) = w1 := ⟨_, rfl⟩
  have hhX : w1.heap[w.heap.size]? = some (.cells X 53 (0, 0)) := by rw [← hw1, heap_new]
  have FX9 : ∀ v : World, Below w1.heap.size w1 v → v.cell? ⟨w.heap.size, 9, none⟩ = some (.string x.inn) := fun v h => box_at (blk_keep hhX h) (by rw [hX]; rfl)
  have FX10 : ∀ v : World, Below w1.heap.size w1 v → v.cell? ⟨w.heap.size, 10, none⟩ = some (.string x.out) := fun v h => box_at (blk_keep hhX h) (by rw [hX]; rfl)
  have GX : Below w1.heap.size w1 w1 := Below.refl _ _
  have HX := hid (show Below w.heap.size w w1 by rw [← hw1]; exact new_below _ _)
  have hX' := hid hX
  try rw [← hX]
  clear hX hhX
  have KS : ∀ v : World, Below w1.heap.size w1 v → v.heap[B]? = some (.cells A 41 (0, 0)) := fun v h => by rw [← hB]; exact (Below.block h _ (Nat.lt_of_lt_of_le (blk_lt hB) HX.out.size)).trans (HX.out.block _ (blk_lt hB))
  have S5 : ∀ v : World, Below w1.heap.size w1 v → v.cell? ⟨B, 5, none⟩ = some (r.vAcls) := fun v h => box_at (KS v h) (by exact hA5)
  have hrow := hr.acls.row
  have hlen := hr.acls.len
  have hU := fun s wx (h : Below w1.heap.size w1 wx) => isUnk A s (acIx r.acls s) 85 (enters_of Tryz.func85 (by kernel_rfl) rfl) wx hAs (fun W hb => lkAcl A r.vAcls r.acls s W hA5 (rows_keep hrow (then_ (then_ HX.out h) hb)) hlen)
  have hU1 := hU x.inn
  have hU2 := hU x.out
  obtain ⟨u1, hu1⟩ : ∃ u1, u1 = unk x.inn (acIx r.acls x.inn) := ⟨_, rfl⟩
  obtain ⟨u2, hu2⟩ : ∃ u2, u2 = unk x.out (acIx r.acls x.out) := ⟨_, rfl⟩
  have R := hid (show filtE r.acls x = if u1 || u2 then 5 else 0 by rw [hu1, hu2]; rfl)
  rw [← hu1] at hU1
  rw [← hu2] at hU2
  obtain ⟨n1, hn1⟩ : ∃ n1, n1 = x.inn := ⟨_, rfl⟩
  obtain ⟨n2, hn2⟩ : ∃ n2, n2 = x.out := ⟨_, rfl⟩
  rw [← hn1] at hU1 FX9
  rw [← hn2] at hU2 FX10
  clear hu1 hu2 hn1 hn2 hA hA5 hrow hr hB hlen hU
  obtain ⟨P, hP⟩ : ∃ P, P = Tryz.prog := ⟨_, rfl⟩
  have HP := hid hP
  have mixed : P.follows .mixedOrders = true := by rw [hP]; kernel_rfl
  have FG : P.funcs[92]? = some Tryz.f92 := by rw [hP]; exact Tryz.func92
  obtain ⟨zRouter, hzRouter⟩ : ∃ z, z = 25 := ⟨_, rfl⟩
  have ty9 := Tryz.underlying9; have ag9 := Tryz.isAgg9; have sz9 := Tryz.sizeOf9; have ru9 := Tryz.runUnderlying9
  have ty41 := Tryz.underlying41; have ag41 := Tryz.isAgg41; have sz41 := Tryz.sizeOf41; have ru41 := Tryz.runUnderlying41
  rw [← hzRouter] at sz41
  have ty54 := Tryz.underlying53; have ag54 := Tryz.isAgg53; have sz54 := Tryz.sizeOf53; have ru54 := Tryz.runUnderlying53
  have ty55 := Tryz.underlying54; have ag55 := Tryz.isAgg54; have sz55 := Tryz.sizeOf54; have ru55 := Tryz.runUnderlying54
  have en0 : ∀ args w, (callFunc 81 args).run Tryz.prog w = .ok (.enter 81 args) w := enters_of Tryz.func81 (by kernel_rfl) rfl
  rw [← hP] at ty9 ag9 sz9 ru9 ty41 ag41 sz41 ru41 ty54 ag54 sz54 ru54 ty55 ag55 sz55 ru55 en0 hU1 hU2 ⊢
  clear hP
  have LS : ∀ v : World, Below w1.heap.size w1 v → Sem.run P (loadCellsFrom ⟨B, 0, none⟩ 0 zRouter #[]) v = .ok A v := fun v h => ld_box P (KS v h) (by rw [hzRouter]; exact hAs)
  clear KS hzRouter
  go_enter FG, Tryz.ntmps92
  repeat' (first | (go_at_call 81; with_reducible refine (hU1 _ (by assumption)).mono ?_; rintro e w' ⟨rfl, b⟩; have b' := then_ (w := w1) (by assumption) b; clear b; try dsimp only) | (go_at_call 81; with_reducible refine (hU2 _ (by assumption)).mono ?_; rintro e w' ⟨rfl, b⟩; have b' := then_ (w := w1) (by assumption) b; clear b; try dsimp only) | go_skip | go_guarded | go_step | go_upon)
  all_goals go_ret
  all_goals exact ⟨ret_int (by rw [R.out]; simp_all), then_ HX.out (by assumption)⟩


set_option maxHeartbeats 2000000 in
theorem clMaps (r : Rtr) (i : Nat) (x : RMap) (B : Nat) (w : World) (hr : RtrIn w r) (hB : w.heap[B]? = some (.cells (eRtr r).toArray 41 (0, 0))) (hx : r.maps[i]? = some x) :
    Calls Tryz.prog 77 #[.int .i64 (i : Int), .agg (eRMap x).toArray, .pointer (some ⟨B, 0, none⟩)] w fun e w' => e = .returned (.int .i64 (rmapE r.lists r.maps i x)) ∧ Below w.heap.size w w' := by
  have hm := get_mem hx
  have hL := fun (t : Bool) (n : Nat) wx => checkList x.name t n wx (hr.mapsN x hm)
  have hB' := hB
  obtain ⟨A, hA⟩ : ∃ A, A = (eRtr r).toArray := ⟨_, rfl⟩
  have hA2 : A[4]? = some r.vMaps := by rw [hA]; rfl
  have hAs : A.size = 25 := by rw [hA]; rfl
  rw [← hA] at hB
  obtain ⟨ra, rcap, hrv, _, _⟩ := rows_open (z := 7) (by decide) (hr.mapsR x hm).row
  obtain ⟨X, hX⟩ : ∃ X, X = (eRMap x).toArray := ⟨_, rfl⟩
  obtain ⟨w1, hw1⟩ : ∃ w1, w.alloc (.cells X 67) = w1 := ⟨_, rfl⟩
  have hhX : w1.heap[w.heap.size]? = some (.cells X 67 (0, 0)) := by rw [← hw1, heap_new]
  have FX0 : ∀ v : World, Below w1.heap.size w1 v → v.cell? ⟨w.heap.size, 0, none⟩ = some (.string x.name) := fun v h => box_at (blk_keep hhX h) (by rw [hX]; rfl)
  have FX1 : ∀ v : World, Below w1.heap.size w1 v → v.cell? ⟨w.heap.size, 1, none⟩ = some (x.v) := fun v h => box_at (blk_keep hhX h) (by rw [hX]; rfl)
  have KX : ∀ v : World, Below w1.heap.size w1 v → v.heap[w.heap.size]? = some (.cells X 67 (0, 0)) := fun v h => blk_keep hhX h
  have GX : Below w1.heap.size w1 w1 := Below.refl _ _
  have HX := hid (show Below w.heap.size w w1 by rw [← hw1]; exact new_below _ _)
  have hX' := hid hX
  try rw [← hX]
  clear hX hhX
  have KS : ∀ v : World, Below w1.heap.size w1 v → v.heap[B]? = some (.cells A 41 (0, 0)) := fun v h => by rw [← hB]; exact (Below.block h _ (Nat.lt_of_lt_of_le (blk_lt hB) HX.out.size)).trans (HX.out.block _ (blk_lt hB))
  have S4 : ∀ v : World, Below w1.heap.size w1 v → v.cell? ⟨B, 4, none⟩ = some (r.vMaps) := fun v h => box_at (KS v h) (by exact hA2)
  have hrow := hr.maps.row
  have hlen := hr.maps.len
  have hQ := fun wx (h : Below w1.heap.size w1 wx) => lkRMap A r.vMaps r.maps x.name wx hA2 (rows_keep hrow (then_ HX.out h)) hlen
  have hE := fun wx (h : Below w1.heap.size w1 wx) => eachCla x.v x.clauses 8 (fun _ c => claE r.lists c) 80 #[.pointer (some ⟨B, 0, none⟩)] (enters_of Tryz.func80 (by kernel_rfl) rfl) wx (rows_keep (hr.mapsR x hm).row (then_ HX.out h)) (hr.mapsR x hm).len
    (fun y _ => by simp [eCla, one_str, one_int, one_bool]) (fun W j y hy hbw => clCla r j y B W (hr.keep (then_ (then_ HX.out h) hbw)) (blk_keep hB' (then_ (then_ HX.out h) hbw)))
  have R := hid (show rmapE r.lists r.maps i x = thenE (headE x.name (decide (ixB (fun y : RMap => y.name.toList == x.name.toList) r.maps < (i : Int))) x.clauses.length) (eachE 8 (fun _ c => claE r.lists c) x.clauses) by
    unfold rmapE; rw [ixB_lt hx (by simp)])
  obtain ⟨q, hq⟩ : ∃ q, q = ixB (fun y : RMap => y.name.toList == x.name.toList) r.maps := ⟨_, rfl⟩
  obtain ⟨m, hmm⟩ : ∃ m, m = x.clauses.length := ⟨_, rfl⟩
  obtain ⟨g, hg⟩ : ∃ g, g = eachE 8 (fun _ c => claE r.lists c) x.clauses := ⟨_, rfl⟩
  rw [← hq, ← hmm, ← hg] at R
  rw [← hq] at hQ
  rw [← hg, hrv, ← hmm] at hE
  simp only [show ((8 : Nat) : Int) = 8 from rfl] at hE
  rw [hrv, ← hmm] at FX1
  have hL2 := hL (decide (q < (i : Int))) m
  obtain ⟨e1, he1⟩ : ∃ e1, e1 = headE x.name (decide (q < (i : Int))) m := ⟨_, rfl⟩
  rw [← he1] at R hL2
  clear hq hg hr hA hA2 hrow hx hm hmm hB hB' hlen hL hrv he1
  obtain ⟨P, hP⟩ : ∃ P, P = Tryz.prog := ⟨_, rfl⟩
  have HP := hid hP
  have mixed : P.follows .mixedOrders = true := by rw [hP]; kernel_rfl
  have FG : P.funcs[77]? = some Tryz.f77 := by rw [hP]; exact Tryz.func77
  obtain ⟨zRouter, hzRouter⟩ : ∃ z, z = 25 := ⟨_, rfl⟩
  have ty3 := Tryz.underlying3; have ag3 := Tryz.isAgg3; have sz3 := Tryz.sizeOf3; have ru3 := Tryz.runUnderlying3
  have ty4 := Tryz.underlying4; have ag4 := Tryz.isAgg4; have sz4 := Tryz.sizeOf4; have ru4 := Tryz.runUnderlying4
  have ty9 := Tryz.underlying9; have ag9 := Tryz.isAgg9; have sz9 := Tryz.sizeOf9; have ru9 := Tryz.runUnderlying9
  have ty41 := Tryz.underlying41; have ag41 := Tryz.isAgg41; have sz41 := Tryz.sizeOf41; have ru41 := Tryz.runUnderlying41
  rw [← hzRouter] at sz41
  have ty43 := Tryz.underlying43; have ag43 := Tryz.isAgg43; have sz43 := Tryz.sizeOf43; have ru43 := Tryz.runUnderlying43
  have ty68 := Tryz.underlying65; have ag68 := Tryz.isAgg65; have sz68 := Tryz.sizeOf65; have ru68 := Tryz.runUnderlying65
  have ty70 := Tryz.underlying67; have ag70 := Tryz.isAgg67; have sz70 := Tryz.sizeOf67; have ru70 := Tryz.runUnderlying67
  have ty136 := Tryz.underlying117; have ag136 := Tryz.isAgg117; have sz136 := Tryz.sizeOf117; have ru136 := Tryz.runUnderlying117
  have en0 : ∀ args w, (callFunc 78 args).run Tryz.prog w = .ok (.enter 78 args) w := enters_of Tryz.func78 (by kernel_rfl) rfl
  have en1 : ∀ args w, (callFunc 79 args).run Tryz.prog w = .ok (.enter 79 args) w := enters_of Tryz.func79 (by kernel_rfl) rfl
  have en2 : ∀ args w, (callFunc 71 args).run Tryz.prog w = .ok (.enter 71 args) w := enters_of Tryz.func71 (by kernel_rfl) rfl
  rw [← hP] at ty3 ag3 sz3 ru3 ty4 ag4 sz4 ru4 ty9 ag9 sz9 ru9 ty41 ag41 sz41 ru41 ty43 ag43 sz43 ru43 ty68 ag68 sz68 ru68 ty70 ag70 sz70 ru70 ty136 ag136 sz136 ru136 en0 en1 en2 hL2 hQ hE ⊢
  clear hP
  have LS : ∀ v : World, Below w1.heap.size w1 v → Sem.run P (loadCellsFrom ⟨B, 0, none⟩ 0 zRouter #[]) v = .ok A v := fun v h => ld_box P (KS v h) (by rw [hzRouter]; exact hAs)
  clear KX KS hzRouter
  have uFX0 := fun u : Later w1.heap.size w1 => FX0 u.w u.h
  have uFX1 := fun u : Later w1.heap.size w1 => FX1 u.w u.h
  have uLS := fun u : Later w1.heap.size w1 => LS u.w u.h
  go_enter FG, Tryz.ntmps77
  repeat' (first | go_skip | go_guarded | go_step | go_upon)
  refine wp_region_base w1 (by assumption) (by first | assumption | kernel_rfl) (by kernel_rfl) ?_
  repeat (go_big_quiet_step (first | (go_at_call 78; with_reducible exact later_of (Nat.le_refl _) (hQ _ (Later.h _))) | (go_at_call 71; with_reducible exact later_same (hL2 _))))
  refine wpQuiet_nil ?_
  rintro _ ⟨u, rfl⟩
  have bu := u.h
  repeat' (first | (go_at_call 79; with_reducible refine (hE _ (by assumption)).mono ?_; rintro e w' ⟨rfl, b⟩; have b' := then_ (w := w1) (by assumption) b; clear b; try dsimp only) | go_skip | go_guarded | go_step | go_upon)
  all_goals go_ret
  all_goals exact ⟨ret_int (by rw [R.out]; unfold thenE; simp_all), then_ HX.out (by assumption)⟩

set_option maxHeartbeats 1000000 in
theorem chkMaps (r : Rtr) (w : World) (hr : RtrIn w r) :
    Calls Tryz.prog 20 #[.agg (eRtr r).toArray] w fun e w' => e = .returned (.int .i64 (mapsE r.lists r.maps)) ∧ Below w.heap.size w w' := by
  have hB : (w.alloc (.cells (eRtr r).toArray 41)).heap[w.heap.size]? = some (.cells (eRtr r).toArray 41 (0, 0)) := heap_new _ _
  have hc := eachRMap r.vMaps r.maps 8 (rmapE r.lists r.maps) 77 #[.pointer (some ⟨w.heap.size, 0, none⟩)] (enters_of Tryz.func77 (by kernel_rfl) rfl) (w.alloc (.cells (eRtr r).toArray 41)) (rows_keep hr.maps.row (new_below _ _)) hr.maps.len
    (fun x hx => eRMap_one (hr.mapsR x hx)) (fun W i x hx hbw => clMaps r i x _ W (hr.keep (then_ (new_below _ _) hbw)) (blk_keep hB hbw) hx)
  have R := hid (show mapsE r.lists r.maps = eachE 8 (rmapE r.lists r.maps) r.maps from rfl)
  obtain ⟨e0, he⟩ : ∃ e0, e0 = eachE 8 (rmapE r.lists r.maps) r.maps := ⟨_, rfl⟩
  rw [← he] at hc R
  obtain ⟨v0, hv⟩ : ∃ v0, v0 = r.vMaps := ⟨_, rfl⟩
  obtain ⟨X, hX⟩ : ∃ X, X = (eRtr r).toArray := ⟨_, rfl⟩
  obtain ⟨w1, hw1⟩ : ∃ w1, w.alloc (.cells X 41) = w1 := ⟨_, rfl⟩
  have hhX : w1.heap[w.heap.size]? = some (.cells X 41 (0, 0)) := by rw [← hw1, heap_new]
  have FX4 : ∀ v : World, Below w1.heap.size w1 v → v.cell? ⟨w.heap.size, 4, none⟩ = some (r.vMaps) := fun v h => box_at (blk_keep hhX h) (by rw [hX]; rfl)
  have GX : Below w1.heap.size w1 w1 := Below.refl _ _
  have HX := hid (show Below w.heap.size w w1 by rw [← hw1]; exact new_below _ _)
  have hX' := hid hX
  try rw [← hX]
  clear hX hhX
  rw [← hX'.out, hw1] at hc
  rw [← hv, show ((8 : Nat) : Int) = 8 from rfl] at hc
  rw [← hv] at FX4
  clear hB hr he hv
  go_enter Tryz.func20, Tryz.ntmps20
  repeat' (first | (go_at_call 76; with_reducible refine (hc).mono ?_; rintro e w' ⟨rfl, b⟩; have b' := then_ (w := w1) (by assumption) b; clear b; try dsimp only) | go_skip | go_guarded | go_step | go_upon)
  go_ret
  exact ⟨ret_int R.out.symm, then_ HX.out (by assumption)⟩

set_option maxHeartbeats 1000000 in
theorem chkNat (r : Rtr) (w : World) (hr : RtrIn w r) :
    Calls Tryz.prog 22 #[.agg (eRtr r).toArray] w fun e w' => e = .returned (.int .i64 (natE r.acls r.nat)) ∧ Below w.heap.size w w' := by
  have hB : (w.alloc (.cells (eRtr r).toArray 41)).heap[w.heap.size]? = some (.cells (eRtr r).toArray 41 (0, 0)) := heap_new _ _
  have hc := eachTran r.vNat r.nat 8 (fun _ x => tranE r.acls x) 90 #[.pointer (some ⟨w.heap.size, 0, none⟩)] (enters_of Tryz.func90 (by kernel_rfl) rfl) (w.alloc (.cells (eRtr r).toArray 41)) (rows_keep hr.nat.row (new_below _ _)) hr.nat.len
    (fun x _ => by simp [eTran, one_str, one_int, one_bool]) (fun W i x hx hbw => clTran r i x _ W (hr.keep (then_ (new_below _ _) hbw)) (blk_keep hB hbw) (hr.natA x (get_mem hx)))
  have R := hid (show natE r.acls r.nat = eachE 8 (fun _ x => tranE r.acls x) r.nat from rfl)
  obtain ⟨e0, he⟩ : ∃ e0, e0 = eachE 8 (fun _ x => tranE r.acls x) r.nat := ⟨_, rfl⟩
  rw [← he] at hc R
  obtain ⟨v0, hv⟩ : ∃ v0, v0 = r.vNat := ⟨_, rfl⟩
  obtain ⟨X, hX⟩ : ∃ X, X = (eRtr r).toArray := ⟨_, rfl⟩
  obtain ⟨w1, hw1⟩ : ∃ w1, w.alloc (.cells X 41) = w1 := ⟨_, rfl⟩
  have hhX : w1.heap[w.heap.size]? = some (.cells X 41 (0, 0)) := by rw [← hw1, heap_new]
  have FX6 : ∀ v : World, Below w1.heap.size w1 v → v.cell? ⟨w.heap.size, 6, none⟩ = some (r.vNat) := fun v h => box_at (blk_keep hhX h) (by rw [hX]; rfl)
  have GX : Below w1.heap.size w1 w1 := Below.refl _ _
  have HX := hid (show Below w.heap.size w w1 by rw [← hw1]; exact new_below _ _)
  have hX' := hid hX
  try rw [← hX]
  clear hX hhX
  rw [← hX'.out, hw1] at hc
  rw [← hv, show ((8 : Nat) : Int) = 8 from rfl] at hc
  rw [← hv] at FX6
  clear hB hr he hv
  go_enter Tryz.func22, Tryz.ntmps22
  repeat' (first | (go_at_call 89; with_reducible refine (hc).mono ?_; rintro e w' ⟨rfl, b⟩; have b' := then_ (w := w1) (by assumption) b; clear b; try dsimp only) | go_skip | go_guarded | go_step | go_upon)
  go_ret
  exact ⟨ret_int R.out.symm, then_ HX.out (by assumption)⟩

set_option maxHeartbeats 1000000 in
theorem chkFilt (r : Rtr) (w : World) (hr : RtrIn w r) :
    Calls Tryz.prog 23 #[.agg (eRtr r).toArray] w fun e w' => e = .returned (.int .i64 (filtsE r.acls r.ifs)) ∧ Below w.heap.size w w' := by
  have hB : (w.alloc (.cells (eRtr r).toArray 41)).heap[w.heap.size]? = some (.cells (eRtr r).toArray 41 (0, 0)) := heap_new _ _
  have hc := eachIfc r.vIfs r.ifs 8 (fun _ x => filtE r.acls x) 92 #[.pointer (some ⟨w.heap.size, 0, none⟩)] (enters_of Tryz.func92 (by kernel_rfl) rfl) (w.alloc (.cells (eRtr r).toArray 41)) (rows_keep hr.ifs.row (new_below _ _)) hr.ifs.len
    (fun x _ => by simp [eIfc, one_str, one_int, one_bool]) (fun W i x hx hbw => clFilt r i x _ W (hr.keep (then_ (new_below _ _) hbw)) (blk_keep hB hbw))
  have R := hid (show filtsE r.acls r.ifs = eachE 8 (fun _ x => filtE r.acls x) r.ifs from rfl)
  obtain ⟨e0, he⟩ : ∃ e0, e0 = eachE 8 (fun _ x => filtE r.acls x) r.ifs := ⟨_, rfl⟩
  rw [← he] at hc R
  obtain ⟨v0, hv⟩ : ∃ v0, v0 = r.vIfs := ⟨_, rfl⟩
  obtain ⟨X, hX⟩ : ∃ X, X = (eRtr r).toArray := ⟨_, rfl⟩
  obtain ⟨w1, hw1⟩ : ∃ w1, w.alloc (.cells X 41) = w1 := ⟨_, rfl⟩
  have hhX : w1.heap[w.heap.size]? = some (.cells X 41 (0, 0)) := by rw [← hw1, heap_new]
  have FX2 : ∀ v : World, Below w1.heap.size w1 v → v.cell? ⟨w.heap.size, 2, none⟩ = some (r.vIfs) := fun v h => box_at (blk_keep hhX h) (by rw [hX]; rfl)
  have GX : Below w1.heap.size w1 w1 := Below.refl _ _
  have HX := hid (show Below w.heap.size w w1 by rw [← hw1]; exact new_below _ _)
  have hX' := hid hX
  try rw [← hX]
  clear hX hhX
  rw [← hX'.out, hw1] at hc
  rw [← hv, show ((8 : Nat) : Int) = 8 from rfl] at hc
  rw [← hv] at FX2
  clear hB hr he hv
  go_enter Tryz.func23, Tryz.ntmps23
  repeat' (first | (go_at_call 65; with_reducible refine (hc).mono ?_; rintro e w' ⟨rfl, b⟩; have b' := then_ (w := w1) (by assumption) b; clear b; try dsimp only) | go_skip | go_guarded | go_step | go_upon)
  go_ret
  exact ⟨ret_int R.out.symm, then_ HX.out (by assumption)⟩
end Go.Proofs.YtlhbfpapmolohaaGreat.Mw
