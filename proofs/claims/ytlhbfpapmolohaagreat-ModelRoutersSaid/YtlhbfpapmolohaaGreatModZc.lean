/-
  THE CONTRACTS OF model's CHECKS OF neighbors AND redistributions.
-/
import Derived.Test.YtlhbfpapmolohaaGreatModZb
namespace Go.Proofs.YtlhbfpapmolohaaGreat.Mw
set_option linter.unusedSimpArgs false
set_option linter.unusedVariables false
open Go.RowKit Kt Mm Mp

set_option maxHeartbeats 4000000 in
theorem clNbrs (r : Rtr) (i : Nat) (x : Nbr) (B1 B2 : Nat) (w : World) (hr : RtrIn w r) (hB1 : w.heap[B1]? = some (.cells (eRtr r).toArray 41 (0, 0))) (hB2 : w.heap[B2]? = some (.cells #[r.vNbrs] 34 (0, 0))) (hx : r.nbrs[i]? = some x) :
    Calls Tryz.prog 164 #[.int .i64 (i : Int), .agg (eNbr x).toArray, .pointer (some ⟨B1, 0, none⟩), .pointer (some ⟨B2, 0, none⟩)] w fun e w' => e = .returned (.int .i64 (nbrE r.maps r.nbrs i x)) ∧ Below w.heap.size w w' := by
  have hm := get_mem hx
  obtain ⟨b, off, cap, hv, hcap, hb, hcell⟩ := row_addr (z := 4) (by decide) hr.nbrs.row hx
  have hlt : i < r.nbrs.length := (List.getElem?_eq_some_iff.1 hx).1
  obtain ⟨A, hA⟩ : ∃ A, A = (eRtr r).toArray := ⟨_, rfl⟩
  have hA4 : A[4]? = some r.vMaps := by rw [hA]; rfl
  have hAs : A.size = 25 := by rw [hA]; rfl
  rw [← hA] at hB1
  rw [hv] at hB2
  obtain ⟨X, hX⟩ : ∃ X, X = (eNbr x).toArray := ⟨_, rfl⟩
  obtain ⟨w1, hw1⟩ : ∃ w1, w.alloc (.cells X 156) = w1 := ⟨_, rfl⟩
  have hhX : w1.heap[w.heap.size]? = some (.cells X 156 (0, 0)) := by rw [← hw1, heap_new]
  have FX0 : ∀ v : World, Below w1.heap.size w1 v → v.cell? ⟨w.heap.size, 0, none⟩ = some (.int .u32 (x.addr : Int)) := fun v h => box_at (blk_keep hhX h) (by rw [hX]; rfl)
  have FX1 : ∀ v : World, Below w1.heap.size w1 v → v.cell? ⟨w.heap.size, 1, none⟩ = some (.int .i64 x.asn) := fun v h => box_at (blk_keep hhX h) (by rw [hX]; rfl)
  have FX2 : ∀ v : World, Below w1.heap.size w1 v → v.cell? ⟨w.heap.size, 2, none⟩ = some (.string x.inn) := fun v h => box_at (blk_keep hhX h) (by rw [hX]; rfl)
  have FX3 : ∀ v : World, Below w1.heap.size w1 v → v.cell? ⟨w.heap.size, 3, none⟩ = some (.string x.out) := fun v h => box_at (blk_keep hhX h) (by rw [hX]; rfl)
  have KX : ∀ v : World, Below w1.heap.size w1 v → v.heap[w.heap.size]? = some (.cells X 156 (0, 0)) := fun v h => blk_keep hhX h
  have GX : Below w1.heap.size w1 w1 := Below.refl _ _
  have HX := hid (show Below w.heap.size w w1 by rw [← hw1]; exact new_below _ _)
  have hX' := hid hX
  try rw [← hX]
  clear hX hhX
  have KS : ∀ v : World, Below w1.heap.size w1 v → v.heap[B1]? = some (.cells A 41 (0, 0)) := fun v h => by rw [← hB1]; exact (Below.block h _ (Nat.lt_of_lt_of_le (blk_lt hB1) HX.out.size)).trans (HX.out.block _ (blk_lt hB1))
  have S4 : ∀ v : World, Below w1.heap.size w1 v → v.cell? ⟨B1, 4, none⟩ = some (r.vMaps) := fun v h => box_at (KS v h) (by exact hA4)
  have KV : ∀ v : World, Below w1.heap.size w1 v → v.heap[B2]? = some (.cells #[.slice (some ⟨b, off, none⟩) r.nbrs.length cap] 34 (0, 0)) := fun v h => by rw [← hB2]; exact (Below.block h _ (Nat.lt_of_lt_of_le (blk_lt hB2) HX.out.size)).trans (HX.out.block _ (blk_lt hB2))
  have V0 : ∀ v : World, Below w1.heap.size w1 v → v.cell? ⟨B2, 0, none⟩ = some (.slice (some ⟨b, off, none⟩) r.nbrs.length cap) := fun v h => box_at (KV v h) (by rfl)
  clear KV
  have hrow := hr.maps.row
  have hlen := hr.maps.len
  have hU := fun s wx (h : Below w1.heap.size w1 wx) => isUnk A s (maIx r.maps s) 78 (enters_of Tryz.func78 (by kernel_rfl) rfl) wx hAs (fun W hb => lkRMap A r.vMaps r.maps s W hA4 (rows_keep hrow (then_ (then_ HX.out h) hb)) hlen)
  have hU1 := hU x.inn
  have hU2 := hU x.out
  have hWi := fun n a b wx => within n a b wx
  have hrow2 : IsRow eNbr 4 w (.slice (some ⟨b, off, none⟩) r.nbrs.length cap) r.nbrs := by rw [← hv]; exact hr.nbrs.row
  have hC := fun wx (h : Below w1.heap.size w1 wx) => cfNbr (.slice (some ⟨b, off, none⟩) i cap) (r.nbrs.take i) (fun y => decide (y.addr = x.addr)) 165 #[.pointer (some ⟨w.heap.size, 0, none⟩)] (enters_of Tryz.func165 (by kernel_rfl) rfl) wx (rows_keep (row_take (f := eNbr) (z := 4) (fun _ => rfl) hrow2 rfl (Nat.le_of_lt hlt)) (then_ HX.out h)) (by have := hr.nbrs.len; rw [List.length_take]; omega)
    (fun W y hy hbw => clNbr2 y x w.heap.size W (by rw [KX W (then_ h hbw), hX'.out]))
  obtain ⟨u1, hu1⟩ : ∃ u1, u1 = unk x.inn (maIx r.maps x.inn) := ⟨_, rfl⟩
  obtain ⟨u2, hu2⟩ : ∃ u2, u2 = unk x.out (maIx r.maps x.out) := ⟨_, rfl⟩
  obtain ⟨o, ho⟩ : ∃ o, o = (r.nbrs.take i).any (fun y => decide (y.addr = x.addr)) := ⟨_, rfl⟩
  have R := hid (show nbrE r.maps r.nbrs i x = if decide (x.addr = 0) || !wi x.asn 1 65535 then 1 else if u1 || u2 then 5 else if o then 4 else 0 by rw [hu1, hu2, ho]; rfl)
  rw [← hu1] at hU1
  rw [← hu2] at hU2
  rw [← ho] at hC
  obtain ⟨n1, hn1⟩ : ∃ n1, n1 = x.inn := ⟨_, rfl⟩
  obtain ⟨n2, hn2⟩ : ∃ n2, n2 = x.out := ⟨_, rfl⟩
  rw [← hn1] at hU1 FX2
  rw [← hn2] at hU2 FX3
  have hlen2 := hr.nbrs.len
  obtain ⟨m, hmm⟩ : ∃ m, m = r.nbrs.length := ⟨_, rfl⟩
  rw [← hmm] at V0 hcap hlt hlen2
  have hli : (i : Int) ≤ (cap : Int) := by omega
  have hl0 : (0 : Int) ≤ (i : Int) := by omega
  clear hu1 hu2 hn1 hn2 ho hA hA4 hrow hrow2 hr hB1 hB2 hlen hU KX hx hm hmm hcell hv
  obtain ⟨P, hP⟩ : ∃ P, P = Tryz.prog := ⟨_, rfl⟩
  have HP := hid hP
  have mixed : P.follows .mixedOrders = true := by rw [hP]; kernel_rfl
  have FG : P.funcs[164]? = some Tryz.f164 := by rw [hP]; exact Tryz.func164
  obtain ⟨zRouter, hzRouter⟩ : ∃ z, z = 25 := ⟨_, rfl⟩
  have ty3 := Tryz.underlying3; have ag3 := Tryz.isAgg3; have sz3 := Tryz.sizeOf3; have ru3 := Tryz.runUnderlying3
  have ty4 := Tryz.underlying4; have ag4 := Tryz.isAgg4; have sz4 := Tryz.sizeOf4; have ru4 := Tryz.runUnderlying4
  have ty9 := Tryz.underlying9; have ag9 := Tryz.isAgg9; have sz9 := Tryz.sizeOf9; have ru9 := Tryz.runUnderlying9
  have ty34 := Tryz.underlying34; have ag34 := Tryz.isAgg34; have sz34 := Tryz.sizeOf34; have ru34 := Tryz.runUnderlying34
  have ty41 := Tryz.underlying41; have ag41 := Tryz.isAgg41; have sz41 := Tryz.sizeOf41; have ru41 := Tryz.runUnderlying41
  rw [← hzRouter] at sz41
  have ty52 := Tryz.underlying51; have ag52 := Tryz.isAgg51; have sz52 := Tryz.sizeOf51; have ru52 := Tryz.runUnderlying51
  have ty55 := Tryz.underlying54; have ag55 := Tryz.isAgg54; have sz55 := Tryz.sizeOf54; have ru55 := Tryz.runUnderlying54
  have ty172 := Tryz.underlying156; have ag172 := Tryz.isAgg156; have sz172 := Tryz.sizeOf156; have ru172 := Tryz.runUnderlying156
  have ty202 := Tryz.underlying196; have ag202 := Tryz.isAgg196; have sz202 := Tryz.sizeOf196; have ru202 := Tryz.runUnderlying196
  have en0 : ∀ args w, (callFunc 81 args).run Tryz.prog w = .ok (.enter 81 args) w := enters_of Tryz.func81 (by kernel_rfl) rfl
  have en1 : ∀ args w, (callFunc 64 args).run Tryz.prog w = .ok (.enter 64 args) w := enters_of Tryz.func64 (by kernel_rfl) rfl
  have en2 : ∀ args w, (callFunc 166 args).run Tryz.prog w = .ok (.enter 166 args) w := enters_of Tryz.func166 (by kernel_rfl) rfl
  rw [← hP] at ty3 ag3 sz3 ru3 ty4 ag4 sz4 ru4 ty9 ag9 sz9 ru9 ty34 ag34 sz34 ru34 ty41 ag41 sz41 ru41 ty52 ag52 sz52 ru52 ty55 ag55 sz55 ru55 ty172 ag172 sz172 ru172 ty202 ag202 sz202 ru202 en0 en1 en2 hU1 hU2 hWi hC ⊢
  clear hP
  have LS : ∀ v : World, Below w1.heap.size w1 v → Sem.run P (loadCellsFrom ⟨B1, 0, none⟩ 0 zRouter #[]) v = .ok A v := fun v h => ld_box P (KS v h) (by rw [hzRouter]; exact hAs)
  clear KS hzRouter
  go_enter FG, Tryz.ntmps164
  repeat' (first | (go_at_call 64; with_reducible refine (hWi _ _ _ _).mono ?_; rintro e w' ⟨rfl, rfl⟩; try dsimp only) | (go_at_call 81; with_reducible refine (hU1 _ (by assumption)).mono ?_; rintro e w' ⟨rfl, b⟩; have b' := then_ (w := w1) (by assumption) b; clear b; try dsimp only) | (go_at_call 81; with_reducible refine (hU2 _ (by assumption)).mono ?_; rintro e w' ⟨rfl, b⟩; have b' := then_ (w := w1) (by assumption) b; clear b; try dsimp only) | (go_at_call 166; with_reducible refine (hC _ (by assumption)).mono ?_; rintro e w' ⟨rfl, b⟩; have b' := then_ (w := w1) (by assumption) b; clear b; try dsimp only) | go_skip | go_guarded | go_step | go_upon)
  all_goals go_ret
  all_goals exact ⟨ret_int (by rw [R.out]; simp_all), then_ HX.out (by assumption)⟩

set_option maxHeartbeats 4000000 in
theorem clReds (r : Rtr) (t : Into) (v : Value) (l : List Red) (i : Nat) (x : Red) (B0 B1 B2 : Nat) (w : World) (hr : RtrIn w r) (hl : InRow eRed 5 w v l) (hB0 : w.heap[B0]? = some (.cells (eInto t).toArray 138 (0, 0)))
    (hB1 : w.heap[B1]? = some (.cells (eRtr r).toArray 41 (0, 0))) (hB2 : w.heap[B2]? = some (.cells #[v] 29 (0, 0))) (hx : l[i]? = some x) :
    Calls Tryz.prog 159 #[.int .i64 (i : Int), .agg (eRed x).toArray, .pointer (some ⟨B0, 0, none⟩), .pointer (some ⟨B1, 0, none⟩), .pointer (some ⟨B2, 0, none⟩)] w fun e w' => e = .returned (.int .i64 (redE r.maps t l i x)) ∧ Below w.heap.size w w' := by
  obtain ⟨b, off, cap, rfl, hcap, hb, hcell⟩ := row_addr (z := 5) (by decide) hl.row hx
  have hlt : i < l.length := (List.getElem?_eq_some_iff.1 hx).1
  obtain ⟨A, hA⟩ : ∃ A, A = (eRtr r).toArray := ⟨_, rfl⟩
  have hA4 : A[4]? = some r.vMaps := by rw [hA]; rfl
  have hAs : A.size = 25 := by rw [hA]; rfl
  rw [← hA] at hB1
  have hF := fun wx => tgtFits t x wx
  obtain ⟨X, hX⟩ : ∃ X, X = (eRed x).toArray := ⟨_, rfl⟩
  obtain ⟨w1, hw1⟩ : ∃ w1, w.alloc (.cells X 154) = w1 := ⟨_, rfl⟩
  have hhX : w1.heap[w.heap.size]? = some (.cells X 154 (0, 0)) := by rw [← hw1, heap_new]
  have FX3 : ∀ v : World, Below w1.heap.size w1 v → v.cell? ⟨w.heap.size, 3, none⟩ = some (.string x.mp) := fun v h => box_at (blk_keep hhX h) (by rw [hX]; rfl)
  have KX : ∀ v : World, Below w1.heap.size w1 v → v.heap[w.heap.size]? = some (.cells X 154 (0, 0)) := fun v h => blk_keep hhX h
  have GX : Below w1.heap.size w1 w1 := Below.refl _ _
  have HX := hid (show Below w.heap.size w w1 by rw [← hw1]; exact new_below _ _)
  have hX' := hid hX
  try rw [← hX]
  clear hX hhX
  have KS : ∀ v : World, Below w1.heap.size w1 v → v.heap[B1]? = some (.cells A 41 (0, 0)) := fun v h => by rw [← hB1]; exact (Below.block h _ (Nat.lt_of_lt_of_le (blk_lt hB1) HX.out.size)).trans (HX.out.block _ (blk_lt hB1))
  have S4 : ∀ v : World, Below w1.heap.size w1 v → v.cell? ⟨B1, 4, none⟩ = some (r.vMaps) := fun v h => box_at (KS v h) (by exact hA4)
  have KI : ∀ v : World, Below w1.heap.size w1 v → v.heap[B0]? = some (.cells (eInto t).toArray 138 (0, 0)) := fun v h => by rw [← hB0]; exact (Below.block h _ (Nat.lt_of_lt_of_le (blk_lt hB0) HX.out.size)).trans (HX.out.block _ (blk_lt hB0))
  have I0 : ∀ v : World, Below w1.heap.size w1 v → v.cell? ⟨B0, 0, none⟩ = some (.int .i64 t.proto) := fun v h => box_at (KI v h) (by rfl)
  have I1 : ∀ v : World, Below w1.heap.size w1 v → v.cell? ⟨B0, 1, none⟩ = some (.int .i64 t.least) := fun v h => box_at (KI v h) (by rfl)
  have I2 : ∀ v : World, Below w1.heap.size w1 v → v.cell? ⟨B0, 2, none⟩ = some (.int .i64 t.most) := fun v h => box_at (KI v h) (by rfl)
  have I3 : ∀ v : World, Below w1.heap.size w1 v → v.cell? ⟨B0, 3, none⟩ = some (.int .i64 t.tleast) := fun v h => box_at (KI v h) (by rfl)
  have I4 : ∀ v : World, Below w1.heap.size w1 v → v.cell? ⟨B0, 4, none⟩ = some (.int .i64 t.tmost) := fun v h => box_at (KI v h) (by rfl)
  clear KI
  have KV : ∀ v : World, Below w1.heap.size w1 v → v.heap[B2]? = some (.cells #[.slice (some ⟨b, off, none⟩) l.length cap] 29 (0, 0)) := fun v h => by rw [← hB2]; exact (Below.block h _ (Nat.lt_of_lt_of_le (blk_lt hB2) HX.out.size)).trans (HX.out.block _ (blk_lt hB2))
  have V0 : ∀ v : World, Below w1.heap.size w1 v → v.cell? ⟨B2, 0, none⟩ = some (.slice (some ⟨b, off, none⟩) l.length cap) := fun v h => box_at (KV v h) (by rfl)
  clear KV
  have hrow := hr.maps.row
  have hlen := hr.maps.len
  have hU := fun wx (h : Below w1.heap.size w1 wx) => isUnk A x.mp (maIx r.maps x.mp) 78 (enters_of Tryz.func78 (by kernel_rfl) rfl) wx hAs (fun W hb => lkRMap A r.vMaps r.maps x.mp W hA4 (rows_keep hrow (then_ (then_ HX.out h) hb)) hlen)
  have hC := fun wx (h : Below w1.heap.size w1 wx) => cfRed (.slice (some ⟨b, off, none⟩) i cap) (l.take i) (fun y => decide (y.frm = x.frm)) 160 #[.pointer (some ⟨w.heap.size, 0, none⟩)] (enters_of Tryz.func160 (by kernel_rfl) rfl) wx (rows_keep (row_take (f := eRed) (z := 5) (fun _ => rfl) hl.row rfl (Nat.le_of_lt hlt)) (then_ HX.out h)) (by have := hl.len; rw [List.length_take]; omega)
    (fun W y hy hbw => clRed2 y x w.heap.size W (by rw [KX W (then_ h hbw), hX'.out]))
  rw [← hX'.out] at hF
  simp only [eInto] at hF
  obtain ⟨f1, hf1⟩ : ∃ f1, f1 = redOk t x := ⟨_, rfl⟩
  obtain ⟨u1, hu1⟩ : ∃ u1, u1 = unk x.mp (maIx r.maps x.mp) := ⟨_, rfl⟩
  obtain ⟨o, ho⟩ : ∃ o, o = (l.take i).any (fun y => decide (y.frm = x.frm)) := ⟨_, rfl⟩
  have R := hid (show redE r.maps t l i x = if !f1 then 1 else if u1 then 5 else if o then 4 else 0 by rw [hf1, hu1, ho]; rfl)
  rw [← hf1] at hF
  rw [← hu1] at hU
  rw [← ho] at hC
  have hlen2 := hl.len
  obtain ⟨m, hmm⟩ : ∃ m, m = l.length := ⟨_, rfl⟩
  rw [← hmm] at V0 hcap hlt hlen2
  have hli : (i : Int) ≤ (cap : Int) := by omega
  have hl0 : (0 : Int) ≤ (i : Int) := by omega
  clear hu1 hf1 ho hA hA4 hrow hr hl hB0 hB1 hB2 hlen hx hmm hcell
  obtain ⟨P, hP⟩ : ∃ P, P = Tryz.prog := ⟨_, rfl⟩
  have HP := hid hP
  have mixed : P.follows .mixedOrders = true := by rw [hP]; kernel_rfl
  have FG : P.funcs[159]? = some Tryz.f159 := by rw [hP]; exact Tryz.func159
  obtain ⟨zRouter, hzRouter⟩ : ∃ z, z = 25 := ⟨_, rfl⟩
  obtain ⟨zRedist, hzRedist⟩ : ∃ z, z = 5 := ⟨_, rfl⟩
  have ty4 := Tryz.underlying4; have ag4 := Tryz.isAgg4; have sz4 := Tryz.sizeOf4; have ru4 := Tryz.runUnderlying4
  have ty9 := Tryz.underlying9; have ag9 := Tryz.isAgg9; have sz9 := Tryz.sizeOf9; have ru9 := Tryz.runUnderlying9
  have ty29 := Tryz.underlying29; have ag29 := Tryz.isAgg29; have sz29 := Tryz.sizeOf29; have ru29 := Tryz.runUnderlying29
  have ty41 := Tryz.underlying41; have ag41 := Tryz.isAgg41; have sz41 := Tryz.sizeOf41; have ru41 := Tryz.runUnderlying41
  rw [← hzRouter] at sz41
  have ty55 := Tryz.underlying54; have ag55 := Tryz.isAgg54; have sz55 := Tryz.sizeOf54; have ru55 := Tryz.runUnderlying54
  have ty72 := Tryz.underlying154; have ag72 := Tryz.isAgg154; have sz72 := Tryz.sizeOf154; have ru72 := Tryz.runUnderlying154
  rw [← hzRedist] at sz72
  have ty157 := Tryz.underlying138; have ag157 := Tryz.isAgg138; have sz157 := Tryz.sizeOf138; have ru157 := Tryz.runUnderlying138
  have ty198 := Tryz.underlying192; have ag198 := Tryz.isAgg192; have sz198 := Tryz.sizeOf192; have ru198 := Tryz.runUnderlying192
  have en0 : ∀ args w, (callFunc 161 args).run Tryz.prog w = .ok (.enter 161 args) w := enters_of Tryz.func161 (by kernel_rfl) rfl
  have en1 : ∀ args w, (callFunc 81 args).run Tryz.prog w = .ok (.enter 81 args) w := enters_of Tryz.func81 (by kernel_rfl) rfl
  have en2 : ∀ args w, (callFunc 162 args).run Tryz.prog w = .ok (.enter 162 args) w := enters_of Tryz.func162 (by kernel_rfl) rfl
  rw [← hP] at ty4 ag4 sz4 ru4 ty9 ag9 sz9 ru9 ty29 ag29 sz29 ru29 ty41 ag41 sz41 ru41 ty55 ag55 sz55 ru55 ty72 ag72 sz72 ru72 ty157 ag157 sz157 ru157 ty198 ag198 sz198 ru198 en0 en1 en2 hF hU hC ⊢
  clear hP
  have LX : ∀ v : World, Below w1.heap.size w1 v → Sem.run P (loadCellsFrom ⟨w.heap.size, 0, none⟩ 0 zRedist #[]) v = .ok X v := fun v h => ld_box P (KX v h) (by rw [hzRedist]; exact (by rw [hX'.out]; rfl))
  have LS : ∀ v : World, Below w1.heap.size w1 v → Sem.run P (loadCellsFrom ⟨B1, 0, none⟩ 0 zRouter #[]) v = .ok A v := fun v h => ld_box P (KS v h) (by rw [hzRouter]; exact hAs)
  clear KX KS hzRouter hzRedist
  go_enter FG, Tryz.ntmps159
  repeat' (first | (go_at_call 161; with_reducible refine (hF _).mono ?_; rintro e w' ⟨rfl, b⟩; have b' := then_ (w := w1) (by assumption) b; clear b; try dsimp only) | (go_at_call 81; with_reducible refine (hU _ (by assumption)).mono ?_; rintro e w' ⟨rfl, b⟩; have b' := then_ (w := w1) (by assumption) b; clear b; try dsimp only) | (go_at_call 162; with_reducible refine (hC _ (by assumption)).mono ?_; rintro e w' ⟨rfl, b⟩; have b' := then_ (w := w1) (by assumption) b; clear b; try dsimp only) | go_skip | go_guarded | go_step | go_upon)
  all_goals go_ret
  all_goals exact ⟨ret_int (by rw [R.out]; simp_all), then_ HX.out (by assumption)⟩

set_option maxHeartbeats 2000000 in
theorem chkReds (r : Rtr) (t : Into) (v : Value) (l : List Red) (w : World) (hr : RtrIn w r) (hl : InRow eRed 5 w v l) :
    Calls Tryz.prog 99 #[.agg (eRtr r).toArray, v, .agg (eInto t).toArray] w fun e w' => e = .returned (.int .i64 (redsE r.maps t l)) ∧ Below w.heap.size w w' := by
  obtain ⟨A, hA⟩ : ∃ A, A = (eRtr r).toArray := ⟨_, rfl⟩
  obtain ⟨I, hI⟩ : ∃ I, I = (eInto t).toArray := ⟨_, rfl⟩
  rw [← hA, ← hI]
  obtain ⟨w3, hw3⟩ : ∃ w3, ((w.alloc (.cells A 41)).alloc (.cells #[v] 29)).alloc (.cells I 138) = w3 := ⟨_, rfl⟩
  have h0 : w3.heap[w.heap.size]? = some (.cells A 41 (0, 0)) := by rw [← hw3]; exact three_b0 w _ _ _ _ _ _
  have h1 : w3.heap[w.heap.size + 1]? = some (.cells #[v] 29 (0, 0)) := by rw [← hw3]; exact three_b1 w _ _ _ _ _ _
  have h2 : w3.heap[w.heap.size + 1 + 1]? = some (.cells I 138 (0, 0)) := by rw [← hw3]; exact three_b2 w _ _ _ _ _ _
  have H3 := hid (show Below w.heap.size w w3 by rw [← hw3]; exact al3 w _ _ _)
  have hc := eachRed v l 4 (redE r.maps t l) 159 #[.pointer (some ⟨w.heap.size + 1 + 1, 0, none⟩), .pointer (some ⟨w.heap.size, 0, none⟩), .pointer (some ⟨w.heap.size + 1, 0, none⟩)] (enters_of Tryz.func159 (by kernel_rfl) rfl) w3 (rows_keep hl.row H3.out) hl.len
    (fun x _ => by simp [eRed, one_str, one_int, one_bool])
    (fun W i x hx hbw => clReds r t v l i x _ _ _ W (hr.keep (then_ H3.out hbw)) (hl.keep (then_ H3.out hbw)) (by rw [← hI]; exact blk_keep h2 hbw) (by rw [← hA]; exact blk_keep h0 hbw) (blk_keep h1 hbw) hx)
  have R := hid (show redsE r.maps t l = eachE 4 (redE r.maps t l) l from rfl)
  obtain ⟨e0, he⟩ : ∃ e0, e0 = eachE 4 (redE r.maps t l) l := ⟨_, rfl⟩
  rw [← he] at hc R
  rw [show ((4 : Nat) : Int) = 4 from rfl] at hc
  obtain ⟨a, cap, hv, _, _⟩ := rows_open (z := 5) (by decide) hl.row
  subst hv
  have F1 := box_at h1 (j := 0) rfl
  have G3 : Below w3.heap.size w3 w3 := Below.refl _ _
  obtain ⟨m, hmm⟩ : ∃ m, m = l.length := ⟨_, rfl⟩
  rw [← hmm] at F1 hc hw3 ⊢
  clear h0 h1 h2 hr hl he hmm hA hI
  go_enter Tryz.func99, Tryz.ntmps99
  repeat' (first | (go_at_call 158; with_reducible refine (hc).mono ?_; rintro e w' ⟨rfl, b⟩; have b' := then_ (w := w3) (by assumption) b; clear b; try dsimp only) | go_skip | go_guarded | go_step | go_upon)
  go_ret
  exact ⟨ret_int R.out.symm, then_ H3.out (by assumption)⟩
end Go.Proofs.YtlhbfpapmolohaaGreat.Mw
