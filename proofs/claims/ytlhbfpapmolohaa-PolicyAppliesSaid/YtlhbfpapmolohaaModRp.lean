/-
  THE CONTRACT OF netverifyref8.pathVector.
-/
import Derived.Test.YtlhbfpapmolohaaModRd
namespace Go.Proofs.Ytlhbfpapmolohaa.Mw
set_option linter.unusedSimpArgs false
set_option linter.unusedVariables false
open Go.RowKit Kt Mm Mp

def zeroPV : Array Value := #[.bool false, .int .i64 0, .int .i64 0, .slice none 0 0, .slice none 0 0, .slice none 0 0, .slice none 0 0, .slice none 0 0]
theorem pvT_eq : mkT 5 0 16777215 = pvT := rfl
theorem orE5 (p q t s u : Int) : orE [p, q, t, s, u] = if p = 0 then (if orE [q, t, s] = 0 then u else orE [q, t, s]) else p := by
  rw [orE3]
  unfold orE; split
  · unfold orE; split
    · unfold orE; split
      · unfold orE; split
        · unfold orE; split
          · rename_i h; simp_all [orE]
          · simp_all
        · simp_all
      · simp_all
    · simp_all
  · rfl
/-- The path-vector part's lists are no longer than a memory holds. -/
def PvLens (r : Rtr) : Prop := r.nbrs.length ≤ 1000000000 ∧ r.nets.length ≤ 1000000000 ∧ r.aggs.length ≤ 1000000000 ∧ r.cnds.length ≤ 1000000000 ∧ r.pvr.length ≤ 1000000000

set_option maxHeartbeats 16000000 in
set_option maxRecDepth 4000 in
theorem rPV (r : Rtr) (w : World) (hr : RtrIn w r) (hb : PvLens r) :
    Calls Try.prog 55 #[.agg (eRtr r).toArray] w fun e w' => e = .returned (.int .i64 (pvE r)) ∧ Below w.heap.size w w' := by
  have hWi := fun (p q t : Int) wx => rWithin p q t wx
  obtain ⟨X, hX⟩ : ∃ X, X = (eRtr r).toArray := ⟨_, rfl⟩
  obtain ⟨w1, hw1⟩ : ∃ w1, w.alloc (.cells X 55) = w1 := ⟨_, rfl⟩
  have hhX : w1.heap[w.heap.size]? = some (.cells X 55 (0, 0)) := by rw [← hw1, heap_new]
  have FX1 : ∀ v : World, Below w1.heap.size w1 v → v.cell? ⟨w.heap.size, 1, none⟩ = some (.int .i64 r.asn) := fun v h => box_at (blk_keep hhX h) (by rw [hX]; rfl)
  have KX : ∀ v : World, Below w1.heap.size w1 v → v.heap[w.heap.size]? = some (.cells X 55 (0, 0)) := fun v h => blk_keep hhX h
  have GX : Below w1.heap.size w1 w1 := Below.refl _ _
  have HX := hid (show Below w.heap.size w w1 by rw [← hw1]; exact new_below _ _)
  have hX' := hid hX
  try rw [← hX]
  clear hX hhX
  have hNb := fun wx (h : Below w1.heap.size w1 wx) => rNbrs r wx (hr.keep (then_ HX.out h))
  have hOr := fun wx (h : Below w1.heap.size w1 wx) => rOrig r wx (hr.keep (then_ HX.out h))
  have hRe := fun wx (h : Below w1.heap.size w1 wx) => rReds r r.vPvr r.pvr 5 0 16777215 wx (hr.keep (then_ HX.out h)) (hr.keep (then_ HX.out h)).pvr
  rw [← hX'.out] at hNb
  rw [← hX'.out, pvT_eq] at hRe
  have hXs : X.size = 25 := by rw [hX'.out]; rfl
  unfold PvLens at hb
  obtain ⟨a3, cap3, hv3, hcap3, -⟩ := rows_open (z := 4) (by decide) hr.nbrs.row
  obtain ⟨n3, hn3⟩ : ∃ n, n = r.nbrs.length := ⟨_, rfl⟩
  rw [← hn3] at hcap3 hv3 hb
  obtain ⟨a4, cap4, hv4, hcap4, -⟩ := rows_open (z := 2) (by decide) hr.nets.row
  obtain ⟨n4, hn4⟩ : ∃ n, n = r.nets.length := ⟨_, rfl⟩
  rw [← hn4] at hcap4 hv4 hb
  obtain ⟨a5, cap5, hv5, hcap5, -⟩ := rows_open (z := 3) (by decide) hr.aggs.row
  obtain ⟨n5, hn5⟩ : ∃ n, n = r.aggs.length := ⟨_, rfl⟩
  rw [← hn5] at hcap5 hv5 hb
  obtain ⟨a6, cap6, hv6, hcap6, -⟩ := rows_open (z := 5) (by decide) hr.cnds.row
  obtain ⟨n6, hn6⟩ : ∃ n, n = r.cnds.length := ⟨_, rfl⟩
  rw [← hn6] at hcap6 hv6 hb
  obtain ⟨a7, cap7, hv7, hcap7, -⟩ := rows_open (z := 5) (by decide) hr.pvr.row
  obtain ⟨n7, hn7⟩ : ∃ n, n = r.pvr.length := ⟨_, rfl⟩
  rw [← hn7] at hcap7 hv7 hb
  obtain ⟨Y, hY⟩ : ∃ Y, Y = (ePV r).toArray := ⟨_, rfl⟩
  have hYs : Y.size = 8 := by rw [hY]; rfl
  have hY1 := hid (show Y.all (·.oneCell') = true by rw [hY]; simp [ePV, one_str, one_int, one_bool, row_one hr.nbrs.row, row_one hr.nets.row, row_one hr.aggs.row, row_one hr.cnds.row, row_one hr.pvr.row])
  obtain ⟨on, hon⟩ : ∃ q, q = r.pvOn := ⟨_, rfl⟩
  have y0 : Y[0]? = some (.bool on) := by rw [hY, hon]; rfl
  have y1 : Y[1]? = some (.int .i64 r.ext) := by rw [hY]; rfl
  have y2 : Y[2]? = some (.int .i64 r.intl) := by rw [hY]; rfl
  have y3 : Y[3]? = some (.slice a3 n3 cap3) := by rw [hY, ← hv3]; rfl
  have y4 : Y[4]? = some (.slice a4 n4 cap4) := by rw [hY, ← hv4]; rfl
  have y5 : Y[5]? = some (.slice a5 n5 cap5) := by rw [hY, ← hv5]; rfl
  have y6 : Y[6]? = some (.slice a6 n6 cap6) := by rw [hY, ← hv6]; rfl
  have y7 : Y[7]? = some (.slice a7 n7 cap7) := by rw [hY, ← hv7]; rfl
  rw [hv7] at hRe
  rw [← hY] at hOr
  have d1 := fun wx => hWi r.ext 1 255 wx
  have d2 := fun wx => hWi r.intl 1 255 wx
  obtain ⟨a1, ha1⟩ : ∃ q, q = wi r.ext 1 255 := ⟨_, rfl⟩
  obtain ⟨a2, ha2⟩ : ∃ q, q = wi r.intl 1 255 := ⟨_, rfl⟩
  obtain ⟨eN, heN⟩ : ∃ q, q = nbrsE r.maps r.nbrs := ⟨_, rfl⟩
  obtain ⟨eO, heO⟩ : ∃ q, q = orE [netsE r.nets, aggsE r.aggs, cndsE r.cnds] := ⟨_, rfl⟩
  obtain ⟨er, her⟩ : ∃ q, q = redsE r.maps pvT r.pvr := ⟨_, rfl⟩
  rw [← ha1] at d1
  rw [← ha2] at d2
  rw [← heN] at hNb
  rw [← heO] at hOr
  rw [← her] at hRe
  have FE := hid (show pvE r = if !on then (if !decide (r.ext = 0) || !decide (r.intl = 0) || decide (0 < n3) || decide (0 < n4) || decide (0 < n5) || decide (0 < n6) || decide (0 < n7) then 1 else 0) else if decide (r.asn = 0) || !a1 || !a2 then 1 else if eN = 0 then (if eO = 0 then er else eO) else eN by
    rw [hon, hn3, hn4, hn5, hn6, hn7, ha1, ha2, heN, heO, her, ← orE5]; rfl)
  have wr1 : IntKind.i64.wrap ((n3 : Int) + (n4 : Int)) = (n3 : Int) + (n4 : Int) := by rw [IntKind.wrap_i64]; omega
  have wr2 : IntKind.i64.wrap ((n3 : Int) + (n4 : Int) + (n5 : Int)) = (n3 : Int) + (n4 : Int) + (n5 : Int) := by rw [IntKind.wrap_i64]; omega
  have wr3 : IntKind.i64.wrap ((n3 : Int) + (n4 : Int) + (n5 : Int) + (n6 : Int)) = (n3 : Int) + (n4 : Int) + (n5 : Int) + (n6 : Int) := by rw [IntKind.wrap_i64]; omega
  have wr4 : IntKind.i64.wrap ((n3 : Int) + (n4 : Int) + (n5 : Int) + (n6 : Int) + (n7 : Int)) = (n3 : Int) + (n4 : Int) + (n5 : Int) + (n6 : Int) + (n7 : Int) := by rw [IntKind.wrap_i64]; omega
  clear hr hn3 hn4 hn5 hn6 hn7 hv3 hv4 hv5 hv6 hv7 hon ha1 ha2 heN heO her hWi hb
  obtain ⟨P, hP⟩ : ∃ P, P = Try.prog := ⟨_, rfl⟩
  have HP := hid hP
  have mixed : P.follows .mixedOrders = true := by rw [hP]; kernel_rfl
  have FG : P.funcs[55]? = some Try.f55 := by rw [hP]; exact Try.func55
  obtain ⟨zRouter, hzRouter⟩ : ∃ z, z = 25 := ⟨_, rfl⟩
  have nzRouter : ¬ zRouter = 0 := by omega
  obtain ⟨zPathVector, hzPathVector⟩ : ∃ z, z = 8 := ⟨_, rfl⟩
  have nzPathVector : ¬ zPathVector = 0 := by omega
  have ty3 := Try.underlying3; have ag3 := Try.isAgg3; have sz3 := Try.sizeOf3; have ru3 := Try.runUnderlying3
  have ty4 := Try.underlying4; have ag4 := Try.isAgg4; have sz4 := Try.sizeOf4; have ru4 := Try.runUnderlying4
  have ty43 := Try.underlying43; have ag43 := Try.isAgg43; have sz43 := Try.sizeOf43; have ru43 := Try.runUnderlying43
  have ty48 := Try.underlying48; have ag48 := Try.isAgg48; have sz48 := Try.sizeOf48; have ru48 := Try.runUnderlying48
  have ty49 := Try.underlying49; have ag49 := Try.isAgg49; have sz49 := Try.sizeOf49; have ru49 := Try.runUnderlying49
  have ty50 := Try.underlying50; have ag50 := Try.isAgg50; have sz50 := Try.sizeOf50; have ru50 := Try.runUnderlying50
  have ty51 := Try.underlying51; have ag51 := Try.isAgg51; have sz51 := Try.sizeOf51; have ru51 := Try.runUnderlying51
  have ty53 := Try.underlying53; have ag53 := Try.isAgg53; have sz53 := Try.sizeOf53; have ru53 := Try.runUnderlying53
  rw [← hzPathVector] at sz53
  have zePathVector := Try.zeroValue53
  have ty55 := Try.underlying55; have ag55 := Try.isAgg55; have sz55 := Try.sizeOf55; have ru55 := Try.runUnderlying55
  rw [← hzRouter] at sz55
  have ty81 := Try.underlying81; have ag81 := Try.isAgg81; have sz81 := Try.sizeOf81; have ru81 := Try.runUnderlying81
  have en0 : ∀ args w, (callFunc 69 args).run Try.prog w = .ok (.enter 69 args) w := enters_of Try.func69 (by kernel_rfl) rfl
  have en1 : ∀ args w, (callFunc 70 args).run Try.prog w = .ok (.enter 70 args) w := enters_of Try.func70 (by kernel_rfl) rfl
  have en2 : ∀ args w, (callFunc 68 args).run Try.prog w = .ok (.enter 68 args) w := enters_of Try.func68 (by kernel_rfl) rfl
  have en3 : ∀ args w, (callFunc 45 args).run Try.prog w = .ok (.enter 45 args) w := enters_of Try.func45 (by kernel_rfl) rfl
  rw [← hP] at ty3 ag3 sz3 ru3 ty4 ag4 sz4 ru4 ty43 ag43 sz43 ru43 ty48 ag48 sz48 ru48 ty49 ag49 sz49 ru49 ty50 ag50 sz50 ru50 ty51 ag51 sz51 ru51 ty53 ag53 sz53 ru53 zePathVector ty55 ag55 sz55 ru55 ty81 ag81 sz81 ru81 en0 en1 en2 en3 d1 d2 hNb hOr hRe ⊢
  clear hP
  have LX : ∀ v : World, Below w1.heap.size w1 v → Sem.run P (loadCellsFrom ⟨w.heap.size, 0, none⟩ 0 zRouter #[]) v = .ok X v := fun v h => ld_box P (KX v h) (by rw [hzRouter]; exact hXs)
  have ZR := hid hzRouter
  have ZV := hid hzPathVector
  clear hzRouter hzPathVector
  have LV : Sem.run P (loadCellsFrom ⟨w.heap.size, 17, none⟩ 0 zPathVector #[]) w1 = .ok Y w1 := by
    rw [ZV.out, hY]; exact ld_part P (KX w1 GX) rfl (fun j u hj => by rw [hX'.out]; exact part_of (e := ePV) (x := r) (n := 8) rfl j u hj)
  clear KX hY
  go_enter FG, Try.ntmps55
  repeat' ((fail_if_success (with_reducible show Hid _)); (first | ((with_reducible show Oper.wp _ ⟨_, .store 53 _ _, _, _, _, _⟩ _ _ _ _); refine stopF ?_) | go_skip | go_guarded | go_step | go_upon))
  refine hid ?_
  refine wp_store_box (w := w1.alloc (.cells zeroPV 53)) 53 _ _ (by rfl) (g := w1.heap.size) (cur := zeroPV) (X := Y) (by rfl) (by rfl) (by intro v; rw [hYs, ← ZV.out]; first | exact sz53 v | assumption) (heap_new _ _) (by rw [hYs]; rfl) hY1.out ?_
  intro w4 h1 h2 h3
  have HW4 := hid (show Below w1.heap.size w1 w4 from (al1 w1 _).trans (h3 _ (Nat.le_refl _)))
  have G4 : Below w4.heap.size w4 w4 := Below.refl _ _
  have FY0 : ∀ v : World, Below w4.heap.size w4 v → v.cell? ⟨w1.heap.size, 0, none⟩ = some (.bool on) := fun v h => box_at (blk_keep h1 h) y0
  have FY1 : ∀ v : World, Below w4.heap.size w4 v → v.cell? ⟨w1.heap.size, 1, none⟩ = some (.int .i64 r.ext) := fun v h => box_at (blk_keep h1 h) y1
  have FY2 : ∀ v : World, Below w4.heap.size w4 v → v.cell? ⟨w1.heap.size, 2, none⟩ = some (.int .i64 r.intl) := fun v h => box_at (blk_keep h1 h) y2
  have FY3 : ∀ v : World, Below w4.heap.size w4 v → v.cell? ⟨w1.heap.size, 3, none⟩ = some (.slice a3 n3 cap3) := fun v h => box_at (blk_keep h1 h) y3
  have FY4 : ∀ v : World, Below w4.heap.size w4 v → v.cell? ⟨w1.heap.size, 4, none⟩ = some (.slice a4 n4 cap4) := fun v h => box_at (blk_keep h1 h) y4
  have FY5 : ∀ v : World, Below w4.heap.size w4 v → v.cell? ⟨w1.heap.size, 5, none⟩ = some (.slice a5 n5 cap5) := fun v h => box_at (blk_keep h1 h) y5
  have FY6 : ∀ v : World, Below w4.heap.size w4 v → v.cell? ⟨w1.heap.size, 6, none⟩ = some (.slice a6 n6 cap6) := fun v h => box_at (blk_keep h1 h) y6
  have FY7 : ∀ v : World, Below w4.heap.size w4 v → v.cell? ⟨w1.heap.size, 7, none⟩ = some (.slice a7 n7 cap7) := fun v h => box_at (blk_keep h1 h) y7
  have LY : ∀ v : World, Below w4.heap.size w4 v → Sem.run P (loadCellsFrom ⟨w1.heap.size, 0, none⟩ 0 zPathVector #[]) v = .ok Y v := fun v h => ld_box P (blk_keep h1 h) (by rw [ZV.out]; exact hYs)
  have LX4 := fun (v : World) (h : Below w4.heap.size w4 v) => LX v (then_ HW4.out h)
  have FA4 := fun (v : World) (h : Below w4.heap.size w4 v) => FX1 v (then_ HW4.out h)
  have eNb := fun wx (h : Below w4.heap.size w4 wx) => hNb wx (then_ HW4.out h)
  have eOr := fun wx (h : Below w4.heap.size w4 wx) => hOr wx (then_ HW4.out h)
  have eRe := fun wx (h : Below w4.heap.size w4 wx) => hRe wx (then_ HW4.out h)
  clear h1 h2 h3 LV LX FX1 hYs y0 y1 y2 y3 y4 y5 y6 y7 hNb hOr hRe
  cases on
  case false =>
    by_cases h0 : r.ext = 0
    · have h0b : (r.ext != 0) = false := by simpa using h0
      have H0 := hid h0
      clear h0
      by_cases i0 : r.intl = 0
      · have i0b : (r.intl != 0) = false := by simpa using i0
        have I0 := hid i0
        clear i0
        by_cases hs : 0 < n3 + n4 + n5 + n6 + n7
        · have hsi : (0 : Int) < (n3 : Int) + (n4 : Int) + (n5 : Int) + (n6 : Int) + (n7 : Int) := by omega
          repeat' (first | (go_at_call 45; with_reducible refine (d1 _).mono ?_; rintro e w' ⟨rfl, rfl⟩; try dsimp only) | (go_at_call 45; with_reducible refine (d2 _).mono ?_; rintro e w' ⟨rfl, rfl⟩; try dsimp only) | (go_at_call 69; with_reducible refine (eNb _ (by assumption)).mono ?_; rintro e w' ⟨rfl, b⟩; have b' := then_ (w := w4) (by assumption) b; clear b; try dsimp only) | (go_at_call 70; with_reducible refine (eOr _ (by assumption)).mono ?_; rintro e w' ⟨rfl, b⟩; have b' := then_ (w := w4) (by assumption) b; clear b; try dsimp only) | (go_at_call 68; with_reducible refine (eRe _ (by assumption)).mono ?_; rintro e w' ⟨rfl, b⟩; have b' := then_ (w := w4) (by assumption) b; clear b; try dsimp only) | go_skip | go_guarded | go_step | go_upon)
          (try simp only [Exit.inBlock, Exit.then]); refine bodyPost_ret (results_tmp (by rfl) _ _ _) (by rfl) ?_
          exact ⟨ret_int (by rw [FE.out]; simp [H0.out, I0.out]; omega), then_ HX.out (then_ HW4.out (by assumption))⟩
        · have hsi : ¬ (0 : Int) < (n3 : Int) + (n4 : Int) + (n5 : Int) + (n6 : Int) + (n7 : Int) := by omega
          repeat' (first | (go_at_call 45; with_reducible refine (d1 _).mono ?_; rintro e w' ⟨rfl, rfl⟩; try dsimp only) | (go_at_call 45; with_reducible refine (d2 _).mono ?_; rintro e w' ⟨rfl, rfl⟩; try dsimp only) | (go_at_call 69; with_reducible refine (eNb _ (by assumption)).mono ?_; rintro e w' ⟨rfl, b⟩; have b' := then_ (w := w4) (by assumption) b; clear b; try dsimp only) | (go_at_call 70; with_reducible refine (eOr _ (by assumption)).mono ?_; rintro e w' ⟨rfl, b⟩; have b' := then_ (w := w4) (by assumption) b; clear b; try dsimp only) | (go_at_call 68; with_reducible refine (eRe _ (by assumption)).mono ?_; rintro e w' ⟨rfl, b⟩; have b' := then_ (w := w4) (by assumption) b; clear b; try dsimp only) | go_skip | go_guarded | go_step | go_upon)
          (try simp only [Exit.inBlock, Exit.then]); refine bodyPost_ret (results_tmp (by rfl) _ _ _) (by rfl) ?_
          exact ⟨ret_int (by rw [FE.out]; simp [H0.out, I0.out]; omega), then_ HX.out (then_ HW4.out (by assumption))⟩
      · have i0b : (r.intl != 0) = true := by simpa using i0
        have I0 := hid i0
        clear i0
        repeat' (first | (go_at_call 45; with_reducible refine (d1 _).mono ?_; rintro e w' ⟨rfl, rfl⟩; try dsimp only) | (go_at_call 45; with_reducible refine (d2 _).mono ?_; rintro e w' ⟨rfl, rfl⟩; try dsimp only) | (go_at_call 69; with_reducible refine (eNb _ (by assumption)).mono ?_; rintro e w' ⟨rfl, b⟩; have b' := then_ (w := w4) (by assumption) b; clear b; try dsimp only) | (go_at_call 70; with_reducible refine (eOr _ (by assumption)).mono ?_; rintro e w' ⟨rfl, b⟩; have b' := then_ (w := w4) (by assumption) b; clear b; try dsimp only) | (go_at_call 68; with_reducible refine (eRe _ (by assumption)).mono ?_; rintro e w' ⟨rfl, b⟩; have b' := then_ (w := w4) (by assumption) b; clear b; try dsimp only) | go_skip | go_guarded | go_step | go_upon)
        (try simp only [Exit.inBlock, Exit.then]); refine bodyPost_ret (results_tmp (by rfl) _ _ _) (by rfl) ?_
        exact ⟨ret_int (by rw [FE.out]; simp [H0.out, I0.out]), then_ HX.out (then_ HW4.out (by assumption))⟩
    · have h0b : (r.ext != 0) = true := by simpa using h0
      have H0 := hid h0
      clear h0
      repeat' (first | (go_at_call 45; with_reducible refine (d1 _).mono ?_; rintro e w' ⟨rfl, rfl⟩; try dsimp only) | (go_at_call 45; with_reducible refine (d2 _).mono ?_; rintro e w' ⟨rfl, rfl⟩; try dsimp only) | (go_at_call 69; with_reducible refine (eNb _ (by assumption)).mono ?_; rintro e w' ⟨rfl, b⟩; have b' := then_ (w := w4) (by assumption) b; clear b; try dsimp only) | (go_at_call 70; with_reducible refine (eOr _ (by assumption)).mono ?_; rintro e w' ⟨rfl, b⟩; have b' := then_ (w := w4) (by assumption) b; clear b; try dsimp only) | (go_at_call 68; with_reducible refine (eRe _ (by assumption)).mono ?_; rintro e w' ⟨rfl, b⟩; have b' := then_ (w := w4) (by assumption) b; clear b; try dsimp only) | go_skip | go_guarded | go_step | go_upon)
      (try simp only [Exit.inBlock, Exit.then]); refine bodyPost_ret (results_tmp (by rfl) _ _ _) (by rfl) ?_
      exact ⟨ret_int (by rw [FE.out]; simp [H0.out]), then_ HX.out (then_ HW4.out (by assumption))⟩
  case true =>
    by_cases s0 : r.asn = 0
    · have s0b : (r.asn == 0) = true := by simpa using s0
      have S0 := hid s0
      clear s0
      repeat' (first | (go_at_call 45; with_reducible refine (d1 _).mono ?_; rintro e w' ⟨rfl, rfl⟩; try dsimp only) | (go_at_call 45; with_reducible refine (d2 _).mono ?_; rintro e w' ⟨rfl, rfl⟩; try dsimp only) | (go_at_call 69; with_reducible refine (eNb _ (by assumption)).mono ?_; rintro e w' ⟨rfl, b⟩; have b' := then_ (w := w4) (by assumption) b; clear b; try dsimp only) | (go_at_call 70; with_reducible refine (eOr _ (by assumption)).mono ?_; rintro e w' ⟨rfl, b⟩; have b' := then_ (w := w4) (by assumption) b; clear b; try dsimp only) | (go_at_call 68; with_reducible refine (eRe _ (by assumption)).mono ?_; rintro e w' ⟨rfl, b⟩; have b' := then_ (w := w4) (by assumption) b; clear b; try dsimp only) | go_skip | go_guarded | go_step | go_upon)
      (try simp only [Exit.inBlock, Exit.then]); refine bodyPost_ret (results_tmp (by rfl) _ _ _) (by rfl) ?_
      exact ⟨ret_int (by rw [FE.out]; simp [S0.out]), then_ HX.out (then_ HW4.out (by assumption))⟩
    have s0b : (r.asn == 0) = false := by simpa using s0
    have S0 := hid s0
    clear s0
    cases a1
    case false =>
      repeat' (first | (go_at_call 45; with_reducible refine (d1 _).mono ?_; rintro e w' ⟨rfl, rfl⟩; try dsimp only) | (go_at_call 45; with_reducible refine (d2 _).mono ?_; rintro e w' ⟨rfl, rfl⟩; try dsimp only) | (go_at_call 69; with_reducible refine (eNb _ (by assumption)).mono ?_; rintro e w' ⟨rfl, b⟩; have b' := then_ (w := w4) (by assumption) b; clear b; try dsimp only) | (go_at_call 70; with_reducible refine (eOr _ (by assumption)).mono ?_; rintro e w' ⟨rfl, b⟩; have b' := then_ (w := w4) (by assumption) b; clear b; try dsimp only) | (go_at_call 68; with_reducible refine (eRe _ (by assumption)).mono ?_; rintro e w' ⟨rfl, b⟩; have b' := then_ (w := w4) (by assumption) b; clear b; try dsimp only) | go_skip | go_guarded | go_step | go_upon)
      (try simp only [Exit.inBlock, Exit.then]); refine bodyPost_ret (results_tmp (by rfl) _ _ _) (by rfl) ?_
      exact ⟨ret_int (by rw [FE.out]; simp [S0.out]), then_ HX.out (then_ HW4.out (by assumption))⟩
    cases a2
    case false =>
      repeat' (first | (go_at_call 45; with_reducible refine (d1 _).mono ?_; rintro e w' ⟨rfl, rfl⟩; try dsimp only) | (go_at_call 45; with_reducible refine (d2 _).mono ?_; rintro e w' ⟨rfl, rfl⟩; try dsimp only) | (go_at_call 69; with_reducible refine (eNb _ (by assumption)).mono ?_; rintro e w' ⟨rfl, b⟩; have b' := then_ (w := w4) (by assumption) b; clear b; try dsimp only) | (go_at_call 70; with_reducible refine (eOr _ (by assumption)).mono ?_; rintro e w' ⟨rfl, b⟩; have b' := then_ (w := w4) (by assumption) b; clear b; try dsimp only) | (go_at_call 68; with_reducible refine (eRe _ (by assumption)).mono ?_; rintro e w' ⟨rfl, b⟩; have b' := then_ (w := w4) (by assumption) b; clear b; try dsimp only) | go_skip | go_guarded | go_step | go_upon)
      (try simp only [Exit.inBlock, Exit.then]); refine bodyPost_ret (results_tmp (by rfl) _ _ _) (by rfl) ?_
      exact ⟨ret_int (by rw [FE.out]; simp [S0.out]), then_ HX.out (then_ HW4.out (by assumption))⟩
    by_cases hN : eN = 0
    · subst hN
      by_cases hO : eO = 0
      · subst hO
        repeat' (first | (go_at_call 45; with_reducible refine (d1 _).mono ?_; rintro e w' ⟨rfl, rfl⟩; try dsimp only) | (go_at_call 45; with_reducible refine (d2 _).mono ?_; rintro e w' ⟨rfl, rfl⟩; try dsimp only) | (go_at_call 69; with_reducible refine (eNb _ (by assumption)).mono ?_; rintro e w' ⟨rfl, b⟩; have b' := then_ (w := w4) (by assumption) b; clear b; try dsimp only) | (go_at_call 70; with_reducible refine (eOr _ (by assumption)).mono ?_; rintro e w' ⟨rfl, b⟩; have b' := then_ (w := w4) (by assumption) b; clear b; try dsimp only) | (go_at_call 68; with_reducible refine (eRe _ (by assumption)).mono ?_; rintro e w' ⟨rfl, b⟩; have b' := then_ (w := w4) (by assumption) b; clear b; try dsimp only) | go_skip | go_guarded | go_step | go_upon)
        (try simp only [Exit.inBlock, Exit.then]); refine bodyPost_ret (results_tmp (by rfl) _ _ _) (by rfl) ?_
        exact ⟨ret_int (by rw [FE.out]; simp [S0.out]), then_ HX.out (then_ HW4.out (by assumption))⟩
      · have hOb : (eO != 0) = true := by simpa using hO
        repeat' (first | (go_at_call 45; with_reducible refine (d1 _).mono ?_; rintro e w' ⟨rfl, rfl⟩; try dsimp only) | (go_at_call 45; with_reducible refine (d2 _).mono ?_; rintro e w' ⟨rfl, rfl⟩; try dsimp only) | (go_at_call 69; with_reducible refine (eNb _ (by assumption)).mono ?_; rintro e w' ⟨rfl, b⟩; have b' := then_ (w := w4) (by assumption) b; clear b; try dsimp only) | (go_at_call 70; with_reducible refine (eOr _ (by assumption)).mono ?_; rintro e w' ⟨rfl, b⟩; have b' := then_ (w := w4) (by assumption) b; clear b; try dsimp only) | (go_at_call 68; with_reducible refine (eRe _ (by assumption)).mono ?_; rintro e w' ⟨rfl, b⟩; have b' := then_ (w := w4) (by assumption) b; clear b; try dsimp only) | go_skip | go_guarded | go_step | go_upon)
        (try simp only [Exit.inBlock, Exit.then]); refine bodyPost_ret (results_tmp (by rfl) _ _ _) (by rfl) ?_
        exact ⟨ret_int (by rw [FE.out]; simp [S0.out, hO]), then_ HX.out (then_ HW4.out (by assumption))⟩
    · have hNb2 : (eN != 0) = true := by simpa using hN
      repeat' (first | (go_at_call 45; with_reducible refine (d1 _).mono ?_; rintro e w' ⟨rfl, rfl⟩; try dsimp only) | (go_at_call 45; with_reducible refine (d2 _).mono ?_; rintro e w' ⟨rfl, rfl⟩; try dsimp only) | (go_at_call 69; with_reducible refine (eNb _ (by assumption)).mono ?_; rintro e w' ⟨rfl, b⟩; have b' := then_ (w := w4) (by assumption) b; clear b; try dsimp only) | (go_at_call 70; with_reducible refine (eOr _ (by assumption)).mono ?_; rintro e w' ⟨rfl, b⟩; have b' := then_ (w := w4) (by assumption) b; clear b; try dsimp only) | (go_at_call 68; with_reducible refine (eRe _ (by assumption)).mono ?_; rintro e w' ⟨rfl, b⟩; have b' := then_ (w := w4) (by assumption) b; clear b; try dsimp only) | go_skip | go_guarded | go_step | go_upon)
      (try simp only [Exit.inBlock, Exit.then]); refine bodyPost_ret (results_tmp (by rfl) _ _ _) (by rfl) ?_
      exact ⟨ret_int (by rw [FE.out]; simp [S0.out, hN]), then_ HX.out (then_ HW4.out (by assumption))⟩
end Go.Proofs.Ytlhbfpapmolohaa.Mw
