/-
  THE CONTRACTS OF model's CHECKS OF THE PROTOCOLS.
-/
import Derived.Test.YtlhbfpapmolohaaGreatModZc
import Derived.Test.YtlhbfpapmolohaaGreatQTail
import Derived.Test.YtlhbfpapmolohaaGreatModD0
namespace Go.Proofs.YtlhbfpapmolohaaGreat.Mw
set_option linter.unusedSimpArgs false
set_option linter.unusedVariables false
open Go.RowKit Kt Mm Mp

set_option maxHeartbeats 8000000 in
theorem chkPV (r : Rtr) (w : World) (hr : RtrIn w r) :
    Calls Tryz.prog 27 #[.agg (eRtr r).toArray] w fun e w' => e = .returned (.int .i64 (pvE r)) ∧ Below w.heap.size w w' := by
  obtain ⟨a3, c3, hv3⟩ := row_form hr.nbrs
  obtain ⟨n3, hn3⟩ : ∃ n, n = r.nbrs.length := ⟨_, rfl⟩
  rw [← hn3] at hv3
  obtain ⟨a4, c4, hv4⟩ := row_form hr.nets
  obtain ⟨n4, hn4⟩ : ∃ n, n = r.nets.length := ⟨_, rfl⟩
  rw [← hn4] at hv4
  obtain ⟨a5, c5, hv5⟩ := row_form hr.aggs
  obtain ⟨n5, hn5⟩ : ∃ n, n = r.aggs.length := ⟨_, rfl⟩
  rw [← hn5] at hv5
  obtain ⟨a6, c6, hv6⟩ := row_form hr.cnds
  obtain ⟨n6, hn6⟩ : ∃ n, n = r.cnds.length := ⟨_, rfl⟩
  rw [← hn6] at hv6
  obtain ⟨a7, c7, hv7⟩ := row_form hr.pvr
  obtain ⟨n7, hn7⟩ : ∃ n, n = r.pvr.length := ⟨_, rfl⟩
  rw [← hn7] at hv7
  have hWi := fun n a b wx => within n a b wx
  obtain ⟨L, hL⟩ : ∃ L, L = (ePV r).toArray := ⟨_, rfl⟩
  have hLone : L.all (·.oneCell') = true := by rw [hL]; simp [ePV, one_int, one_bool, one_str, row_one hr.nbrs.row, row_one hr.nets.row, row_one hr.aggs.row, row_one hr.cnds.row, row_one hr.pvr.row]
  have hLs : L.size = 8 := by rw [hL]; rfl
  obtain ⟨A, hA⟩ : ∃ A, A = (eRtr r).toArray := ⟨_, rfl⟩
  have hAs : A.size = 25 := by rw [hA]; rfl
  obtain ⟨w1, hw1⟩ : ∃ w1, w.alloc (.cells A 41) = w1 := ⟨_, rfl⟩
  have hh1 : w1.heap[w.heap.size]? = some (.cells A 41 (0, 0)) := by rw [← hw1, heap_new]
  obtain ⟨w2, hw2⟩ : ∃ w2, w1.alloc (.cells L 39) = w2 := ⟨_, rfl⟩
  have s1 : w1.heap.size = w.heap.size + 1 := by rw [← hw1, new_size]
  have hh2 : w2.heap[w.heap.size]? = some (.cells A 41 (0, 0)) := by rw [← hw2, Below.heap_alloc _ _ _ (by omega)]; exact hh1
  have hh3 : w2.heap[w.heap.size + 1]? = some (.cells L 39 (0, 0)) := by rw [← hw2, ← s1, heap_new]
  have L0 : ∀ v : World, Below w2.heap.size w2 v → v.cell? ⟨w.heap.size + 1, 0, none⟩ = some (.bool r.pvOn) := fun v h => box_at (blk_keep hh3 h) (by rw [hL]; rfl)
  have L1 : ∀ v : World, Below w2.heap.size w2 v → v.cell? ⟨w.heap.size + 1, 1, none⟩ = some (.int .i64 r.ext) := fun v h => box_at (blk_keep hh3 h) (by rw [hL]; rfl)
  have L2 : ∀ v : World, Below w2.heap.size w2 v → v.cell? ⟨w.heap.size + 1, 2, none⟩ = some (.int .i64 r.intl) := fun v h => box_at (blk_keep hh3 h) (by rw [hL]; rfl)
  have L3 : ∀ v : World, Below w2.heap.size w2 v → v.cell? ⟨w.heap.size + 1, 3, none⟩ = some (.slice a3 n3 c3) := fun v h => box_at (blk_keep hh3 h) (by rw [hL, ← hv3]; rfl)
  have L4 : ∀ v : World, Below w2.heap.size w2 v → v.cell? ⟨w.heap.size + 1, 4, none⟩ = some (.slice a4 n4 c4) := fun v h => box_at (blk_keep hh3 h) (by rw [hL, ← hv4]; rfl)
  have L5 : ∀ v : World, Below w2.heap.size w2 v → v.cell? ⟨w.heap.size + 1, 5, none⟩ = some (.slice a5 n5 c5) := fun v h => box_at (blk_keep hh3 h) (by rw [hL, ← hv5]; rfl)
  have L6 : ∀ v : World, Below w2.heap.size w2 v → v.cell? ⟨w.heap.size + 1, 6, none⟩ = some (.slice a6 n6 c6) := fun v h => box_at (blk_keep hh3 h) (by rw [hL, ← hv6]; rfl)
  have L7 : ∀ v : World, Below w2.heap.size w2 v → v.cell? ⟨w.heap.size + 1, 7, none⟩ = some (.slice a7 n7 c7) := fun v h => box_at (blk_keep hh3 h) (by rw [hL, ← hv7]; rfl)
  have A1 : ∀ v : World, Below w2.heap.size w2 v → v.cell? ⟨w.heap.size, 1, none⟩ = some (.int .i64 r.asn) := fun v h => box_at (blk_keep hh2 h) (by rw [hA]; rfl)
  have G2 : Below w2.heap.size w2 w2 := Below.refl _ _
  have H0 : Below w.heap.size w w1 := by rw [← hw1]; exact al1 _ _
  have H2 : Below w1.heap.size w1 w2 := by rw [← hw2]; exact al1 _ _
  have H := hid (then_ H0 H2)
  have hAL : ∀ j v, (ePV r)[j]? = some v → A[17 + j]? = some v := by
    intro j v hj
    rw [hA]
    match j, hj with
    | 0, hj => exact hj
    | 1, hj => exact hj
    | 2, hj => exact hj
    | 3, hj => exact hj
    | 4, hj => exact hj
    | 5, hj => exact hj
    | 6, hj => exact hj
    | 7, hj => exact hj
    | (j + 8), hj => simp [ePV] at hj
  have hNb := fun wx (h : Below w.heap.size w wx) => chkNbrs r wx (hr.keep h)
  have hNe := fun wx (h : Below w.heap.size w wx) => chkNets (.slice a4 n4 c4) r.nets wx (by rw [← hv4]; exact hr.nets.keep h) hr.netsA
  have hAg := fun wx (h : Below w.heap.size w wx) => chkAggs (.slice a5 n5 c5) r.aggs wx (by rw [← hv5]; exact hr.aggs.keep h) hr.aggsA
  have hCn := fun wx (h : Below w.heap.size w wx) => chkCnds (.slice a6 n6 c6) r.cnds wx (by rw [← hv6]; exact hr.cnds.keep h) hr.cndsA
  have hD := fun wx (h : Below w.heap.size w wx) => chkReds r pvT (.slice a7 n7 c7) r.pvr wx (hr.keep h) (by rw [← hv7]; exact hr.pvr.keep h)
  have hOr := hid (show pvE r = if !r.pvOn then (if !decide (r.ext = 0) || !decide (r.intl = 0) || decide (0 < r.nbrs.length) || decide (0 < r.nets.length) || decide (0 < r.aggs.length) || decide (0 < r.cnds.length) || decide (0 < r.pvr.length) then 1 else 0)
    else if decide (r.asn = 0) || !wi r.ext 1 255 || !wi r.intl 1 255 then 1 else orE [nbrsE r.maps r.nbrs, netsE r.nets, aggsE r.aggs, cndsE r.cnds, redsE r.maps pvT r.pvr] from rfl)
  obtain ⟨e1, he1⟩ : ∃ e1, e1 = nbrsE r.maps r.nbrs := ⟨_, rfl⟩
  obtain ⟨e2, he2⟩ : ∃ e2, e2 = netsE r.nets := ⟨_, rfl⟩
  obtain ⟨e3, he3⟩ : ∃ e3, e3 = aggsE r.aggs := ⟨_, rfl⟩
  obtain ⟨e4, he4⟩ : ∃ e4, e4 = cndsE r.cnds := ⟨_, rfl⟩
  obtain ⟨e5, he5⟩ : ∃ e5, e5 = redsE r.maps pvT r.pvr := ⟨_, rfl⟩
  rw [← he1, ← he2, ← he3, ← he4, ← he5, ← hn3, ← hn4, ← hn5, ← hn6, ← hn7] at hOr
  rw [← he1, ← hA] at hNb
  rw [← he2] at hNe
  rw [← he3] at hAg
  rw [← he4] at hCn
  rw [← he5, ← hA] at hD
  simp only [eInto, pvT] at hD
  have hO : ∀ wx : World, Calls Tryz.prog 97 #[.slice (some ⟨wx.heap.size, 0, none⟩) 5 5] (wx.alloc (.cells #[.int .i64 e1, .int .i64 e2, .int .i64 e3, .int .i64 e4, .int .i64 e5] 43)) fun e w' => e = .returned (.int .i64 (orE [e1, e2, e3, e4, e5])) ∧ wx.alloc (.cells #[.int .i64 e1, .int .i64 e2, .int .i64 e3, .int .i64 e4, .int .i64 e5] 43) = w' :=
    fun wx => orAt [e1, e2, e3, e4, e5] wx 43 (by simp)
  obtain ⟨e6, he6⟩ : ∃ e6, e6 = orE [e1, e2, e3, e4, e5] := ⟨_, rfl⟩
  rw [← he6] at hO hOr
  clear he1 he2 he3 he4 he5 he6
  obtain ⟨P, hP⟩ : ∃ P, P = Tryz.prog := ⟨_, rfl⟩
  have HP := hid hP
  have mixed : P.follows .mixedOrders = true := by rw [hP]; kernel_rfl
  have FG : P.funcs[27]? = some Tryz.f27 := by rw [hP]; exact Tryz.func27
  obtain ⟨zRouter, hzRouter⟩ : ∃ z, z = 25 := ⟨_, rfl⟩
  have nzRouter : ¬ zRouter = 0 := by omega
  obtain ⟨zPathVector, hzPathVector⟩ : ∃ z, z = 8 := ⟨_, rfl⟩
  have nzPathVector : ¬ zPathVector = 0 := by omega
  have ty3 := Tryz.underlying3; have ag3 := Tryz.isAgg3; have sz3 := Tryz.sizeOf3; have ru3 := Tryz.runUnderlying3
  have ty4 := Tryz.underlying4; have ag4 := Tryz.isAgg4; have sz4 := Tryz.sizeOf4; have ru4 := Tryz.runUnderlying4
  have ty29 := Tryz.underlying29; have ag29 := Tryz.isAgg29; have sz29 := Tryz.sizeOf29; have ru29 := Tryz.runUnderlying29
  have ty34 := Tryz.underlying34; have ag34 := Tryz.isAgg34; have sz34 := Tryz.sizeOf34; have ru34 := Tryz.runUnderlying34
  have ty35 := Tryz.underlying35; have ag35 := Tryz.isAgg35; have sz35 := Tryz.sizeOf35; have ru35 := Tryz.runUnderlying35
  have ty36 := Tryz.underlying36; have ag36 := Tryz.isAgg36; have sz36 := Tryz.sizeOf36; have ru36 := Tryz.runUnderlying36
  have ty37 := Tryz.underlying37; have ag37 := Tryz.isAgg37; have sz37 := Tryz.sizeOf37; have ru37 := Tryz.runUnderlying37
  have ty39 := Tryz.underlying39; have ag39 := Tryz.isAgg39; have sz39 := Tryz.sizeOf39; have ru39 := Tryz.runUnderlying39
  rw [← hzPathVector] at sz39
  have zePathVector := Tryz.zeroValue39
  have ty41 := Tryz.underlying41; have ag41 := Tryz.isAgg41; have sz41 := Tryz.sizeOf41; have ru41 := Tryz.runUnderlying41
  rw [← hzRouter] at sz41
  have ty43 := Tryz.underlying43; have ag43 := Tryz.isAgg43; have sz43 := Tryz.sizeOf43; have ru43 := Tryz.runUnderlying43
  have zeErrno := Tryz.zeroValue43
  have ty89 := Tryz.underlying77; have ag89 := Tryz.isAgg77; have sz89 := Tryz.sizeOf77; have ru89 := Tryz.runUnderlying77
  have zeSErrno := Tryz.zeroValue77
  have ty157 := Tryz.underlying138; have ag157 := Tryz.isAgg138; have sz157 := Tryz.sizeOf138; have ru157 := Tryz.runUnderlying138
  have zetarget := Tryz.zeroValue138
  have en0 : ∀ args w, (callFunc 97 args).run Tryz.prog w = .ok (.enter 97 args) w := enters_of Tryz.func97 (by kernel_rfl) rfl
  have en1 : ∀ args w, (callFunc 102 args).run Tryz.prog w = .ok (.enter 102 args) w := enters_of Tryz.func102 (by kernel_rfl) rfl
  have en2 : ∀ args w, (callFunc 103 args).run Tryz.prog w = .ok (.enter 103 args) w := enters_of Tryz.func103 (by kernel_rfl) rfl
  have en3 : ∀ args w, (callFunc 100 args).run Tryz.prog w = .ok (.enter 100 args) w := enters_of Tryz.func100 (by kernel_rfl) rfl
  have en4 : ∀ args w, (callFunc 101 args).run Tryz.prog w = .ok (.enter 101 args) w := enters_of Tryz.func101 (by kernel_rfl) rfl
  have en5 : ∀ args w, (callFunc 99 args).run Tryz.prog w = .ok (.enter 99 args) w := enters_of Tryz.func99 (by kernel_rfl) rfl
  have en6 : ∀ args w, (callFunc 64 args).run Tryz.prog w = .ok (.enter 64 args) w := enters_of Tryz.func64 (by kernel_rfl) rfl
  rw [← hP] at ty3 ag3 sz3 ru3 ty4 ag4 sz4 ru4 ty29 ag29 sz29 ru29 ty34 ag34 sz34 ru34 ty35 ag35 sz35 ru35 ty36 ag36 sz36 ru36 ty37 ag37 sz37 ru37 ty39 ag39 sz39 ru39 zePathVector ty41 ag41 sz41 ru41 ty43 ag43 sz43 ru43 zeErrno ty89 ag89 sz89 ru89 zeSErrno ty157 ag157 sz157 ru157 zetarget en0 en1 en2 en3 en4 en5 en6 hWi hNb hNe hAg hCn hD hO ⊢
  clear hP
  have hp0 : Sem.run P (loadCellsFrom ⟨w.heap.size, 17, none⟩ 0 zPathVector #[]) w1 = .ok L w1 := by
    rw [hL, hzPathVector]; exact ld_part P hh1 rfl hAL
  obtain ⟨Z, hZ, hZs⟩ : ∃ Z : Array Value, (∀ w, (zeroValue 39).run P w = .ok (.agg Z) w) ∧ Z.size = zPathVector := ⟨_, zePathVector, by rw [hzPathVector]; rfl⟩
  have hinfo : (P.info? 39).map (·.size) = some zPathVector := by rw [HP.out, hzPathVector]; kernel_rfl
  have hst := run_storeCells_new (P := P) w1 39 Z L (by rw [hLs, ← hzPathVector]; exact hinfo) (by rw [hZs, hLs, hzPathVector]) hLone
  rw [s1, hw2] at hst
  have hLz : L.size = zPathVector := by rw [hLs, hzPathVector]
  have LA : ∀ v : World, Below w2.heap.size w2 v → Sem.run P (loadCellsFrom ⟨w.heap.size, 0, none⟩ 0 zRouter #[]) v = .ok A v := fun v h => ld_box P (blk_keep hh2 h) (by rw [hzRouter]; exact hAs)
  rw [← hA]
  clear zePathVector hinfo hZs hLs hAs hLone hAL hh1 hh2 hh3 H0 H2 hzRouter hzPathVector hL hA hv3 hv4 hv5 hv6 hv7 hr hn3 hn4 hn5 hn6 hn7
  cases hon : r.pvOn with
  | false =>
    rw [hon] at L0
    have R := hid (show pvE r = (if !decide (r.ext = 0) || !decide (r.intl = 0) || decide (0 < n3) || decide (0 < n4) || decide (0 < n5) || decide (0 < n6) || decide (0 < n7) then 1 else 0) by rw [hOr.out, hon]; rfl)
    clear hOr hNb hNe hAg hCn hD hO
    by_cases q1 : r.ext = 0
    · skip
      by_cases q2 : r.intl = 0
      · skip
        by_cases q3 : ¬ 0 < n3
        · skip
          by_cases q4 : ¬ 0 < n4
          · skip
            by_cases q5 : ¬ 0 < n5
            · skip
              by_cases q6 : ¬ 0 < n6
              · skip
                by_cases q7 : ¬ 0 < n7
                · skip
                  go_enter FG, Tryz.ntmps27
                  repeat' (first | go_skip | go_guarded | go_step | go_upon)
                  all_goals go_ret
                  all_goals exact ⟨ret_int (by rw [R.out]; (try unfold noS); simp_all), H.out⟩
                · skip
                  have q7 : 0 < n7 := by omega
                  go_enter FG, Tryz.ntmps27
                  repeat' (first | go_skip | go_guarded | go_step | go_upon)
                  all_goals go_ret
                  all_goals exact ⟨ret_int (by rw [R.out]; (try unfold noS); simp_all), H.out⟩
              · skip
                have q6 : 0 < n6 := by omega
                go_enter FG, Tryz.ntmps27
                repeat' (first | go_skip | go_guarded | go_step | go_upon)
                all_goals go_ret
                all_goals exact ⟨ret_int (by rw [R.out]; (try unfold noS); simp_all), H.out⟩
            · skip
              have q5 : 0 < n5 := by omega
              go_enter FG, Tryz.ntmps27
              repeat' (first | go_skip | go_guarded | go_step | go_upon)
              all_goals go_ret
              all_goals exact ⟨ret_int (by rw [R.out]; (try unfold noS); simp_all), H.out⟩
          · skip
            have q4 : 0 < n4 := by omega
            go_enter FG, Tryz.ntmps27
            repeat' (first | go_skip | go_guarded | go_step | go_upon)
            all_goals go_ret
            all_goals exact ⟨ret_int (by rw [R.out]; (try unfold noS); simp_all), H.out⟩
        · skip
          have q3 : 0 < n3 := by omega
          go_enter FG, Tryz.ntmps27
          repeat' (first | go_skip | go_guarded | go_step | go_upon)
          all_goals go_ret
          all_goals exact ⟨ret_int (by rw [R.out]; (try unfold noS); simp_all), H.out⟩
      · skip
        go_enter FG, Tryz.ntmps27
        repeat' (first | go_skip | go_guarded | go_step | go_upon)
        all_goals go_ret
        all_goals exact ⟨ret_int (by rw [R.out]; (try unfold noS); simp_all), H.out⟩
    · skip
      go_enter FG, Tryz.ntmps27
      repeat' (first | go_skip | go_guarded | go_step | go_upon)
      all_goals go_ret
      all_goals exact ⟨ret_int (by rw [R.out]; (try unfold noS); simp_all), H.out⟩
  | true =>
    rw [hon] at L0
    have R := hid (show pvE r = (if decide (r.asn = 0) || !wi r.ext 1 255 || !wi r.intl 1 255 then 1 else e6) by rw [hOr.out, hon]; rfl)
    obtain ⟨w3, hw3⟩ : ∃ w3, w2.alloc (.cells #[.int .i64 5, .int .i64 0, .int .i64 16777215, .int .i64 0, .int .i64 0] 138) = w3 := ⟨_, rfl⟩
    have hh4 : w3.heap[w2.heap.size]? = some (.cells #[.int .i64 5, .int .i64 0, .int .i64 16777215, .int .i64 0, .int .i64 0] 138 (0, 0)) := by rw [← hw3, heap_new]
    have H23 : Below w2.heap.size w2 w3 := by rw [← hw3]; exact al1 _ _
    have G3 : Below w3.heap.size w3 w3 := Below.refl _ _
    have H3 := hid (then_ H.out H23)
    have T0 : ∀ v : World, Below w3.heap.size w3 v → v.cell? ⟨w2.heap.size, 0, none⟩ = some (.int .i64 5) := fun v h => box_at (blk_keep hh4 h) rfl
    have T1 : ∀ v : World, Below w3.heap.size w3 v → v.cell? ⟨w2.heap.size, 1, none⟩ = some (.int .i64 0) := fun v h => box_at (blk_keep hh4 h) rfl
    have T2 : ∀ v : World, Below w3.heap.size w3 v → v.cell? ⟨w2.heap.size, 2, none⟩ = some (.int .i64 16777215) := fun v h => box_at (blk_keep hh4 h) rfl
    have T3 : ∀ v : World, Below w3.heap.size w3 v → v.cell? ⟨w2.heap.size, 3, none⟩ = some (.int .i64 0) := fun v h => box_at (blk_keep hh4 h) rfl
    have T4 : ∀ v : World, Below w3.heap.size w3 v → v.cell? ⟨w2.heap.size, 4, none⟩ = some (.int .i64 0) := fun v h => box_at (blk_keep hh4 h) rfl
    have hNb := fun wx (h : Below w3.heap.size w3 wx) => hNb wx (then_ H3.out h)
    have hNe := fun wx (h : Below w3.heap.size w3 wx) => hNe wx (then_ H3.out h)
    have hAg := fun wx (h : Below w3.heap.size w3 wx) => hAg wx (then_ H3.out h)
    have hCn := fun wx (h : Below w3.heap.size w3 wx) => hCn wx (then_ H3.out h)
    have hD := fun wx (h : Below w3.heap.size w3 wx) => hD wx (then_ H3.out h)
    have M4 := fun v h => L4 v (then_ H23 h)
    have M5 := fun v h => L5 v (then_ H23 h)
    have M6 := fun v h => L6 v (then_ H23 h)
    have M7 := fun v h => L7 v (then_ H23 h)
    have MA := fun v h => LA v (then_ H23 h)
    have hw3h := hid hw3
    clear hOr hh4 H23 L3 hw3
    have uT0 := fun u : Later w3.heap.size w3 => T0 u.w u.h
    have uT1 := fun u : Later w3.heap.size w3 => T1 u.w u.h
    have uT2 := fun u : Later w3.heap.size w3 => T2 u.w u.h
    have uT3 := fun u : Later w3.heap.size w3 => T3 u.w u.h
    have uT4 := fun u : Later w3.heap.size w3 => T4 u.w u.h
    have uM4 := fun u : Later w3.heap.size w3 => M4 u.w u.h
    have uM5 := fun u : Later w3.heap.size w3 => M5 u.w u.h
    have uM6 := fun u : Later w3.heap.size w3 => M6 u.w u.h
    have uM7 := fun u : Later w3.heap.size w3 => M7 u.w u.h
    have uMA := fun u : Later w3.heap.size w3 => MA u.w u.h
    go_enter FG, Tryz.ntmps27
    repeat' (first | (go_at_call 64; with_reducible refine (hWi _ _ _ _).mono ?_; rintro e w' ⟨rfl, rfl⟩; try dsimp only) | go_skip | go_guarded | go_step | go_upon)
    all_goals try (go_ret; exact ⟨ret_int (by rw [R.out]; simp_all), H.out⟩)
    rw [hw3h.out]
    refine wp_region_qtail 16 w3 G3 mixed (by kernel_rfl) ?_
    simp only [List.take_succ_cons, List.take_zero, List.drop_succ_cons, List.drop_zero]
    repeat (go_big_quiet_step (first | (go_at_call 100; with_reducible exact later_of (Nat.le_refl _) (hNb _ (Later.h _))) | (go_at_call 101; with_reducible exact later_of (Nat.le_refl _) (hNe _ (Later.h _))) | (go_at_call 102; with_reducible exact later_of (Nat.le_refl _) (hAg _ (Later.h _))) | (go_at_call 103; with_reducible exact later_of (Nat.le_refl _) (hCn _ (Later.h _))) | (go_at_call 99; with_reducible exact later_of (Nat.le_refl _) (hD _ (Later.h _)))))
    refine wpQuiet_nil ?_
    rintro _ ⟨u, rfl⟩
    have bu := u.h
    repeat' (first | (go_at_call 97; with_reducible refine (hO _).mono ?_; rintro e w' ⟨rfl, rfl⟩; try dsimp only) | go_skip | go_guarded | go_step | go_upon)
    all_goals go_ret
    all_goals exact ⟨ret_int (by rw [R.out]; simp_all), then_ (then_ H3.out bu) (al1 _ _)⟩
end Go.Proofs.YtlhbfpapmolohaaGreat.Mw
