/-
  THE CONTRACT OF netverifyref8.linkState.
-/
import Derived.Test.YtlhbfpapmolohaaModRp
namespace Go.Proofs.Ytlhbfpapmolohaa.Mw
set_option linter.unusedSimpArgs false
set_option linter.unusedVariables false
open Go.RowKit Kt Mm Mp Am

def zeroLS : Array Value := #[.bool false, .int .i64 0, .slice none 0 0, .slice none 0 0]
theorem lsT_eq : mkT 3 0 16777215 = lsT := rfl
theorem orE2 (p q : Int) : orE [p, q] = if p = 0 then q else p := by
  unfold orE; split
  · unfold orE; split
    · rename_i h; rw [h]; rfl
    · rfl
  · rfl

set_option maxHeartbeats 16000000 in
set_option maxRecDepth 4000 in
theorem rLink (r : Rtr) (w : World) (hr : RtrIn w r) :
    Calls Try.prog 53 #[.agg (eRtr r).toArray] w fun e w' => e = .returned (.int .i64 (lsE r)) ∧ Below w.heap.size w w' := by
  have hWi := fun (p q t : Int) wx => rWithin p q t wx
  have hVa := fun (p : Pfx) wx (h : low p.addr) => Ad.refValid p.addr p.len wx h
  have hOv := fun (p q : Pfx) wx (h : low p.addr) (k : low q.addr) => Ad.refOverlaps p.addr p.len q.addr q.len wx h k
  obtain ⟨X, hX⟩ : ∃ X, X = (eRtr r).toArray := ⟨_, rfl⟩
  obtain ⟨w1, hw1⟩ : ∃ w1, w.alloc (.cells X 55) = w1 := ⟨_, rfl⟩
  have hhX : w1.heap[w.heap.size]? = some (.cells X 55 (0, 0)) := by rw [← hw1, heap_new]
  have KX : ∀ v : World, Below w1.heap.size w1 v → v.heap[w.heap.size]? = some (.cells X 55 (0, 0)) := fun v h => blk_keep hhX h
  have GX : Below w1.heap.size w1 w1 := Below.refl _ _
  have HX := hid (show Below w.heap.size w w1 by rw [← hw1]; exact new_below _ _)
  have hX' := hid hX
  try rw [← hX]
  clear hX hhX
  have hRe := fun wx (h : Below w1.heap.size w1 wx) => rReds r r.vLsr r.lsr 3 0 16777215 wx (hr.keep (then_ HX.out h)) (hr.keep (then_ HX.out h)).lsr
  rw [← hX'.out, lsT_eq] at hRe
  have hXs : X.size = 25 := by rw [hX'.out]; rfl
  have HR := hid (hr.keep HX.out)
  obtain ⟨l, hll⟩ : ∃ l, l = r.rngs := ⟨_, rfl⟩
  obtain ⟨a, cap, hv, hcap, hcell⟩ := rows_open (z := 3) (by decide) HR.out.rngs.row
  obtain ⟨a2, cap2, hv2, hcap2, -⟩ := rows_open (z := 5) (by decide) HR.out.lsr.row
  rw [← hll] at hcell hv hcap
  obtain ⟨n, hn⟩ : ∃ n, n = l.length := ⟨_, rfl⟩
  obtain ⟨m, hm⟩ : ∃ n, n = r.lsr.length := ⟨_, rfl⟩
  have hl : l.length ≤ 9223372036854775807 := by rw [hll]; exact HR.out.rngs.len
  have R0 := hid (show rngsE l = if 4 < l.length then 7 else firstE (rngE l) 0 l from rfl)
  rw [← hn] at hl hcap hcell hv R0
  rw [← hm] at hcap2 hv2
  have N := hid hn
  have HC := hid hcell
  have RA := hid (show ∀ x ∈ l, low x.pfx.addr by rw [hll]; exact HR.out.rngsA)
  obtain ⟨Y, hY⟩ : ∃ Y, Y = (eLS r).toArray := ⟨_, rfl⟩
  have hYs : Y.size = 4 := by rw [hY]; rfl
  have hY1 := hid (show Y.all (·.oneCell') = true by rw [hY]; simp [eLS, one_str, one_int, one_bool, row_one HR.out.rngs.row, row_one HR.out.lsr.row])
  obtain ⟨on, hon⟩ : ∃ q, q = r.lsOn := ⟨_, rfl⟩
  have y0 : Y[0]? = some (.bool on) := by rw [hY, hon]; rfl
  have y1 : Y[1]? = some (.int .i64 r.lsAdmin) := by rw [hY]; rfl
  have y2 : Y[2]? = some (.slice a n cap) := by rw [hY, ← hv]; rfl
  have y3 : Y[3]? = some (.slice a2 m cap2) := by rw [hY, ← hv2]; rfl
  rw [hv2] at hRe
  have d1 := fun wx => hWi r.lsAdmin 1 255 wx
  obtain ⟨a1, ha1⟩ : ∃ q, q = wi r.lsAdmin 1 255 := ⟨_, rfl⟩
  obtain ⟨er, her⟩ : ∃ q, q = redsE r.maps lsT r.lsr := ⟨_, rfl⟩
  rw [← ha1] at d1
  rw [← her] at hRe
  have FE := hid (show lsE r = if !on then (if !decide (r.lsAdmin = 0) || decide (0 < n) || decide (0 < m) then 1 else 0) else if !a1 then 1 else if rngsE l = 0 then er else rngsE l by
    rw [hon, hn, hm, hll, ha1, her, ← orE2]; rfl)
  clear hr hn hm hv hv2 hcell hon ha1 her hll
  obtain ⟨P, hP⟩ : ∃ P, P = Try.prog := ⟨_, rfl⟩
  have HP := hid hP
  have mixed : P.follows .mixedOrders = true := by rw [hP]; kernel_rfl
  have FG : P.funcs[53]? = some Try.f53 := by rw [hP]; exact Try.func53
  obtain ⟨zRouter, hzRouter⟩ : ∃ z, z = 25 := ⟨_, rfl⟩
  have nzRouter : ¬ zRouter = 0 := by omega
  obtain ⟨zLinkState, hzLinkState⟩ : ∃ z, z = 4 := ⟨_, rfl⟩
  have nzLinkState : ¬ zLinkState = 0 := by omega
  have ty3 := Try.underlying3; have ag3 := Try.isAgg3; have sz3 := Try.sizeOf3; have ru3 := Try.runUnderlying3
  have ty4 := Try.underlying4; have ag4 := Try.isAgg4; have sz4 := Try.sizeOf4; have ru4 := Try.runUnderlying4
  have ty42 := Try.underlying42; have ag42 := Try.isAgg42; have sz42 := Try.sizeOf42; have ru42 := Try.runUnderlying42
  have ty43 := Try.underlying43; have ag43 := Try.isAgg43; have sz43 := Try.sizeOf43; have ru43 := Try.runUnderlying43
  have ty45 := Try.underlying45; have ag45 := Try.isAgg45; have sz45 := Try.sizeOf45; have ru45 := Try.runUnderlying45
  rw [← hzLinkState] at sz45
  have zeLinkState := Try.zeroValue45
  have ty55 := Try.underlying55; have ag55 := Try.isAgg55; have sz55 := Try.sizeOf55; have ru55 := Try.runUnderlying55
  rw [← hzRouter] at sz55
  have ty27 := Try.underlying27; have ag27 := Try.isAgg27; have sz27 := Try.sizeOf27; have ru27 := Try.runUnderlying27
  have ty123 := Try.underlying123; have ag123 := Try.isAgg123; have sz123 := Try.sizeOf123; have ru123 := Try.runUnderlying123
  have en0 : ∀ args w, (callFunc 63 args).run Try.prog w = .ok (.enter 63 args) w := enters_of Try.func63 (by kernel_rfl) rfl
  have en1 : ∀ args w, (callFunc 9 args).run Try.prog w = .ok (.enter 9 args) w := enters_of Try.func9 (by kernel_rfl) rfl
  have en2 : ∀ args w, (callFunc 68 args).run Try.prog w = .ok (.enter 68 args) w := enters_of Try.func68 (by kernel_rfl) rfl
  have en3 : ∀ args w, (callFunc 45 args).run Try.prog w = .ok (.enter 45 args) w := enters_of Try.func45 (by kernel_rfl) rfl
  rw [← hP] at ty3 ag3 sz3 ru3 ty4 ag4 sz4 ru4 ty42 ag42 sz42 ru42 ty43 ag43 sz43 ru43 ty45 ag45 sz45 ru45 zeLinkState ty55 ag55 sz55 ru55 ty27 ag27 sz27 ru27 ty123 ag123 sz123 ru123 en0 en1 en2 en3 hWi hVa hOv d1 hRe ⊢
  clear hP
  have LX : ∀ v : World, Below w1.heap.size w1 v → Sem.run P (loadCellsFrom ⟨w.heap.size, 0, none⟩ 0 zRouter #[]) v = .ok X v := fun v h => ld_box P (KX v h) (by rw [hzRouter]; exact hXs)
  have ZR := hid hzRouter
  have ZV := hid hzLinkState
  clear hzRouter hzLinkState
  have LV : Sem.run P (loadCellsFrom ⟨w.heap.size, 8, none⟩ 0 zLinkState #[]) w1 = .ok Y w1 := by
    rw [ZV.out, hY]; exact ld_part P (KX w1 GX) rfl (fun j u hj => by rw [hX'.out]; exact part_of (e := eLS) (x := r) (n := 4) rfl j u hj)
  clear KX hY
  go_enter FG, Try.ntmps53
  repeat' ((fail_if_success (with_reducible show Hid _)); (first | ((with_reducible show Oper.wp _ ⟨_, .store 45 _ _, _, _, _, _⟩ _ _ _ _); refine stopF ?_) | go_skip | go_guarded | go_step | go_upon))
  refine hid ?_
  refine wp_store_box (w := w1.alloc (.cells zeroLS 45)) 45 _ _ (by rfl) (g := w1.heap.size) (cur := zeroLS) (X := Y) (by rfl) (by rfl) (by intro v; rw [hYs, ← ZV.out]; first | exact sz45 v | assumption) (heap_new _ _) (by rw [hYs]; rfl) hY1.out ?_
  intro w4 h1 h2 h3
  have HW4 := hid (show Below w1.heap.size w1 w4 from (al1 w1 _).trans (h3 _ (Nat.le_refl _)))
  have G4 : Below w4.heap.size w4 w4 := Below.refl _ _
  have FY0 : ∀ v : World, Below w4.heap.size w4 v → v.cell? ⟨w1.heap.size, 0, none⟩ = some (.bool on) := fun v h => box_at (blk_keep h1 h) y0
  have FY1 : ∀ v : World, Below w4.heap.size w4 v → v.cell? ⟨w1.heap.size, 1, none⟩ = some (.int .i64 r.lsAdmin) := fun v h => box_at (blk_keep h1 h) y1
  have FY2 : ∀ v : World, Below w4.heap.size w4 v → v.cell? ⟨w1.heap.size, 2, none⟩ = some (.slice a n cap) := fun v h => box_at (blk_keep h1 h) y2
  have FY3 : ∀ v : World, Below w4.heap.size w4 v → v.cell? ⟨w1.heap.size, 3, none⟩ = some (.slice a2 m cap2) := fun v h => box_at (blk_keep h1 h) y3
  have LX4 := fun (v : World) (h : Below w4.heap.size w4 v) => LX v (then_ HW4.out h)
  have eRe := fun wx (h : Below w4.heap.size w4 wx) => hRe wx (then_ HW4.out h)
  clear h1 h2 h3 LV LX hYs y0 y1 y2 y3 hRe
  cases on
  case false =>
    by_cases h0 : r.lsAdmin = 0
    · have h0b : (r.lsAdmin != 0) = false := by simpa using h0
      have H0 := hid h0
      clear h0
      by_cases n0 : 0 < n
      · have n0i : (0 : Int) < (n : Int) := by omega
        repeat' (first | (go_at_call 45; with_reducible refine (d1 _).mono ?_; rintro e w' ⟨rfl, rfl⟩; try dsimp only) | (go_at_call 68; with_reducible refine (eRe _ (by assumption)).mono ?_; rintro e w' ⟨rfl, b⟩; have b' := then_ (w := w4) (by assumption) b; clear b; try dsimp only) | go_skip | go_guarded | go_step | go_upon)
        (try simp only [Exit.inBlock, Exit.then]); refine bodyPost_ret (results_tmp (by rfl) _ _ _) (by rfl) ?_
        exact ⟨ret_int (by rw [FE.out]; simp [H0.out, n0]), then_ HX.out (then_ HW4.out (by assumption))⟩
      have n0i : ¬ (0 : Int) < (n : Int) := by omega
      by_cases m0 : 0 < m
      · have m0i : (0 : Int) < (m : Int) := by omega
        repeat' (first | (go_at_call 45; with_reducible refine (d1 _).mono ?_; rintro e w' ⟨rfl, rfl⟩; try dsimp only) | (go_at_call 68; with_reducible refine (eRe _ (by assumption)).mono ?_; rintro e w' ⟨rfl, b⟩; have b' := then_ (w := w4) (by assumption) b; clear b; try dsimp only) | go_skip | go_guarded | go_step | go_upon)
        (try simp only [Exit.inBlock, Exit.then]); refine bodyPost_ret (results_tmp (by rfl) _ _ _) (by rfl) ?_
        exact ⟨ret_int (by rw [FE.out]; simp [H0.out, m0]), then_ HX.out (then_ HW4.out (by assumption))⟩
      have m0i : ¬ (0 : Int) < (m : Int) := by omega
      repeat' (first | (go_at_call 45; with_reducible refine (d1 _).mono ?_; rintro e w' ⟨rfl, rfl⟩; try dsimp only) | (go_at_call 68; with_reducible refine (eRe _ (by assumption)).mono ?_; rintro e w' ⟨rfl, b⟩; have b' := then_ (w := w4) (by assumption) b; clear b; try dsimp only) | go_skip | go_guarded | go_step | go_upon)
      (try simp only [Exit.inBlock, Exit.then]); refine bodyPost_ret (results_tmp (by rfl) _ _ _) (by rfl) ?_
      exact ⟨ret_int (by rw [FE.out]; simp [H0.out]; omega), then_ HX.out (then_ HW4.out (by assumption))⟩
    · have h0b : (r.lsAdmin != 0) = true := by simpa using h0
      have H0 := hid h0
      clear h0
      repeat' (first | (go_at_call 45; with_reducible refine (d1 _).mono ?_; rintro e w' ⟨rfl, rfl⟩; try dsimp only) | (go_at_call 68; with_reducible refine (eRe _ (by assumption)).mono ?_; rintro e w' ⟨rfl, b⟩; have b' := then_ (w := w4) (by assumption) b; clear b; try dsimp only) | go_skip | go_guarded | go_step | go_upon)
      (try simp only [Exit.inBlock, Exit.then]); refine bodyPost_ret (results_tmp (by rfl) _ _ _) (by rfl) ?_
      exact ⟨ret_int (by rw [FE.out]; simp [H0.out]), then_ HX.out (then_ HW4.out (by assumption))⟩
  case true =>
    cases a1
    case false =>
      repeat' (first | (go_at_call 45; with_reducible refine (d1 _).mono ?_; rintro e w' ⟨rfl, rfl⟩; try dsimp only) | (go_at_call 68; with_reducible refine (eRe _ (by assumption)).mono ?_; rintro e w' ⟨rfl, b⟩; have b' := then_ (w := w4) (by assumption) b; clear b; try dsimp only) | go_skip | go_guarded | go_step | go_upon)
      (try simp only [Exit.inBlock, Exit.then]); refine bodyPost_ret (results_tmp (by rfl) _ _ _) (by rfl) ?_
      exact ⟨ret_int (by rw [FE.out]; simp), then_ HX.out (then_ HW4.out (by assumption))⟩
    by_cases h4 : 4 < n
    · have h4i : (4 : Int) < (n : Int) := by omega
      have Z := hid (show rngsE l = 7 by rw [R0.out, if_pos h4])
      repeat' (first | (go_at_call 45; with_reducible refine (d1 _).mono ?_; rintro e w' ⟨rfl, rfl⟩; try dsimp only) | (go_at_call 68; with_reducible refine (eRe _ (by assumption)).mono ?_; rintro e w' ⟨rfl, b⟩; have b' := then_ (w := w4) (by assumption) b; clear b; try dsimp only) | go_skip | go_guarded | go_step | go_upon)
      (try simp only [Exit.inBlock, Exit.then]); refine bodyPost_ret (results_tmp (by rfl) _ _ _) (by rfl) ?_
      exact ⟨ret_int (by rw [FE.out]; rw [Z.out]; simp), then_ HX.out (then_ HW4.out (by assumption))⟩
    have h4i : ¬ (4 : Int) < (n : Int) := by omega
    have R1 := hid (R0.out.trans (if_neg h4))
    repeat' (first | (go_at_call 45; with_reducible refine (d1 _).mono ?_; rintro e w' ⟨rfl, rfl⟩; try dsimp only) | (go_at_call 68; with_reducible refine (eRe _ (by assumption)).mono ?_; rintro e w' ⟨rfl, b⟩; have b' := then_ (w := w4) (by assumption) b; clear b; try dsimp only) | go_skip | go_guarded | go_step | go_upon)
    clear R0 h4 h4i
    go_loopg [4] n (fun gg s4 wr => ∃ k : Nat, k ≤ n ∧ n - k ≤ gg ∧ s4 = .int .i64 k ∧ Below w4.heap.size w4 wr ∧ Aside (rngsE l = firstE (rngE l) k (l.drop k)))
    case atStart => exact ⟨0, Nat.zero_le _, by omega, rfl, by assumption, R1.out⟩
    case round =>
      obtain ⟨k, hk, hg, rfl, hwr, E⟩ := hrel
      have fx := FY2 wr hwr
      by_cases hlt : k < n
      · have hlti : (k : Int) < (n : Int) := by omega
        have hk0 : (0 : Int) ≤ (k : Int) := by omega
        obtain ⟨x, hx⟩ := get_some (l := l) (k := k) (by have := N.out; omega)
        obtain ⟨b, off, rfl, hb, hc⟩ := HC.out (by omega)
        have hcx := row_cells (f := eRng) (z := 3) (fun _ => rfl) hc hx
        have F0 : ∀ v : World, Below w4.heap.size w4 v → v.cell? ⟨b, off + k * 3, none⟩ = some (.int .i64 x.area) := fun v h => ((then_ HW4.out h).cell (p := ⟨b, off + k * 3, none⟩) hb).trans (hcx 0 _ rfl)
        have F1 : ∀ v : World, Below w4.heap.size w4 v → v.cell? ⟨b, off + k * 3 + 1, none⟩ = some (.int .u32 (x.pfx.addr : Int)) := fun v h => ((then_ HW4.out h).cell (p := ⟨b, off + k * 3 + 1, none⟩) hb).trans (hcx 1 _ rfl)
        have F2 : ∀ v : World, Below w4.heap.size w4 v → v.cell? ⟨b, off + k * 3 + 1 + 1, none⟩ = some (.int .i64 x.pfx.len) := fun v h => ((then_ HW4.out h).cell (p := ⟨b, off + k * 3 + 2, none⟩) hb).trans (hcx 2 _ rfl)
        have D := hid (drop_get hx)
        have f0 := F0 wr hwr
        have f1 := F1 wr hwr
        have f2 := F2 wr hwr
        have dW := fun wx => hWi x.area 0 255 wx
        have dV := fun wx => hVa x.pfx wx (RA.out x (get_mem hx))
        obtain ⟨b1, hb1⟩ : ∃ q, q = wi x.area 0 255 := ⟨_, rfl⟩
        obtain ⟨b2, hb2⟩ : ∃ q, q = vPf x.pfx := ⟨_, rfl⟩
        have hb3 : validB x.pfx.addr x.pfx.len = b2 := hb2.symm
        obtain ⟨tk, htk⟩ : ∃ q, q = (l.take k).any (fun y : Rng => decide (y.area = x.area) && ovP y.pfx x.pfx) := ⟨_, rfl⟩
        rw [← hb1] at dW
        rw [hb3] at dV
        unfold Ad.px at dV
        have GE := hid (show rngE l k x = if !b1 || !b2 then 1 else if tk then 6 else 0 by rw [hb1, hb2, htk]; rfl)
        have TK := hid htk
        clear hcx hb1 hb2 hb3 htk
        cases b1
        case false =>
          have Q2 := hid (show rngE l k x = 1 by rw [GE.out]; simp)
          repeat' (first | (go_at_call 45; with_reducible refine (dW _).mono ?_; rintro e w' ⟨rfl, rfl⟩; try dsimp only) | (go_at_call 9; with_reducible refine (dV _).mono ?_; rintro e w' ⟨rfl, b⟩; have b' := then_ (w := w4) (by assumption) b; clear b; try dsimp only) | go_skip | go_guarded | go_step | go_upon)
          (try simp only [Exit.inBlock, Exit.then]); refine bodyPost_ret (results_tmp (by rfl) _ _ _) (by rfl) ?_
          exact ⟨ret_int (by have Z : rngsE l = 1 := (E.out.trans (by rw [D.out]; exact (firstE_hit (by rw [Q2.out]; simp)).trans Q2.out)); rw [FE.out, Z]; simp), then_ HX.out (then_ HW4.out (by assumption))⟩
        cases b2
        case false =>
          have Q2 := hid (show rngE l k x = 1 by rw [GE.out]; simp)
          repeat' (first | (go_at_call 45; with_reducible refine (dW _).mono ?_; rintro e w' ⟨rfl, rfl⟩; try dsimp only) | (go_at_call 9; with_reducible refine (dV _).mono ?_; rintro e w' ⟨rfl, b⟩; have b' := then_ (w := w4) (by assumption) b; clear b; try dsimp only) | go_skip | go_guarded | go_step | go_upon)
          (try simp only [Exit.inBlock, Exit.then]); refine bodyPost_ret (results_tmp (by rfl) _ _ _) (by rfl) ?_
          exact ⟨ret_int (by have Z : rngsE l = 1 := (E.out.trans (by rw [D.out]; exact (firstE_hit (by rw [Q2.out]; simp)).trans Q2.out)); rw [FE.out, Z]; simp), then_ HX.out (then_ HW4.out (by assumption))⟩
        have Q3 := hid (show rngE l k x = if tk then 6 else 0 by rw [GE.out]; rfl)
        repeat' (first | (go_at_call 45; with_reducible refine (dW _).mono ?_; rintro e w' ⟨rfl, rfl⟩; try dsimp only) | (go_at_call 9; with_reducible refine (dV _).mono ?_; rintro e w' ⟨rfl, b⟩; have b' := then_ (w := w4) (by assumption) b; clear b; try dsimp only) | go_skip | go_guarded | go_step | go_upon)
        clear f0 f1 f2
        go_loopg [5] k (fun gg s5 wr => ∃ i : Nat, i ≤ k ∧ k - i ≤ gg ∧ s5 = .int .i64 i ∧ Below w4.heap.size w4 wr ∧ Aside (tk = ((l.take k).drop i).any (fun y : Rng => decide (y.area = x.area) && ovP y.pfx x.pfx)))
        case atStart => exact ⟨0, Nat.zero_le _, by omega, rfl, by assumption, TK.out⟩
        case round =>
          obtain ⟨i, hi, hgi, rfl, hwr2, T⟩ := hrel
          by_cases hik : i < k
          · have hiki : (i : Int) < (k : Int) := by omega
            have hin : (i : Int) < (n : Int) := by omega
            have hi0 : (0 : Int) ≤ (i : Int) := by omega
            obtain ⟨y, hy⟩ := get_some (l := l) (k := i) (by have := N.out; omega)
            have hcy := row_cells (f := eRng) (z := 3) (fun _ => rfl) hc hy
            have GS : Below wr.heap.size wr wr := Below.refl _ _
            have uX := fun u : Later wr.heap.size wr => FY2 u.w (then_ hwr2 u.h)
            have uF0 := fun u : Later wr.heap.size wr => F0 u.w (then_ hwr2 u.h)
            have uF1 := fun u : Later wr.heap.size wr => F1 u.w (then_ hwr2 u.h)
            have uF2 := fun u : Later wr.heap.size wr => F2 u.w (then_ hwr2 u.h)
            have uY0 : ∀ u : Later wr.heap.size wr, u.w.cell? ⟨b, off + i * 3, none⟩ = some (.int .i64 y.area) := fun u => ((then_ HW4.out (then_ hwr2 u.h)).cell (p := ⟨b, off + i * 3, none⟩) hb).trans (hcy 0 _ rfl)
            have uY1 : ∀ u : Later wr.heap.size wr, u.w.cell? ⟨b, off + i * 3 + 1, none⟩ = some (.int .u32 (y.pfx.addr : Int)) := fun u => ((then_ HW4.out (then_ hwr2 u.h)).cell (p := ⟨b, off + i * 3 + 1, none⟩) hb).trans (hcy 1 _ rfl)
            have uY2 : ∀ u : Later wr.heap.size wr, u.w.cell? ⟨b, off + i * 3 + 1 + 1, none⟩ = some (.int .i64 y.pfx.len) := fun u => ((then_ HW4.out (then_ hwr2 u.h)).cell (p := ⟨b, off + i * 3 + 2, none⟩) hb).trans (hcy 2 _ rfl)
            have dO := fun wx => hOv y.pfx x.pfx wx (RA.out y (get_mem hy)) (RA.out x (get_mem hx))
            obtain ⟨o, ho⟩ : ∃ q, q = ovP y.pfx x.pfx := ⟨_, rfl⟩
            have ho2 : ovlB y.pfx.addr y.pfx.len x.pfx.addr x.pfx.len = o := ho.symm
            rw [ho2] at dO
            unfold Ad.px at dO
            clear hcy ho2
            by_cases hq : y.area = x.area
            · have hqb : (y.area == x.area) = true := by simpa using hq
              have HQ := hid hq
              have HO := hid ho
              clear ho hq
              cases o
              case true =>
                have T2 := hid (T.out.trans (any_hit hy hik (by rw [decide_eq_true HQ.out, ← HO.out]; rfl)))
                have Q2 := hid (show rngE l k x = 6 by rw [Q3.out, T2.out]; rfl)
                repeat' (first | go_skip | go_guarded | go_step | go_upon)
                refine wp_region_base wr (by assumption) (by first | assumption | kernel_rfl) (by kernel_rfl) ?_
                repeat (go_big_quiet_step (first | (go_at_call 63; with_reducible exact later_of (Nat.le_refl _) (dO _))))
                refine wpQuiet_nil ?_
                rintro _ ⟨u, rfl⟩
                have bu := u.h
                repeat' (first | go_skip | go_guarded | go_step | go_upon)
                (try simp only [Exit.inBlock, Exit.then]); refine bodyPost_ret (results_tmp (by rfl) _ _ _) (by rfl) ?_
                exact ⟨ret_int (by have Z : rngsE l = 6 := (E.out.trans (by rw [D.out]; exact (firstE_hit (by rw [Q2.out]; simp)).trans Q2.out)); rw [FE.out, Z]; simp), then_ HX.out (then_ HW4.out (then_ hwr2 (by assumption)))⟩
              case false =>
                have T2 := hid (T.out.trans (any_next hy hik (by rw [← HO.out]; exact Bool.and_false _)))
                repeat' (first | go_skip | go_guarded | go_step | go_upon)
                refine wp_region_base wr (by assumption) (by first | assumption | kernel_rfl) (by kernel_rfl) ?_
                repeat (go_big_quiet_step (first | (go_at_call 63; with_reducible exact later_of (Nat.le_refl _) (dO _))))
                refine wpQuiet_nil ?_
                rintro _ ⟨u, rfl⟩
                have bu := u.h
                repeat' (first | go_skip | go_guarded | go_step | go_upon)
                go_roundg (k - (i + 1))
                case measure => omega
                case rel => exact ⟨i + 1, by omega, by omega, by go_num, then_ hwr2 (by assumption), T2.out⟩
            · have hqb : (y.area == x.area) = false := by simpa using hq
              have T2 := hid (T.out.trans (any_next hy hik (by rw [decide_eq_false hq]; rfl)))
              repeat' (first | go_skip | go_guarded | go_step | go_upon)
              refine wp_region_base wr (by assumption) (by first | assumption | kernel_rfl) (by kernel_rfl) ?_
              repeat (go_big_quiet_step (first | (go_at_call 63; with_reducible exact later_of (Nat.le_refl _) (dO _))))
              refine wpQuiet_nil ?_
              rintro _ ⟨u, rfl⟩
              have bu := u.h
              repeat' (first | go_skip | go_guarded | go_step | go_upon)
              go_roundg (k - (i + 1))
              case measure => omega
              case rel => exact ⟨i + 1, by omega, by omega, by go_num, then_ hwr2 (by assumption), T2.out⟩
          · have hiki : ¬ (i : Int) < (k : Int) := by omega
            have T2 := hid (T.out.trans (any_end (by omega)))
            have Q2 := hid (show rngE l k x = 0 by rw [Q3.out, T2.out]; rfl)
            repeat' (first | go_skip | go_guarded | go_step | go_upon)
            go_roundg (n - (k + 1))
            case measure => omega
            case rel => exact ⟨k + 1, by omega, by omega, by go_num, by assumption, by show _ = _; rw [E.out, D.out]; exact firstE_next Q2.out⟩
      · have hlti : ¬ (k : Int) < (n : Int) := by omega
        have Z := hid (show rngsE l = 0 by rw [E.out, drop_end (by have := N.out; omega)]; rfl)
        repeat' (first | (go_at_call 45; with_reducible refine (d1 _).mono ?_; rintro e w' ⟨rfl, rfl⟩; try dsimp only) | (go_at_call 68; with_reducible refine (eRe _ (by assumption)).mono ?_; rintro e w' ⟨rfl, b⟩; have b' := then_ (w := w4) (by assumption) b; clear b; try dsimp only) | go_skip | go_guarded | go_step | go_upon)
        (try simp only [Exit.inBlock, Exit.then]); refine bodyPost_ret (results_tmp (by rfl) _ _ _) (by rfl) ?_
        exact ⟨ret_int (by rw [FE.out]; rw [Z.out]; simp), then_ HX.out (then_ HW4.out (by assumption))⟩
end Go.Proofs.Ytlhbfpapmolohaa.Mw
