/-
  THE CONTRACT OF netverifyref8.originations.
-/
import Derived.Test.YtlhbfpapmolohaaModRg
import Derived.Test.YtlhbfpapmolohaaModE
namespace Go.Proofs.Ytlhbfpapmolohaa.Mw
set_option linter.unusedSimpArgs false
set_option linter.unusedVariables false
open Go.RowKit Kt Mm Mp Am

def zeroCnd : Array Value := #[.int .u32 0, .int .i64 0, .int .u32 0, .int .i64 0, .bool false]
theorem orE3 (p q t : Int) : orE [p, q, t] = if p = 0 then (if q = 0 then t else q) else p := by
  unfold orE; split
  · unfold orE; split
    · unfold orE; split
      · rename_i h; rw [h]; rfl
      · rfl
    · rfl
  · rfl

set_option maxHeartbeats 16000000 in
set_option maxRecDepth 4000 in
theorem rOrig (r : Rtr) (w : World) (hr : RtrIn w r) :
    Calls Try.prog 70 #[.agg (ePV r).toArray] w fun e w' => e = .returned (.int .i64 (orE [netsE r.nets, aggsE r.aggs, cndsE r.cnds])) ∧ Below w.heap.size w w' := by
  have hVa := fun (p : Pfx) wx (h : low p.addr) => Ad.refValid p.addr p.len wx h
  have hEq := fun (p q : Pfx) wx => eqInPfx 9998 p q wx
  simp only [Nat.reduceAdd] at hEq
  have hGd : ∀ (op : BinOp) (s t : Operand) (p q : Array Value) wx, (eqGuard op 27 s t (.agg p) (.agg q)).run Try.prog wx = .ok () wx := fun op s t p q wx => run_eqGuard_agg wx op _ s t p q (by kernel_rfl)
  obtain ⟨X, hX⟩ : ∃ X, X = (ePV r).toArray := ⟨_, rfl⟩
  obtain ⟨w1, hw1⟩ : ∃ w1, w.alloc (.cells X 53) = w1 := ⟨_, rfl⟩
  have hhX : w1.heap[w.heap.size]? = some (.cells X 53 (0, 0)) := by rw [← hw1, heap_new]
  have FX4 : ∀ v : World, Below w1.heap.size w1 v → v.cell? ⟨w.heap.size, 4, none⟩ = some (r.vNets) := fun v h => box_at (blk_keep hhX h) (by rw [hX]; rfl)
  have FX5 : ∀ v : World, Below w1.heap.size w1 v → v.cell? ⟨w.heap.size, 5, none⟩ = some (r.vAggs) := fun v h => box_at (blk_keep hhX h) (by rw [hX]; rfl)
  have FX6 : ∀ v : World, Below w1.heap.size w1 v → v.cell? ⟨w.heap.size, 6, none⟩ = some (r.vCnds) := fun v h => box_at (blk_keep hhX h) (by rw [hX]; rfl)
  have GX : Below w1.heap.size w1 w1 := Below.refl _ _
  have HX := hid (show Below w.heap.size w w1 by rw [← hw1]; exact new_below _ _)
  have hX' := hid hX
  try rw [← hX]
  clear hX hhX
  have HR := hid (hr.keep HX.out)
  have RR := hid (orE3 (netsE r.nets) (aggsE r.aggs) (cndsE r.cnds))
  obtain ⟨a0, cap0, hv0, hcap0, hcell0⟩ := rows_open (z := 2) (by decide) HR.out.nets.row
  obtain ⟨n0, hn0⟩ : ∃ n, n = r.nets.length := ⟨_, rfl⟩
  have hl0 := HR.out.nets.len
  have R0 := hid (show netsE r.nets = if 8 < r.nets.length then 7 else firstE (netE r.nets) 0 r.nets from rfl)
  rw [← hn0] at hcap0 hcell0 hv0 hl0 R0
  rw [hv0] at FX4
  have N0 := hid hn0
  have HC0 := hid hcell0
  clear hn0 hcell0 hv0
  obtain ⟨a1, cap1, hv1, hcap1, hcell1⟩ := rows_open (z := 3) (by decide) HR.out.aggs.row
  obtain ⟨n1, hn1⟩ : ∃ n, n = r.aggs.length := ⟨_, rfl⟩
  have hl1 := HR.out.aggs.len
  have R1 := hid (show aggsE r.aggs = if 8 < r.aggs.length then 7 else firstE (aggE r.aggs) 0 r.aggs from rfl)
  rw [← hn1] at hcap1 hcell1 hv1 hl1 R1
  rw [hv1] at FX5
  have N1 := hid hn1
  have HC1 := hid hcell1
  clear hn1 hcell1 hv1
  obtain ⟨a2, cap2, hv2, hcap2, hcell2⟩ := rows_open (z := 5) (by decide) HR.out.cnds.row
  obtain ⟨n2, hn2⟩ : ∃ n, n = r.cnds.length := ⟨_, rfl⟩
  have hl2 := HR.out.cnds.len
  have R2 := hid (show cndsE r.cnds = if 8 < r.cnds.length then 7 else firstE (cndE r.cnds) 0 r.cnds from rfl)
  rw [← hn2] at hcap2 hcell2 hv2 hl2 R2
  rw [hv2] at FX6
  have N2 := hid hn2
  have HC2 := hid hcell2
  clear hn2 hcell2 hv2
  clear hr
  obtain ⟨P, hP⟩ : ∃ P, P = Try.prog := ⟨_, rfl⟩
  have HP := hid hP
  have mixed : P.follows .mixedOrders = true := by rw [hP]; kernel_rfl
  have FG : P.funcs[70]? = some Try.f70 := by rw [hP]; exact Try.func70
  obtain ⟨zCondition, hzCondition⟩ : ∃ z, z = 5 := ⟨_, rfl⟩
  have nzCondition : ¬ zCondition = 0 := by omega
  have ty3 := Try.underlying3; have ag3 := Try.isAgg3; have sz3 := Try.sizeOf3; have ru3 := Try.runUnderlying3
  have ty4 := Try.underlying4; have ag4 := Try.isAgg4; have sz4 := Try.sizeOf4; have ru4 := Try.runUnderlying4
  have ty49 := Try.underlying49; have ag49 := Try.isAgg49; have sz49 := Try.sizeOf49; have ru49 := Try.runUnderlying49
  have ty50 := Try.underlying50; have ag50 := Try.isAgg50; have sz50 := Try.sizeOf50; have ru50 := Try.runUnderlying50
  have ty51 := Try.underlying51; have ag51 := Try.isAgg51; have sz51 := Try.sizeOf51; have ru51 := Try.runUnderlying51
  have ty53 := Try.underlying53; have ag53 := Try.isAgg53; have sz53 := Try.sizeOf53; have ru53 := Try.runUnderlying53
  have ty27 := Try.underlying27; have ag27 := Try.isAgg27; have sz27 := Try.sizeOf27; have ru27 := Try.runUnderlying27
  have ty135 := Try.underlying135; have ag135 := Try.isAgg135; have sz135 := Try.sizeOf135; have ru135 := Try.runUnderlying135
  have ty137 := Try.underlying137; have ag137 := Try.isAgg137; have sz137 := Try.sizeOf137; have ru137 := Try.runUnderlying137
  rw [← hzCondition] at sz137
  have zeCondition := Try.zeroValue137
  have en0 : ∀ args w, (callFunc 9 args).run Try.prog w = .ok (.enter 9 args) w := enters_of Try.func9 (by kernel_rfl) rfl
  rw [← hP] at ty3 ag3 sz3 ru3 ty4 ag4 sz4 ru4 ty49 ag49 sz49 ru49 ty50 ag50 sz50 ru50 ty51 ag51 sz51 ru51 ty53 ag53 sz53 ru53 ty27 ag27 sz27 ru27 ty135 ag135 sz135 ru135 ty137 ag137 sz137 ru137 zeCondition en0 hVa hEq hGd ⊢
  clear hP
  have ZC := hid hzCondition
  clear hzCondition
  go_enter FG, Try.ntmps70
  have fy := FX4 w1 GX
  by_cases h80 : 8 < n0
  · have h8i : (8 : Int) < (n0 : Int) := by omega
    have Z := hid (show netsE r.nets = 7 by rw [R0.out, if_pos h80])
    repeat' (first | go_skip | go_guarded | go_step | go_upon)
    (try simp only [Exit.inBlock, Exit.then]); refine bodyPost_ret (results_tmp (by rfl) _ _ _) (by rfl) ?_
    exact ⟨ret_int (by rw [RR.out]; rw [if_neg (by rw [Z.out]; simp), Z.out]), then_ HX.out (by assumption)⟩
  have h8i0 : ¬ (8 : Int) < (n0 : Int) := by omega
  have S0 := hid (R0.out.trans (if_neg h80))
  repeat' (first | go_skip | go_guarded | go_step | go_upon)
  clear h80 h8i0
  go_loopg [3] n0 (fun gg s3 wr => ∃ k : Nat, k ≤ n0 ∧ n0 - k ≤ gg ∧ s3 = .int .i64 k ∧ Below w1.heap.size w1 wr ∧ Aside (netsE r.nets = firstE (netE r.nets) k (r.nets.drop k)))
  case atStart => exact ⟨0, Nat.zero_le _, by omega, rfl, by assumption, S0.out⟩
  case round =>
    obtain ⟨k, hk, hg, rfl, hwr, E⟩ := hrel
    have fx := FX4 wr hwr
    by_cases hlt : k < n0
    · have hlti : (k : Int) < (n0 : Int) := by omega
      have hk0 : (0 : Int) ≤ (k : Int) := by omega
      obtain ⟨x, hx⟩ := get_some (l := r.nets) (k := k) (by have := N0.out; omega)
      obtain ⟨b, off, rfl, hb, hc⟩ := HC0.out (by omega)
      have hcx := row_cells (f := ePfx) (z := 2) (fun _ => rfl) hc hx
      have D := hid (drop_get hx)
      have GR : Below wr.heap.size wr wr := Below.refl _ _
      have F0 : ∀ v : World, Below w1.heap.size w1 v → v.cell? ⟨b, off + k * 2, none⟩ = some (.int .u32 (x.addr : Int)) := fun v h => (h.cell (p := ⟨b, off + k * 2, none⟩) hb).trans (hcx 0 _ rfl)
      have F1 : ∀ v : World, Below w1.heap.size w1 v → v.cell? ⟨b, off + k * 2 + 1, none⟩ = some (.int .i64 x.len) := fun v h => (h.cell (p := ⟨b, off + k * 2 + 1, none⟩) hb).trans (hcx 1 _ rfl)
      have f0 := F0 wr hwr
      have f1 := F1 wr hwr
      have dV := fun wx => hVa x wx (HR.out.netsA x (get_mem hx))
      obtain ⟨a1, ha1⟩ : ∃ q, q = vPf x := ⟨_, rfl⟩
      have ha2 : validB x.addr x.len = a1 := ha1.symm
      rw [ha2] at dV
      unfold Ad.px at dV
      obtain ⟨tk, htk⟩ : ∃ q, q = (r.nets.take k).any (fun y : Pfx => decide (y = x)) := ⟨_, rfl⟩
      have FE := hid (show netE r.nets k x = if !a1 then 1 else if tk then 4 else 0 by rw [ha1, htk]; rfl)
      have TK := hid htk
      clear hcx ha1 ha2 htk
      cases a1
      case false =>
        have Q2 := hid (show netE r.nets k x = 1 by rw [FE.out]; rfl)
        repeat' (first | (go_at_call 9; with_reducible refine (dV _).mono ?_; rintro e w' ⟨rfl, b⟩; have b' := then_ (w := w1) (by assumption) b; clear b; try dsimp only) | go_skip | go_guarded | go_step | go_upon)
        (try simp only [Exit.inBlock, Exit.then]); refine bodyPost_ret (results_tmp (by rfl) _ _ _) (by rfl) ?_
        exact ⟨ret_int (by have Z : netsE r.nets = 1 := (E.out.trans (by rw [D.out]; exact (firstE_hit (by rw [Q2.out]; simp)).trans Q2.out)); rw [RR.out]; rw [if_neg (by rw [Z]; simp), Z]), then_ HX.out (by assumption)⟩
      case true =>
        have Q3 := hid (show netE r.nets k x = if tk then 4 else 0 by rw [FE.out]; rfl)
        repeat' (first | (go_at_call 9; with_reducible refine (dV _).mono ?_; rintro e w' ⟨rfl, b⟩; have b' := then_ (w := w1) (by assumption) b; clear b; try dsimp only) | go_skip | go_guarded | go_step | go_upon)
        clear f0 f1
        go_loopg [4] k (fun gg s4 wr => ∃ i : Nat, i ≤ k ∧ k - i ≤ gg ∧ s4 = .int .i64 i ∧ Below w1.heap.size w1 wr ∧ Aside (tk = ((r.nets.take k).drop i).any (fun y : Pfx => decide (y = x))))
        case atStart => exact ⟨0, Nat.zero_le _, by omega, rfl, by assumption, TK.out⟩
        case round =>
          obtain ⟨i, hi, hgi, rfl, hwr2, T⟩ := hrel
          by_cases hik : i < k
          · have hiki : (i : Int) < (k : Int) := by omega
            have hin : (i : Int) < (n0 : Int) := by omega
            have hi0 : (0 : Int) ≤ (i : Int) := by omega
            obtain ⟨y, hy⟩ := get_some (l := r.nets) (k := i) (by have := N0.out; omega)
            have hcy := row_cells (f := ePfx) (z := 2) (fun _ => rfl) hc hy
            have GS : Below wr.heap.size wr wr := Below.refl _ _
            have uX := fun u : Later wr.heap.size wr => FX4 u.w (then_ hwr2 u.h)
            have uF0 := fun u : Later wr.heap.size wr => F0 u.w (then_ hwr2 u.h)
            have uF1 := fun u : Later wr.heap.size wr => F1 u.w (then_ hwr2 u.h)
            have uY0 : ∀ u : Later wr.heap.size wr, u.w.cell? ⟨b, off + i * 2, none⟩ = some (.int .u32 (y.addr : Int)) := fun u => ((then_ hwr2 u.h).cell (p := ⟨b, off + i * 2, none⟩) hb).trans (hcy 0 _ rfl)
            have uY1 : ∀ u : Later wr.heap.size wr, u.w.cell? ⟨b, off + i * 2 + 1, none⟩ = some (.int .i64 y.len) := fun u => ((then_ hwr2 u.h).cell (p := ⟨b, off + i * 2 + 1, none⟩) hb).trans (hcy 1 _ rfl)
            have dE := fun wx => hEq y x wx
            simp only [ePfx] at dE
            clear hcy
            by_cases hq : y = x
            · have T2 := hid (T.out.trans (any_hit hy hik (decide_eq_true hq)))
              have Q2 := hid (show netE r.nets k x = 4 by rw [Q3.out, T2.out]; rfl)
              rw [decide_eq_true hq] at dE
              clear hq
              repeat' (first | go_skip | go_guarded | go_step | go_upon)
              refine wp_region_base wr (by assumption) (by first | assumption | kernel_rfl) (by kernel_rfl) ?_
              repeat (go_big_quiet_step (first | fail))
              refine wpQuiet_nil ?_
              rintro _ ⟨u, rfl⟩
              have bu := u.h
              repeat' (first | go_skip | go_guarded | go_step | go_upon)
              (try simp only [Exit.inBlock, Exit.then]); refine bodyPost_ret (results_tmp (by rfl) _ _ _) (by rfl) ?_
              exact ⟨ret_int (by have Z : netsE r.nets = 4 := (E.out.trans (by rw [D.out]; exact (firstE_hit (by rw [Q2.out]; simp)).trans Q2.out)); rw [RR.out]; rw [if_neg (by rw [Z]; simp), Z]), then_ HX.out (then_ hwr2 (by assumption))⟩
            · have T2 := hid (T.out.trans (any_next hy hik (decide_eq_false hq)))
              rw [decide_eq_false hq] at dE
              clear hq
              repeat' (first | go_skip | go_guarded | go_step | go_upon)
              refine wp_region_base wr (by assumption) (by first | assumption | kernel_rfl) (by kernel_rfl) ?_
              repeat (go_big_quiet_step (first | fail))
              refine wpQuiet_nil ?_
              rintro _ ⟨u, rfl⟩
              have bu := u.h
              repeat' (first | go_skip | go_guarded | go_step | go_upon)
              go_roundg (k - (i + 1))
              case measure => omega
              case rel => exact ⟨i + 1, by omega, by omega, by go_num, then_ hwr2 (by assumption), T2.out⟩
          · have hiki : ¬ (i : Int) < (k : Int) := by omega
            have T2 := hid (T.out.trans (any_end (by omega)))
            have Q2 := hid (show netE r.nets k x = 0 by rw [Q3.out, T2.out]; rfl)
            repeat' (first | go_skip | go_guarded | go_step | go_upon)
            go_roundg (n0 - (k + 1))
            case measure => omega
            case rel => exact ⟨k + 1, by omega, by omega, by go_num, by assumption, by show _ = _; rw [E.out, D.out]; exact firstE_next Q2.out⟩
    · have hlti : ¬ (k : Int) < (n0 : Int) := by omega
      have O0 := hid (show netsE r.nets = 0 by rw [E.out, drop_end (by have := N0.out; omega)]; rfl)
      have fy := FX5 wr hwr
      by_cases h81 : 8 < n1
      · have h8i : (8 : Int) < (n1 : Int) := by omega
        have Z := hid (show aggsE r.aggs = 7 by rw [R1.out, if_pos h81])
        repeat' (first | go_skip | go_guarded | go_step | go_upon)
        (try simp only [Exit.inBlock, Exit.then]); refine bodyPost_ret (results_tmp (by rfl) _ _ _) (by rfl) ?_
        exact ⟨ret_int (by rw [RR.out, if_pos (show netsE r.nets = 0 from O0.out)]; rw [if_neg (by rw [Z.out]; simp), Z.out]), then_ HX.out (by assumption)⟩
      have h8i1 : ¬ (8 : Int) < (n1 : Int) := by omega
      have S1 := hid (R1.out.trans (if_neg h81))
      repeat' (first | go_skip | go_guarded | go_step | go_upon)
      clear h81 h8i1
      go_loopg [5] n1 (fun gg s5 wr => ∃ k : Nat, k ≤ n1 ∧ n1 - k ≤ gg ∧ s5 = .int .i64 k ∧ Below w1.heap.size w1 wr ∧ Aside (aggsE r.aggs = firstE (aggE r.aggs) k (r.aggs.drop k)))
      case atStart => exact ⟨0, Nat.zero_le _, by omega, rfl, by assumption, S1.out⟩
      case round =>
        obtain ⟨k, hk, hg, rfl, hwr, E⟩ := hrel
        have fx := FX5 wr hwr
        by_cases hlt : k < n1
        · have hlti : (k : Int) < (n1 : Int) := by omega
          have hk0 : (0 : Int) ≤ (k : Int) := by omega
          obtain ⟨x, hx⟩ := get_some (l := r.aggs) (k := k) (by have := N1.out; omega)
          obtain ⟨b, off, rfl, hb, hc⟩ := HC1.out (by omega)
          have hcx := row_cells (f := eAggr) (z := 3) (fun _ => rfl) hc hx
          have D := hid (drop_get hx)
          have GR : Below wr.heap.size wr wr := Below.refl _ _
          have F0 : ∀ v : World, Below w1.heap.size w1 v → v.cell? ⟨b, off + k * 3, none⟩ = some (.int .u32 (x.pfx.addr : Int)) := fun v h => (h.cell (p := ⟨b, off + k * 3, none⟩) hb).trans (hcx 0 _ rfl)
          have F1 : ∀ v : World, Below w1.heap.size w1 v → v.cell? ⟨b, off + k * 3 + 1, none⟩ = some (.int .i64 x.pfx.len) := fun v h => (h.cell (p := ⟨b, off + k * 3 + 1, none⟩) hb).trans (hcx 1 _ rfl)
          have f0 := F0 wr hwr
          have f1 := F1 wr hwr
          have dV := fun wx => hVa x.pfx wx (HR.out.aggsA x (get_mem hx))
          obtain ⟨a1, ha1⟩ : ∃ q, q = vPf x.pfx := ⟨_, rfl⟩
          have ha2 : validB x.pfx.addr x.pfx.len = a1 := ha1.symm
          rw [ha2] at dV
          unfold Ad.px at dV
          obtain ⟨tk, htk⟩ : ∃ q, q = (r.aggs.take k).any (fun y : Aggr => decide (y.pfx = x.pfx)) := ⟨_, rfl⟩
          have FE := hid (show aggE r.aggs k x = if !a1 then 1 else if tk then 4 else 0 by rw [ha1, htk]; rfl)
          have TK := hid htk
          clear hcx ha1 ha2 htk
          cases a1
          case false =>
            have Q2 := hid (show aggE r.aggs k x = 1 by rw [FE.out]; rfl)
            repeat' (first | (go_at_call 9; with_reducible refine (dV _).mono ?_; rintro e w' ⟨rfl, b⟩; have b' := then_ (w := w1) (by assumption) b; clear b; try dsimp only) | go_skip | go_guarded | go_step | go_upon)
            (try simp only [Exit.inBlock, Exit.then]); refine bodyPost_ret (results_tmp (by rfl) _ _ _) (by rfl) ?_
            exact ⟨ret_int (by have Z : aggsE r.aggs = 1 := (E.out.trans (by rw [D.out]; exact (firstE_hit (by rw [Q2.out]; simp)).trans Q2.out)); rw [RR.out, if_pos (show netsE r.nets = 0 from O0.out)]; rw [if_neg (by rw [Z]; simp), Z]), then_ HX.out (by assumption)⟩
          case true =>
            have Q3 := hid (show aggE r.aggs k x = if tk then 4 else 0 by rw [FE.out]; rfl)
            repeat' (first | (go_at_call 9; with_reducible refine (dV _).mono ?_; rintro e w' ⟨rfl, b⟩; have b' := then_ (w := w1) (by assumption) b; clear b; try dsimp only) | go_skip | go_guarded | go_step | go_upon)
            clear f0 f1
            go_loopg [6] k (fun gg s6 wr => ∃ i : Nat, i ≤ k ∧ k - i ≤ gg ∧ s6 = .int .i64 i ∧ Below w1.heap.size w1 wr ∧ Aside (tk = ((r.aggs.take k).drop i).any (fun y : Aggr => decide (y.pfx = x.pfx))))
            case atStart => exact ⟨0, Nat.zero_le _, by omega, rfl, by assumption, TK.out⟩
            case round =>
              obtain ⟨i, hi, hgi, rfl, hwr2, T⟩ := hrel
              by_cases hik : i < k
              · have hiki : (i : Int) < (k : Int) := by omega
                have hin : (i : Int) < (n1 : Int) := by omega
                have hi0 : (0 : Int) ≤ (i : Int) := by omega
                obtain ⟨y, hy⟩ := get_some (l := r.aggs) (k := i) (by have := N1.out; omega)
                have hcy := row_cells (f := eAggr) (z := 3) (fun _ => rfl) hc hy
                have GS : Below wr.heap.size wr wr := Below.refl _ _
                have uX := fun u : Later wr.heap.size wr => FX5 u.w (then_ hwr2 u.h)
                have uF0 := fun u : Later wr.heap.size wr => F0 u.w (then_ hwr2 u.h)
                have uF1 := fun u : Later wr.heap.size wr => F1 u.w (then_ hwr2 u.h)
                have uY0 : ∀ u : Later wr.heap.size wr, u.w.cell? ⟨b, off + i * 3, none⟩ = some (.int .u32 (y.pfx.addr : Int)) := fun u => ((then_ hwr2 u.h).cell (p := ⟨b, off + i * 3, none⟩) hb).trans (hcy 0 _ rfl)
                have uY1 : ∀ u : Later wr.heap.size wr, u.w.cell? ⟨b, off + i * 3 + 1, none⟩ = some (.int .i64 y.pfx.len) := fun u => ((then_ hwr2 u.h).cell (p := ⟨b, off + i * 3 + 1, none⟩) hb).trans (hcy 1 _ rfl)
                have dE := fun wx => hEq y.pfx x.pfx wx
                simp only [ePfx] at dE
                clear hcy
                by_cases hq : y.pfx = x.pfx
                · have T2 := hid (T.out.trans (any_hit hy hik (decide_eq_true hq)))
                  have Q2 := hid (show aggE r.aggs k x = 4 by rw [Q3.out, T2.out]; rfl)
                  rw [decide_eq_true hq] at dE
                  clear hq
                  repeat' (first | go_skip | go_guarded | go_step | go_upon)
                  refine wp_region_base wr (by assumption) (by first | assumption | kernel_rfl) (by kernel_rfl) ?_
                  repeat (go_big_quiet_step (first | fail))
                  refine wpQuiet_nil ?_
                  rintro _ ⟨u, rfl⟩
                  have bu := u.h
                  repeat' (first | go_skip | go_guarded | go_step | go_upon)
                  (try simp only [Exit.inBlock, Exit.then]); refine bodyPost_ret (results_tmp (by rfl) _ _ _) (by rfl) ?_
                  exact ⟨ret_int (by have Z : aggsE r.aggs = 4 := (E.out.trans (by rw [D.out]; exact (firstE_hit (by rw [Q2.out]; simp)).trans Q2.out)); rw [RR.out, if_pos (show netsE r.nets = 0 from O0.out)]; rw [if_neg (by rw [Z]; simp), Z]), then_ HX.out (then_ hwr2 (by assumption))⟩
                · have T2 := hid (T.out.trans (any_next hy hik (decide_eq_false hq)))
                  rw [decide_eq_false hq] at dE
                  clear hq
                  repeat' (first | go_skip | go_guarded | go_step | go_upon)
                  refine wp_region_base wr (by assumption) (by first | assumption | kernel_rfl) (by kernel_rfl) ?_
                  repeat (go_big_quiet_step (first | fail))
                  refine wpQuiet_nil ?_
                  rintro _ ⟨u, rfl⟩
                  have bu := u.h
                  repeat' (first | go_skip | go_guarded | go_step | go_upon)
                  go_roundg (k - (i + 1))
                  case measure => omega
                  case rel => exact ⟨i + 1, by omega, by omega, by go_num, then_ hwr2 (by assumption), T2.out⟩
              · have hiki : ¬ (i : Int) < (k : Int) := by omega
                have T2 := hid (T.out.trans (any_end (by omega)))
                have Q2 := hid (show aggE r.aggs k x = 0 by rw [Q3.out, T2.out]; rfl)
                repeat' (first | go_skip | go_guarded | go_step | go_upon)
                go_roundg (n1 - (k + 1))
                case measure => omega
                case rel => exact ⟨k + 1, by omega, by omega, by go_num, by assumption, by show _ = _; rw [E.out, D.out]; exact firstE_next Q2.out⟩
        · have hlti : ¬ (k : Int) < (n1 : Int) := by omega
          have O1 := hid (show aggsE r.aggs = 0 by rw [E.out, drop_end (by have := N1.out; omega)]; rfl)
          have fy := FX6 wr hwr
          by_cases h82 : 8 < n2
          · have h8i : (8 : Int) < (n2 : Int) := by omega
            have Z := hid (show cndsE r.cnds = 7 by rw [R2.out, if_pos h82])
            repeat' (first | go_skip | go_guarded | go_step | go_upon)
            (try simp only [Exit.inBlock, Exit.then]); refine bodyPost_ret (results_tmp (by rfl) _ _ _) (by rfl) ?_
            exact ⟨ret_int (by rw [RR.out, if_pos (show netsE r.nets = 0 from O0.out), if_pos (show aggsE r.aggs = 0 from O1.out)]; rw [Z.out]), then_ HX.out (by assumption)⟩
          have h8i2 : ¬ (8 : Int) < (n2 : Int) := by omega
          have S2 := hid (R2.out.trans (if_neg h82))
          repeat' (first | go_skip | go_guarded | go_step | go_upon)
          clear h82 h8i2
          go_loopg [7] n2 (fun gg s7 wr => ∃ k : Nat, k ≤ n2 ∧ n2 - k ≤ gg ∧ s7 = .int .i64 k ∧ Below w1.heap.size w1 wr ∧ Aside (cndsE r.cnds = firstE (cndE r.cnds) k (r.cnds.drop k)))
          case atStart => exact ⟨0, Nat.zero_le _, by omega, rfl, by assumption, S2.out⟩
          case round =>
            obtain ⟨k, hk, hg, rfl, hwr, E⟩ := hrel
            have fx := FX6 wr hwr
            by_cases hlt : k < n2
            · have hlti : (k : Int) < (n2 : Int) := by omega
              have hk0 : (0 : Int) ≤ (k : Int) := by omega
              obtain ⟨x, hx⟩ := get_some (l := r.cnds) (k := k) (by have := N2.out; omega)
              obtain ⟨b, off, rfl, hb, hc⟩ := HC2.out (by omega)
              have hcx := row_cells (f := eCnd) (z := 5) (fun _ => rfl) hc hx
              have D := hid (drop_get hx)
              have GR : Below wr.heap.size wr wr := Below.refl _ _
              have LY : Sem.run P (loadCellsFrom ⟨b, off + k * zCondition, none⟩ 0 zCondition #[]) wr = .ok (eCnd x).toArray wr := by
                rw [ZC.out]; exact ld_row (f := eCnd) (z := 5) P (fun _ => rfl) (fun j u hj => (hwr.cell (p := ⟨b, off + j, none⟩) hb).trans (hc j u hj)) hx
              obtain ⟨Y, hY⟩ : ∃ Y, Y = (eCnd x).toArray := ⟨_, rfl⟩
              have hYs : Y.size = 5 := by rw [hY]; rfl
              have hY1 := hid (show Y.all (·.oneCell') = true by rw [hY]; simp [eCnd, one_str, one_int, one_bool])
              have y0 : Y[0]? = some (.int .u32 (x.pfx.addr : Int)) := by rw [hY]; rfl
              have y1 : Y[1]? = some (.int .i64 x.pfx.len) := by rw [hY]; rfl
              have y2 : Y[2]? = some (.int .u32 (x.iff.addr : Int)) := by rw [hY]; rfl
              have y3 : Y[3]? = some (.int .i64 x.iff.len) := by rw [hY]; rfl
              rw [← hY] at LY
              clear hY
              repeat' ((fail_if_success (with_reducible show Hid _)); (first | ((with_reducible show Oper.wp _ ⟨_, .store 137 _ _, _, _, _, _⟩ _ _ _ _); refine stopF ?_) | go_skip | go_guarded | go_step | go_upon))
              refine hid ?_
              refine wp_store_box (w := wr.alloc (.cells zeroCnd 137)) 137 _ _ (by rfl) (g := wr.heap.size) (cur := zeroCnd) (X := Y) (by rfl) (by rfl) (by intro v; rw [hYs, ← ZC.out]; first | exact sz137 v | assumption) (heap_new _ _) (by rw [hYs]; rfl) hY1.out ?_
              intro w4 h1 h2 h3
              have HB4 := hid (show Below wr.heap.size wr w4 from (al1 wr _).trans (h3 _ (Nat.le_refl _)))
              have HW4 := hid (then_ (show Below w1.heap.size w1 wr from hwr) HB4.out)
              have G4 : Below w4.heap.size w4 w4 := Below.refl _ _
              have F0 : ∀ v : World, Below w4.heap.size w4 v → v.cell? ⟨wr.heap.size, 0, none⟩ = some (.int .u32 (x.pfx.addr : Int)) := fun v h => box_at (blk_keep h1 h) y0
              have F1 : ∀ v : World, Below w4.heap.size w4 v → v.cell? ⟨wr.heap.size, 1, none⟩ = some (.int .i64 x.pfx.len) := fun v h => box_at (blk_keep h1 h) y1
              have F2 : ∀ v : World, Below w4.heap.size w4 v → v.cell? ⟨wr.heap.size, 2, none⟩ = some (.int .u32 (x.iff.addr : Int)) := fun v h => box_at (blk_keep h1 h) y2
              have F3 : ∀ v : World, Below w4.heap.size w4 v → v.cell? ⟨wr.heap.size, 3, none⟩ = some (.int .i64 x.iff.len) := fun v h => box_at (blk_keep h1 h) y3
              have dV := fun wx => hVa x.pfx wx (HR.out.cndsA x (get_mem hx)).1
              have dW := fun wx => hVa x.iff wx (HR.out.cndsA x (get_mem hx)).2
              obtain ⟨a1, ha1⟩ : ∃ q, q = vPf x.pfx := ⟨_, rfl⟩
              obtain ⟨a2, ha2⟩ : ∃ q, q = vPf x.iff := ⟨_, rfl⟩
              have ha3 : validB x.pfx.addr x.pfx.len = a1 := ha1.symm
              have ha4 : validB x.iff.addr x.iff.len = a2 := ha2.symm
              rw [ha3] at dV
              rw [ha4] at dW
              unfold Ad.px at dV dW
              have dF := fun wx => hEq x.pfx x.iff wx
              simp only [ePfx] at dF
              obtain ⟨q1, hq1⟩ : ∃ q, q = decide (x.pfx = x.iff) := ⟨_, rfl⟩
              rw [← hq1] at dF
              obtain ⟨tk, htk⟩ : ∃ q, q = (r.cnds.take k).any (fun y : Cnd => decide (y.pfx = x.pfx)) := ⟨_, rfl⟩
              have FE := hid (show cndE r.cnds k x = if !a1 || !a2 then 1 else if q1 then 6 else if tk then 4 else 0 by rw [ha1, ha2, hq1, htk]; rfl)
              have TK := hid htk
              clear hcx ha1 ha2 ha3 ha4 htk hq1 h1 h2 h3 LY hYs y0 y1 y2 y3
              cases a1
              case false =>
                have Q2 := hid (show cndE r.cnds k x = 1 by rw [FE.out]; rfl)
                repeat' (first | (go_at_call 9; with_reducible refine (dV _).mono ?_; rintro e w' ⟨rfl, b⟩; have b' := then_ (w := w4) (by assumption) b; clear b; try dsimp only) | (go_at_call 9; with_reducible refine (dW _).mono ?_; rintro e w' ⟨rfl, b⟩; have b' := then_ (w := w4) (by assumption) b; clear b; try dsimp only) | go_skip | go_guarded | go_step | go_upon)
                (try simp only [Exit.inBlock, Exit.then]); refine bodyPost_ret (results_tmp (by rfl) _ _ _) (by rfl) ?_
                exact ⟨ret_int (by have Z : cndsE r.cnds = 1 := (E.out.trans (by rw [D.out]; exact (firstE_hit (by rw [Q2.out]; simp)).trans Q2.out)); rw [RR.out, if_pos (show netsE r.nets = 0 from O0.out), if_pos (show aggsE r.aggs = 0 from O1.out)]; rw [Z]), then_ HX.out (then_ HW4.out (by assumption))⟩
              case true =>
                cases a2
                case false =>
                  have Q2 := hid (show cndE r.cnds k x = 1 by rw [FE.out]; rfl)
                  repeat' (first | (go_at_call 9; with_reducible refine (dV _).mono ?_; rintro e w' ⟨rfl, b⟩; have b' := then_ (w := w4) (by assumption) b; clear b; try dsimp only) | (go_at_call 9; with_reducible refine (dW _).mono ?_; rintro e w' ⟨rfl, b⟩; have b' := then_ (w := w4) (by assumption) b; clear b; try dsimp only) | go_skip | go_guarded | go_step | go_upon)
                  (try simp only [Exit.inBlock, Exit.then]); refine bodyPost_ret (results_tmp (by rfl) _ _ _) (by rfl) ?_
                  exact ⟨ret_int (by have Z : cndsE r.cnds = 1 := (E.out.trans (by rw [D.out]; exact (firstE_hit (by rw [Q2.out]; simp)).trans Q2.out)); rw [RR.out, if_pos (show netsE r.nets = 0 from O0.out), if_pos (show aggsE r.aggs = 0 from O1.out)]; rw [Z]), then_ HX.out (then_ HW4.out (by assumption))⟩
                case true =>
                  cases q1
                  case true =>
                    have Q2 := hid (show cndE r.cnds k x = 6 by rw [FE.out]; rfl)
                    repeat' (first | (go_at_call 9; with_reducible refine (dV _).mono ?_; rintro e w' ⟨rfl, b⟩; have b' := then_ (w := w4) (by assumption) b; clear b; try dsimp only) | (go_at_call 9; with_reducible refine (dW _).mono ?_; rintro e w' ⟨rfl, b⟩; have b' := then_ (w := w4) (by assumption) b; clear b; try dsimp only) | go_skip | go_guarded | go_step | go_upon)
                    (try simp only [Exit.inBlock, Exit.then]); refine bodyPost_ret (results_tmp (by rfl) _ _ _) (by rfl) ?_
                    exact ⟨ret_int (by have Z : cndsE r.cnds = 6 := (E.out.trans (by rw [D.out]; exact (firstE_hit (by rw [Q2.out]; simp)).trans Q2.out)); rw [RR.out, if_pos (show netsE r.nets = 0 from O0.out), if_pos (show aggsE r.aggs = 0 from O1.out)]; rw [Z]), then_ HX.out (then_ HW4.out (by assumption))⟩
                  case false =>
                    have Q3 := hid (show cndE r.cnds k x = if tk then 4 else 0 by rw [FE.out]; rfl)
                    repeat' (first | (go_at_call 9; with_reducible refine (dV _).mono ?_; rintro e w' ⟨rfl, b⟩; have b' := then_ (w := w4) (by assumption) b; clear b; try dsimp only) | (go_at_call 9; with_reducible refine (dW _).mono ?_; rintro e w' ⟨rfl, b⟩; have b' := then_ (w := w4) (by assumption) b; clear b; try dsimp only) | go_skip | go_guarded | go_step | go_upon)
                    go_loopg [9] k (fun gg s9 wr => ∃ i : Nat, i ≤ k ∧ k - i ≤ gg ∧ s9 = .int .i64 i ∧ Below w4.heap.size w4 wr ∧ Aside (tk = ((r.cnds.take k).drop i).any (fun y : Cnd => decide (y.pfx = x.pfx))))
                    case atStart => exact ⟨0, Nat.zero_le _, by omega, rfl, by assumption, TK.out⟩
                    case round =>
                      obtain ⟨i, hi, hgi, rfl, hwr2, T⟩ := hrel
                      by_cases hik : i < k
                      · have hiki : (i : Int) < (k : Int) := by omega
                        have hin : (i : Int) < (n2 : Int) := by omega
                        have hi0 : (0 : Int) ≤ (i : Int) := by omega
                        obtain ⟨y, hy⟩ := get_some (l := r.cnds) (k := i) (by have := N2.out; omega)
                        have hcy := row_cells (f := eCnd) (z := 5) (fun _ => rfl) hc hy
                        have GS : Below wr.heap.size wr wr := Below.refl _ _
                        have uX := fun u : Later wr.heap.size wr => FX6 u.w (then_ HW4.out (then_ hwr2 u.h))
                        have uF0 := fun u : Later wr.heap.size wr => F0 u.w (then_ hwr2 u.h)
                        have uF1 := fun u : Later wr.heap.size wr => F1 u.w (then_ hwr2 u.h)
                        have uY0 : ∀ u : Later wr.heap.size wr, u.w.cell? ⟨b, off + i * zCondition, none⟩ = some (.int .u32 (y.pfx.addr : Int)) := fun u => by rw [ZC.out]; exact ((then_ HW4.out (then_ hwr2 u.h)).cell (p := ⟨b, off + i * 5, none⟩) hb).trans (hcy 0 _ rfl)
                        have uY1 : ∀ u : Later wr.heap.size wr, u.w.cell? ⟨b, off + i * zCondition + 1, none⟩ = some (.int .i64 y.pfx.len) := fun u => by rw [ZC.out]; exact ((then_ HW4.out (then_ hwr2 u.h)).cell (p := ⟨b, off + i * 5 + 1, none⟩) hb).trans (hcy 1 _ rfl)
                        have dE := fun wx => hEq y.pfx x.pfx wx
                        simp only [ePfx] at dE
                        clear hcy
                        by_cases hq : y.pfx = x.pfx
                        · have T2 := hid (T.out.trans (any_hit hy hik (decide_eq_true hq)))
                          have Q2 := hid (show cndE r.cnds k x = 4 by rw [Q3.out, T2.out]; rfl)
                          rw [decide_eq_true hq] at dE
                          clear hq
                          repeat' (first | go_skip | go_guarded | go_step | go_upon)
                          refine wp_region_base wr (by assumption) (by first | assumption | kernel_rfl) (by kernel_rfl) ?_
                          repeat (go_big_quiet_step (first | fail))
                          refine wpQuiet_nil ?_
                          rintro _ ⟨u, rfl⟩
                          have bu := u.h
                          repeat' (first | go_skip | go_guarded | go_step | go_upon)
                          (try simp only [Exit.inBlock, Exit.then]); refine bodyPost_ret (results_tmp (by rfl) _ _ _) (by rfl) ?_
                          exact ⟨ret_int (by have Z : cndsE r.cnds = 4 := (E.out.trans (by rw [D.out]; exact (firstE_hit (by rw [Q2.out]; simp)).trans Q2.out)); rw [RR.out, if_pos (show netsE r.nets = 0 from O0.out), if_pos (show aggsE r.aggs = 0 from O1.out)]; rw [Z]), then_ HX.out (then_ HW4.out (then_ hwr2 (by assumption)))⟩
                        · have T2 := hid (T.out.trans (any_next hy hik (decide_eq_false hq)))
                          rw [decide_eq_false hq] at dE
                          clear hq
                          repeat' (first | go_skip | go_guarded | go_step | go_upon)
                          refine wp_region_base wr (by assumption) (by first | assumption | kernel_rfl) (by kernel_rfl) ?_
                          repeat (go_big_quiet_step (first | fail))
                          refine wpQuiet_nil ?_
                          rintro _ ⟨u, rfl⟩
                          have bu := u.h
                          repeat' (first | go_skip | go_guarded | go_step | go_upon)
                          go_roundg (k - (i + 1))
                          case measure => omega
                          case rel => exact ⟨i + 1, by omega, by omega, by go_num, then_ hwr2 (by assumption), T2.out⟩
                      · have hiki : ¬ (i : Int) < (k : Int) := by omega
                        have T2 := hid (T.out.trans (any_end (by omega)))
                        have Q2 := hid (show cndE r.cnds k x = 0 by rw [Q3.out, T2.out]; rfl)
                        repeat' (first | go_skip | go_guarded | go_step | go_upon)
                        go_roundg (n2 - (k + 1))
                        case measure => omega
                        case rel => exact ⟨k + 1, by omega, by omega, by go_num, then_ HW4.out (by assumption), by show _ = _; rw [E.out, D.out]; exact firstE_next Q2.out⟩
            · have hlti : ¬ (k : Int) < (n2 : Int) := by omega
              have O2 := hid (show cndsE r.cnds = 0 by rw [E.out, drop_end (by have := N2.out; omega)]; rfl)
              repeat' (first | go_skip | go_guarded | go_step | go_upon)
              (try simp only [Exit.inBlock, Exit.then]); refine bodyPost_ret (results_tmp (by rfl) _ _ _) (by rfl) ?_
              exact ⟨ret_int (by rw [RR.out, if_pos (show netsE r.nets = 0 from O0.out), if_pos (show aggsE r.aggs = 0 from O1.out), O2.out]), then_ HX.out (by assumption)⟩
end Go.Proofs.Ytlhbfpapmolohaa.Mw
