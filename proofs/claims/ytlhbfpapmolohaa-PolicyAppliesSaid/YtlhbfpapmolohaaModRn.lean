/-
  THE CONTRACT OF netverifyref8.routeMaps.
-/
import Derived.Test.YtlhbfpapmolohaaModRm
import Derived.Test.YtlhbfpapmolohaaStoreBox
namespace Go.Proofs.Ytlhbfpapmolohaa.Mw
set_option linter.unusedSimpArgs false
set_option linter.unusedVariables false
open Go.RowKit Kt Mm Mp

theorem stopC {p : Prop} (h : Hid p) : p := h
def zeroC : Array Value := #[.bool false, .string ⟨#[]⟩, .int .i64 0, .int .i64 0, .int .i64 0, .int .i64 0, .int .i64 0]

set_option maxHeartbeats 16000000 in
set_option maxRecDepth 4000 in
theorem rMaps (r : Rtr) (w : World) (hr : RtrIn w r) :
    Calls Try.prog 48 #[.agg (eRtr r).toArray] w fun e w' => e = .returned (.int .i64 (mapsE r.lists r.maps)) ∧ Below w.heap.size w w' := by
  obtain ⟨l, hlm⟩ : ∃ l, l = r.maps := ⟨_, rfl⟩
  have hNm := fun (s : ByteArray) wx (h : sz s) => Sc.refName s wx h
  have hWi := fun (p q t : Int) wx => rWithin p q t wx
  obtain ⟨X, hX⟩ : ∃ X, X = (eRtr r).toArray := ⟨_, rfl⟩
  obtain ⟨w1, hw1⟩ : ∃ w1, w.alloc (.cells X 55) = w1 := ⟨_, rfl⟩
  have hhX : w1.heap[w.heap.size]? = some (.cells X 55 (0, 0)) := by rw [← hw1, heap_new]
  have FX4 : ∀ v : World, Below w1.heap.size w1 v → v.cell? ⟨w.heap.size, 4, none⟩ = some (r.vMaps) := fun v h => box_at (blk_keep hhX h) (by rw [hX]; rfl)
  have KX : ∀ v : World, Below w1.heap.size w1 v → v.heap[w.heap.size]? = some (.cells X 55 (0, 0)) := fun v h => blk_keep hhX h
  have GX : Below w1.heap.size w1 w1 := Below.refl _ _
  have HX := hid (show Below w.heap.size w w1 by rw [← hw1]; exact new_below _ _)
  have hX' := hid hX
  try rw [← hX]
  clear hX hhX
  have hPl := fun wx (s : ByteArray) (h : Below w1.heap.size w1 wx) => rkPList X r.vLists r.lists s wx (by rw [hX'.out]; rfl) (hr.keep (then_ HX.out h)).lists.row hr.lists.len
  have hXs : X.size = 25 := by rw [hX'.out]; rfl
  have HR := hid (hr.keep HX.out)
  have hrow : IsRow eRMap 2 w1 r.vMaps l := by rw [hlm]; exact HR.out.maps.row
  have hl : l.length ≤ 9223372036854775807 := by rw [hlm]; exact hr.maps.len
  have R0 := hid (show mapsE r.lists l = if 8 < l.length then 7 else firstE (rmapE r.lists l) 0 l from rfl)
  rw [← hlm]
  have RN := hid (show ∀ x ∈ l, sz x.name by rw [hlm]; exact hr.mapsN)
  have RR := hid (show ∀ x ∈ l, InRow eCla 7 w1 x.v x.clauses by rw [hlm]; exact HR.out.mapsR)
  obtain ⟨a, cap, hv, hcap, hcell⟩ := rows_open (z := 2) (by decide) hrow
  obtain ⟨n, hn⟩ : ∃ n, n = l.length := ⟨_, rfl⟩
  rw [← hn] at hl hcap hcell R0 hv
  rw [hv] at FX4
  have N := hid hn
  have HC := hid hcell
  clear hn hrow hcell hr hlm hv
  obtain ⟨P, hP⟩ : ∃ P, P = Try.prog := ⟨_, rfl⟩
  have HP := hid hP
  have mixed : P.follows .mixedOrders = true := by rw [hP]; kernel_rfl
  have FG : P.funcs[48]? = some Try.f48 := by rw [hP]; exact Try.func48
  obtain ⟨zRouter, hzRouter⟩ : ∃ z, z = 25 := ⟨_, rfl⟩
  have nzRouter : ¬ zRouter = 0 := by omega
  obtain ⟨zClause, hzClause⟩ : ∃ z, z = 7 := ⟨_, rfl⟩
  have nzClause : ¬ zClause = 0 := by omega
  have ty3 := Try.underlying3; have ag3 := Try.isAgg3; have sz3 := Try.sizeOf3; have ru3 := Try.runUnderlying3
  have ty4 := Try.underlying4; have ag4 := Try.isAgg4; have sz4 := Try.sizeOf4; have ru4 := Try.runUnderlying4
  have ty9 := Try.underlying9; have ag9 := Try.isAgg9; have sz9 := Try.sizeOf9; have ru9 := Try.runUnderlying9
  have ty38 := Try.underlying38; have ag38 := Try.isAgg38; have sz38 := Try.sizeOf38; have ru38 := Try.runUnderlying38
  have ty55 := Try.underlying55; have ag55 := Try.isAgg55; have sz55 := Try.sizeOf55; have ru55 := Try.runUnderlying55
  rw [← hzRouter] at sz55
  have ty63 := Try.underlying63; have ag63 := Try.isAgg63; have sz63 := Try.sizeOf63; have ru63 := Try.runUnderlying63
  have ty65 := Try.underlying65; have ag65 := Try.isAgg65; have sz65 := Try.sizeOf65; have ru65 := Try.runUnderlying65
  have ty80 := Try.underlying80; have ag80 := Try.isAgg80; have sz80 := Try.sizeOf80; have ru80 := Try.runUnderlying80
  rw [← hzClause] at sz80
  have zeClause := Try.zeroValue80
  have en0 : ∀ args w, (callFunc 44 args).run Try.prog w = .ok (.enter 44 args) w := enters_of Try.func44 (by kernel_rfl) rfl
  have en1 : ∀ args w, (callFunc 35 args).run Try.prog w = .ok (.enter 35 args) w := enters_of Try.func35 (by kernel_rfl) rfl
  have en2 : ∀ args w, (callFunc 45 args).run Try.prog w = .ok (.enter 45 args) w := enters_of Try.func45 (by kernel_rfl) rfl
  rw [← hP] at ty3 ag3 sz3 ru3 ty4 ag4 sz4 ru4 ty9 ag9 sz9 ru9 ty38 ag38 sz38 ru38 ty55 ag55 sz55 ru55 ty63 ag63 sz63 ru63 ty65 ag65 sz65 ru65 ty80 ag80 sz80 ru80 zeClause en0 en1 en2 hNm hWi hPl ⊢
  clear hP
  have LX : ∀ v : World, Below w1.heap.size w1 v → Sem.run P (loadCellsFrom ⟨w.heap.size, 0, none⟩ 0 zRouter #[]) v = .ok X v := fun v h => ld_box P (KX v h) (by rw [hzRouter]; exact hXs)
  have ZR := hid hzRouter
  have ZC := hid hzClause
  clear hzRouter hzClause KX
  by_cases h8 : 8 < n
  · have h8i : (8 : Int) < (n : Int) := by omega
    go_enter FG, Try.ntmps48
    repeat' (first | go_skip | go_guarded | go_step | go_upon)
    go_ret
    exact ⟨ret_int (by rw [R0.out, if_pos h8]), HX.out⟩
  have h8i : ¬ (8 : Int) < (n : Int) := by omega
  have R1 := hid (R0.out.trans (if_neg h8))
  go_enter FG, Try.ntmps48
  repeat' (first | go_skip | go_guarded | go_step | go_upon)
  clear R0 h8 h8i
  go_loopg [4] n (fun gg s4 wr => ∃ k : Nat, k ≤ n ∧ n - k ≤ gg ∧ s4 = .int .i64 k ∧ Below w1.heap.size w1 wr ∧ Aside (mapsE r.lists l = firstE (rmapE r.lists l) k (l.drop k)))
  case atStart => exact ⟨0, Nat.zero_le _, by omega, rfl, by assumption, R1.out⟩
  case round =>
    obtain ⟨k, hk, hg, rfl, hwr, E⟩ := hrel
    by_cases hlt : k < n
    · have hlti : (k : Int) < (n : Int) := by omega
      have hk0 : (0 : Int) ≤ (k : Int) := by omega
      obtain ⟨x, hx⟩ := get_some (l := l) (k := k) (by have := N.out; omega)
      have hm := get_mem hx
      obtain ⟨b, off, rfl, hb, hc⟩ := HC.out (by omega)
      have hcx := row_cells (f := eRMap) (z := 2) (fun _ => rfl) hc hx
      have F0 : ∀ v : World, Below w1.heap.size w1 v → v.cell? ⟨b, off + k * 2, none⟩ = some (.string x.name) := fun v h => (h.cell (p := ⟨b, off + k * 2, none⟩) hb).trans (hcx 0 _ rfl)
      have F1 : ∀ v : World, Below w1.heap.size w1 v → v.cell? ⟨b, off + k * 2 + 1, none⟩ = some x.v := fun v h => (h.cell (p := ⟨b, off + k * 2 + 1, none⟩) hb).trans (hcx 1 _ rfl)
      have hN1 := fun wx => hNm x.name wx (RN.out x hm)
      obtain ⟨nb, hnb⟩ : ∃ q, q = nmB x.name := ⟨_, rfl⟩
      have hN1' : ∀ wx, Calls P 44 #[.string x.name] wx fun e w' => e = .returned (.bool nb) ∧ wx = w' := by rw [hnb]; exact hN1
      have D := hid (drop_get hx)
      have PE := hid (show rmapE r.lists l k x = thenE (headE x.name ((l.take k).any fun y => y.name.toList == x.name.toList) x.clauses.length) (eachE 8 (fun _ c => claE r.lists c) x.clauses) from rfl)
      have NB := hid hnb
      clear hcx hnb hN1
      have f0 := F0 wr hwr
      cases nb
      case false =>
        repeat' (first | (go_at_call 44; with_reducible refine (hN1' _).mono ?_; rintro e w' ⟨rfl, rfl⟩; try dsimp only) | go_skip | go_guarded | go_step | go_upon)
        go_ret
        exact ⟨ret_int (by rw [E.out, D.out]; refine ((firstE_hit (by rw [PE.out]; unfold thenE headE; rw [← NB.out]; simp)).trans ?_).symm; rw [PE.out]; unfold thenE headE; rw [← NB.out]; simp), then_ HX.out (by assumption)⟩
      case true =>
        repeat' (first | (go_at_call 44; with_reducible refine (hN1' _).mono ?_; rintro e w' ⟨rfl, rfl⟩; try dsimp only) | go_skip | go_guarded | go_step | go_upon)
        obtain ⟨tk, htk⟩ : ∃ q, q = (l.take k).any (fun y : RMap => y.name.toList == x.name.toList) := ⟨_, rfl⟩
        have PE2 := hid (show rmapE r.lists l k x = if tk then 4 else if x.clauses.length = 0 then 1 else eachE 8 (fun _ c => claE r.lists c) x.clauses by
          rw [PE.out, htk]; unfold thenE headE; rw [← NB.out]; simp; split <;> simp; split <;> simp)
        have TK := hid htk
        clear htk PE hN1' f0
        go_loopg [5] k (fun gg s5 wr => ∃ j : Nat, j ≤ k ∧ k - j ≤ gg ∧ s5 = .int .i64 j ∧ Below w1.heap.size w1 wr ∧ Aside (tk = ((l.take k).drop j).any (fun y : RMap => y.name.toList == x.name.toList)))
        case atStart => exact ⟨0, Nat.zero_le _, by omega, rfl, by assumption, TK.out⟩
        case round =>
          obtain ⟨j, hj, hgj, rfl, hwr2, T⟩ := hrel
          have f0 := F0 wr hwr2
          have f1 := F1 wr hwr2
          by_cases hjk : j < k
          · have hjki : (j : Int) < (k : Int) := by omega
            have hjn : (j : Int) < (n : Int) := by omega
            have hj0 : (0 : Int) ≤ (j : Int) := by omega
            obtain ⟨y, hy⟩ := get_some (l := l) (k := j) (by have := N.out; omega)
            have hcy := row_cells (f := eRMap) (z := 2) (fun _ => rfl) hc hy
            have GR : Below wr.heap.size wr wr := Below.refl _ _
            have uF0 := fun u : Later wr.heap.size wr => F0 u.w (then_ hwr2 u.h)
            have uY0 : ∀ u : Later wr.heap.size wr, u.w.cell? ⟨b, off + j * 2, none⟩ = some (.string y.name) := fun u => ((then_ hwr2 u.h).cell (p := ⟨b, off + j * 2, none⟩) hb).trans (hcy 0 _ rfl)
            clear hcy
            cases hq : (y.name.toList == x.name.toList) with
            | true =>
              have T2 := hid (T.out.trans (any_hit hy hjk hq))
              repeat' (first | go_skip | go_guarded | go_step | go_upon)
              refine wp_region_base wr (by assumption) (by first | assumption | kernel_rfl) (by kernel_rfl) ?_
              repeat (go_big_quiet_step (first | fail))
              refine wpQuiet_nil ?_
              rintro _ ⟨u, rfl⟩
              have bu := u.h
              repeat' (first | go_skip | go_guarded | go_step | go_upon)
              go_ret
              exact ⟨ret_int (by rw [E.out, D.out]; refine ((firstE_hit (by rw [PE2.out, T2.out]; simp)).trans ?_).symm; rw [PE2.out, T2.out]; rfl), then_ HX.out (then_ hwr2 (by assumption))⟩
            | false =>
              have T2 := hid (T.out.trans (any_next hy hjk hq))
              repeat' (first | go_skip | go_guarded | go_step | go_upon)
              refine wp_region_base wr (by assumption) (by first | assumption | kernel_rfl) (by kernel_rfl) ?_
              repeat (go_big_quiet_step (first | fail))
              refine wpQuiet_nil ?_
              rintro _ ⟨u, rfl⟩
              have bu := u.h
              repeat' (first | go_skip | go_guarded | go_step | go_upon)
              go_roundg (k - (j + 1))
              case measure => omega
              case rel => exact ⟨j + 1, by omega, by omega, by go_num, then_ hwr2 (by assumption), T2.out⟩
          · have hjki : ¬ (j : Int) < (k : Int) := by omega
            have T2 := hid (T.out.trans (any_end (by omega)))
            obtain ⟨ax, cx, hvx, hcx, hcl⟩ := rows_open (z := 7) (by decide) (RR.out x hm).row
            obtain ⟨m, hmm⟩ : ∃ q, q = x.clauses.length := ⟨_, rfl⟩
            have hlm := (RR.out x hm).len
            rw [← hmm] at hvx hcx hcl hlm PE2
            rw [hvx] at f1 F1
            have M := hid hmm
            have PE3 := hid (PE2.out)
            have HL := hid hcl
            rw [T2.out] at PE3
            clear hmm hvx hcl T PE2
            by_cases hm0 : m = 0
            · subst hm0
              repeat' (first | go_skip | go_guarded | go_step | go_upon)
              go_ret
              exact ⟨ret_int (by rw [E.out, D.out]; refine ((firstE_hit (by rw [PE3.out]; simp)).trans ?_).symm; rw [PE3.out]; simp), then_ HX.out (by assumption)⟩
            have hm0i : ((m : Int) == 0) = false := by simp; omega
            by_cases hm16 : 8 < m
            · have hm16i : (8 : Int) < (m : Int) := by omega
              have PE4 := hid (show rmapE r.lists l k x = 7 by rw [PE3.out]; simp [hm0]; unfold eachE; rw [← M.out, if_pos hm16])
              repeat' (first | go_skip | go_guarded | go_step | go_upon)
              go_ret
              exact ⟨ret_int (by rw [E.out, D.out]; refine ((firstE_hit (by rw [PE4.out]; simp)).trans ?_).symm; rw [PE4.out]), then_ HX.out (by assumption)⟩
            have hm16i : ¬ (8 : Int) < (m : Int) := by omega
            have PE4 := hid (show rmapE r.lists l k x = firstE (fun _ c => claE r.lists c) 0 x.clauses by rw [PE3.out]; simp [hm0]; unfold eachE; rw [← M.out, if_neg hm16])
            repeat' (first | go_skip | go_guarded | go_step | go_upon)
            clear PE3
            go_loopg [6] m (fun gg s6 wr => ∃ i : Nat, i ≤ m ∧ m - i ≤ gg ∧ s6 = .int .i64 i ∧ Below w1.heap.size w1 wr ∧ Aside (rmapE r.lists l k x = firstE (fun _ c => claE r.lists c) i (x.clauses.drop i)))
            case atStart => exact ⟨0, Nat.zero_le _, by omega, rfl, by assumption, PE4.out⟩
            case round =>
              obtain ⟨i, hi, hgi, rfl, hwr3, Q⟩ := hrel
              have f1 := F1 wr hwr3
              by_cases him : i < m
              · have himi : (i : Int) < (m : Int) := by omega
                have hi0 : (0 : Int) ≤ (i : Int) := by omega
                obtain ⟨y, hy⟩ := get_some (l := x.clauses) (k := i) (by have := M.out; omega)
                obtain ⟨b3, off3, rfl, hb3, hc3⟩ := HL.out (by omega)
                have LY : Sem.run P (loadCellsFrom ⟨b3, off3 + i * zClause, none⟩ 0 zClause #[]) wr = .ok (eCla y).toArray wr := by
                  rw [ZC.out]; exact ld_row (f := eCla) (z := 7) P (fun _ => rfl) (fun j u hj => (hwr3.cell (p := ⟨b3, off3 + j, none⟩) hb3).trans (hc3 j u hj)) hy
                obtain ⟨Y, hY⟩ : ∃ Y, Y = (eCla y).toArray := ⟨_, rfl⟩
                have hYs : Y.size = 7 := by rw [hY]; rfl
                have hY1 := hid (show Y.all (·.oneCell') = true by rw [hY]; simp [eCla, one_str, one_int, one_bool])
                have y1 : Y[1]? = some (.string y.lst) := by rw [hY]; rfl
                have y2 : Y[2]? = some (.int .i64 y.tag) := by rw [hY]; rfl
                have y3 : Y[3]? = some (.int .i64 y.setMetric) := by rw [hY]; rfl
                have y4 : Y[4]? = some (.int .i64 y.setTag) := by rw [hY]; rfl
                have y5 : Y[5]? = some (.int .i64 y.setPref) := by rw [hY]; rfl
                have y6 : Y[6]? = some (.int .i64 y.prepend) := by rw [hY]; rfl
                rw [← hY] at LY
                have DY := hid (drop_get hy)
                clear hY hy hc3
                repeat' ((fail_if_success with_reducible show Hid _); (first | ((with_reducible show Oper.wp _ ⟨_, .store 80 _ _, _, _, _, _⟩ _ _ _ _); refine stopC ?_) | go_skip | go_guarded | go_step | go_upon))
                refine hid ?_
                refine wp_store_box (w := wr.alloc (.cells zeroC 80)) 80 _ _ (by rfl) (g := wr.heap.size) (cur := zeroC) (X := Y) (by rfl) (by rfl) (by intro v; rw [hYs, ← ZC.out]; first | exact sz80 v | assumption) (heap_new _ _) (by rw [hYs]; rfl) hY1.out ?_
                intro w4 h1 h2 h3
                have HB4 := hid (show Below wr.heap.size wr w4 from (al1 wr _).trans (h3 _ (Nat.le_refl _)))
                have HW4 := hid (then_ (show Below w1.heap.size w1 wr from hwr3) HB4.out)
                have G4 : Below w4.heap.size w4 w4 := Below.refl _ _
                have FY1 : ∀ v : World, Below w4.heap.size w4 v → v.cell? ⟨wr.heap.size, 1, none⟩ = some (.string y.lst) := fun v h => box_at (blk_keep h1 h) y1
                have FY2 : ∀ v : World, Below w4.heap.size w4 v → v.cell? ⟨wr.heap.size, 2, none⟩ = some (.int .i64 y.tag) := fun v h => box_at (blk_keep h1 h) y2
                have FY3 : ∀ v : World, Below w4.heap.size w4 v → v.cell? ⟨wr.heap.size, 3, none⟩ = some (.int .i64 y.setMetric) := fun v h => box_at (blk_keep h1 h) y3
                have FY4 : ∀ v : World, Below w4.heap.size w4 v → v.cell? ⟨wr.heap.size, 4, none⟩ = some (.int .i64 y.setTag) := fun v h => box_at (blk_keep h1 h) y4
                have FY5 : ∀ v : World, Below w4.heap.size w4 v → v.cell? ⟨wr.heap.size, 5, none⟩ = some (.int .i64 y.setPref) := fun v h => box_at (blk_keep h1 h) y5
                have FY6 : ∀ v : World, Below w4.heap.size w4 v → v.cell? ⟨wr.heap.size, 6, none⟩ = some (.int .i64 y.prepend) := fun v h => box_at (blk_keep h1 h) y6
                have LX4 := fun (v : World) (h : Below w4.heap.size w4 v) => LX v (then_ HW4.out h)
                have d1 := fun wx => hWi y.tag (-1) 65535 wx
                have d2 := fun wx => hWi y.setTag (-1) 65535 wx
                have d3 := fun wx => hWi y.setMetric (-1) 16777215 wx
                have d4 := fun wx => hWi y.setPref (-1) 1000000 wx
                have d5 := fun wx => hWi y.prepend 0 8 wx
                obtain ⟨t1, ht1⟩ : ∃ q, q = wi y.tag (-1) 65535 := ⟨_, rfl⟩
                obtain ⟨t2, ht2⟩ : ∃ q, q = wi y.setTag (-1) 65535 := ⟨_, rfl⟩
                obtain ⟨t3, ht3⟩ : ∃ q, q = wi y.setMetric (-1) 16777215 := ⟨_, rfl⟩
                obtain ⟨t4, ht4⟩ : ∃ q, q = wi y.setPref (-1) 1000000 := ⟨_, rfl⟩
                obtain ⟨t5, ht5⟩ : ∃ q, q = wi y.prepend 0 8 := ⟨_, rfl⟩
                have CE0 := hid (show claE r.lists y = if unk y.lst (liIx r.lists y.lst) then 5 else if !(t1 && t2 && t3 && t4 && t5) then 1 else 0 by rw [ht1, ht2, ht3, ht4, ht5]; rfl)
                rw [← ht1] at d1
                rw [← ht2] at d2
                rw [← ht3] at d3
                rw [← ht4] at d4
                rw [← ht5] at d5
                have dP := fun wx (h : Below w4.heap.size w4 wx) => hPl wx y.lst (then_ HW4.out h)
                obtain ⟨q, hq⟩ : ∃ q, q = liIx r.lists y.lst := ⟨_, rfl⟩
                have hq2 : ixB (fun x : PList => x.name.toList == y.lst.toList) r.lists = q := hq.symm
                rw [hq2] at dP
                rw [← hq] at CE0
                clear h1 h2 h3 LY hYs y1 y2 y3 y4 y5 y6 ht1 ht2 ht3 ht4 ht5 hq hq2 f1
                cases hs : y.lst.toList.isEmpty with
                | true =>
                  have hse : y.lst.toList = [] := by simpa using hs
                  have CE := hid (show claE r.lists y = if !(t1 && t2 && t3 && t4 && t5) then 1 else 0 by rw [CE0.out]; unfold unk noS; rw [hs]; rfl)
                  clear CE0 dP
                  cases t1
                  case false =>
                    have Q2 := hid (show rmapE r.lists l k x = 1 by rw [Q.out, DY.out]; refine (firstE_hit ?_).trans ?_ <;> rw [CE.out] <;> simp)
                    repeat' (first | (go_at_call 45; with_reducible refine (d1 _).mono ?_; rintro e w' ⟨rfl, rfl⟩; try dsimp only) | (go_at_call 45; with_reducible refine (d2 _).mono ?_; rintro e w' ⟨rfl, rfl⟩; try dsimp only) | (go_at_call 45; with_reducible refine (d3 _).mono ?_; rintro e w' ⟨rfl, rfl⟩; try dsimp only) | (go_at_call 45; with_reducible refine (d4 _).mono ?_; rintro e w' ⟨rfl, rfl⟩; try dsimp only) | (go_at_call 45; with_reducible refine (d5 _).mono ?_; rintro e w' ⟨rfl, rfl⟩; try dsimp only) | go_skip | go_guarded | go_step | go_upon)
                    go_ret
                    exact ⟨ret_int (by rw [E.out, D.out]; refine ((firstE_hit (by rw [Q2.out]; simp)).trans ?_).symm; rw [Q2.out]), then_ HX.out (then_ HW4.out (by assumption))⟩
                  case true =>
                    cases t2
                    case false =>
                      have Q2 := hid (show rmapE r.lists l k x = 1 by rw [Q.out, DY.out]; refine (firstE_hit ?_).trans ?_ <;> rw [CE.out] <;> simp)
                      repeat' (first | (go_at_call 45; with_reducible refine (d1 _).mono ?_; rintro e w' ⟨rfl, rfl⟩; try dsimp only) | (go_at_call 45; with_reducible refine (d2 _).mono ?_; rintro e w' ⟨rfl, rfl⟩; try dsimp only) | (go_at_call 45; with_reducible refine (d3 _).mono ?_; rintro e w' ⟨rfl, rfl⟩; try dsimp only) | (go_at_call 45; with_reducible refine (d4 _).mono ?_; rintro e w' ⟨rfl, rfl⟩; try dsimp only) | (go_at_call 45; with_reducible refine (d5 _).mono ?_; rintro e w' ⟨rfl, rfl⟩; try dsimp only) | go_skip | go_guarded | go_step | go_upon)
                      go_ret
                      exact ⟨ret_int (by rw [E.out, D.out]; refine ((firstE_hit (by rw [Q2.out]; simp)).trans ?_).symm; rw [Q2.out]), then_ HX.out (then_ HW4.out (by assumption))⟩
                    case true =>
                      cases t3
                      case false =>
                        have Q2 := hid (show rmapE r.lists l k x = 1 by rw [Q.out, DY.out]; refine (firstE_hit ?_).trans ?_ <;> rw [CE.out] <;> simp)
                        repeat' (first | (go_at_call 45; with_reducible refine (d1 _).mono ?_; rintro e w' ⟨rfl, rfl⟩; try dsimp only) | (go_at_call 45; with_reducible refine (d2 _).mono ?_; rintro e w' ⟨rfl, rfl⟩; try dsimp only) | (go_at_call 45; with_reducible refine (d3 _).mono ?_; rintro e w' ⟨rfl, rfl⟩; try dsimp only) | (go_at_call 45; with_reducible refine (d4 _).mono ?_; rintro e w' ⟨rfl, rfl⟩; try dsimp only) | (go_at_call 45; with_reducible refine (d5 _).mono ?_; rintro e w' ⟨rfl, rfl⟩; try dsimp only) | go_skip | go_guarded | go_step | go_upon)
                        go_ret
                        exact ⟨ret_int (by rw [E.out, D.out]; refine ((firstE_hit (by rw [Q2.out]; simp)).trans ?_).symm; rw [Q2.out]), then_ HX.out (then_ HW4.out (by assumption))⟩
                      case true =>
                        cases t4
                        case false =>
                          have Q2 := hid (show rmapE r.lists l k x = 1 by rw [Q.out, DY.out]; refine (firstE_hit ?_).trans ?_ <;> rw [CE.out] <;> simp)
                          repeat' (first | (go_at_call 45; with_reducible refine (d1 _).mono ?_; rintro e w' ⟨rfl, rfl⟩; try dsimp only) | (go_at_call 45; with_reducible refine (d2 _).mono ?_; rintro e w' ⟨rfl, rfl⟩; try dsimp only) | (go_at_call 45; with_reducible refine (d3 _).mono ?_; rintro e w' ⟨rfl, rfl⟩; try dsimp only) | (go_at_call 45; with_reducible refine (d4 _).mono ?_; rintro e w' ⟨rfl, rfl⟩; try dsimp only) | (go_at_call 45; with_reducible refine (d5 _).mono ?_; rintro e w' ⟨rfl, rfl⟩; try dsimp only) | go_skip | go_guarded | go_step | go_upon)
                          go_ret
                          exact ⟨ret_int (by rw [E.out, D.out]; refine ((firstE_hit (by rw [Q2.out]; simp)).trans ?_).symm; rw [Q2.out]), then_ HX.out (then_ HW4.out (by assumption))⟩
                        case true =>
                          cases t5
                          case false =>
                            have Q2 := hid (show rmapE r.lists l k x = 1 by rw [Q.out, DY.out]; refine (firstE_hit ?_).trans ?_ <;> rw [CE.out] <;> simp)
                            repeat' (first | (go_at_call 45; with_reducible refine (d1 _).mono ?_; rintro e w' ⟨rfl, rfl⟩; try dsimp only) | (go_at_call 45; with_reducible refine (d2 _).mono ?_; rintro e w' ⟨rfl, rfl⟩; try dsimp only) | (go_at_call 45; with_reducible refine (d3 _).mono ?_; rintro e w' ⟨rfl, rfl⟩; try dsimp only) | (go_at_call 45; with_reducible refine (d4 _).mono ?_; rintro e w' ⟨rfl, rfl⟩; try dsimp only) | (go_at_call 45; with_reducible refine (d5 _).mono ?_; rintro e w' ⟨rfl, rfl⟩; try dsimp only) | go_skip | go_guarded | go_step | go_upon)
                            go_ret
                            exact ⟨ret_int (by rw [E.out, D.out]; refine ((firstE_hit (by rw [Q2.out]; simp)).trans ?_).symm; rw [Q2.out]), then_ HX.out (then_ HW4.out (by assumption))⟩
                          case true =>
                            have Q2 := hid (show rmapE r.lists l k x = firstE (fun _ c => claE r.lists c) (i + 1) (x.clauses.drop (i + 1)) by rw [Q.out, DY.out]; refine firstE_next ?_; rw [CE.out]; simp)
                            repeat' (first | (go_at_call 45; with_reducible refine (d1 _).mono ?_; rintro e w' ⟨rfl, rfl⟩; try dsimp only) | (go_at_call 45; with_reducible refine (d2 _).mono ?_; rintro e w' ⟨rfl, rfl⟩; try dsimp only) | (go_at_call 45; with_reducible refine (d3 _).mono ?_; rintro e w' ⟨rfl, rfl⟩; try dsimp only) | (go_at_call 45; with_reducible refine (d4 _).mono ?_; rintro e w' ⟨rfl, rfl⟩; try dsimp only) | (go_at_call 45; with_reducible refine (d5 _).mono ?_; rintro e w' ⟨rfl, rfl⟩; try dsimp only) | go_skip | go_guarded | go_step | go_upon)
                            go_roundg (m - (i + 1))
                            case measure => omega
                            case rel => exact ⟨i + 1, by omega, by omega, by go_num, then_ HW4.out (by assumption), Q2.out⟩
                | false =>
                  have hse : ¬ y.lst.toList = [] := by intro h; rw [h] at hs; cases hs
                  by_cases hq0 : q < 0
                  · have CE := hid (show claE r.lists y = 5 by rw [CE0.out]; unfold unk noS; rw [hs, decide_eq_true hq0]; rfl)
                    have Q2 := hid (show rmapE r.lists l k x = 5 by rw [Q.out, DY.out]; refine (firstE_hit ?_).trans ?_ <;> rw [CE.out] <;> simp)
                    clear CE0
                    have TQ : decide (q < 0) = true := decide_eq_true hq0
                    repeat' (first | (go_at_call 35; with_reducible refine (dP _ (by assumption)).mono ?_; rintro e w' ⟨rfl, b⟩; have b' := then_ (w := w4) (by assumption) b; clear b; try dsimp only) | go_skip | go_guarded | go_step | go_upon)
                    go_ret
                    exact ⟨ret_int (by rw [E.out, D.out]; refine ((firstE_hit (by rw [Q2.out]; simp)).trans ?_).symm; rw [Q2.out]), then_ HX.out (then_ HW4.out (by assumption))⟩
                  · have CE := hid (show claE r.lists y = if !(t1 && t2 && t3 && t4 && t5) then 1 else 0 by rw [CE0.out]; unfold unk noS; rw [hs, decide_eq_false hq0]; rfl)
                    clear CE0
                    cases t1
                    case false =>
                      have Q2 := hid (show rmapE r.lists l k x = 1 by rw [Q.out, DY.out]; refine (firstE_hit ?_).trans ?_ <;> rw [CE.out] <;> simp)
                      repeat' (first | (go_at_call 35; with_reducible refine (dP _ (by assumption)).mono ?_; rintro e w' ⟨rfl, b⟩; have b' := then_ (w := w4) (by assumption) b; clear b; try dsimp only) | (go_at_call 45; with_reducible refine (d1 _).mono ?_; rintro e w' ⟨rfl, rfl⟩; try dsimp only) | (go_at_call 45; with_reducible refine (d2 _).mono ?_; rintro e w' ⟨rfl, rfl⟩; try dsimp only) | (go_at_call 45; with_reducible refine (d3 _).mono ?_; rintro e w' ⟨rfl, rfl⟩; try dsimp only) | (go_at_call 45; with_reducible refine (d4 _).mono ?_; rintro e w' ⟨rfl, rfl⟩; try dsimp only) | (go_at_call 45; with_reducible refine (d5 _).mono ?_; rintro e w' ⟨rfl, rfl⟩; try dsimp only) | go_skip | go_guarded | go_step | go_upon)
                      go_ret
                      exact ⟨ret_int (by rw [E.out, D.out]; refine ((firstE_hit (by rw [Q2.out]; simp)).trans ?_).symm; rw [Q2.out]), then_ HX.out (then_ HW4.out (by assumption))⟩
                    case true =>
                      cases t2
                      case false =>
                        have Q2 := hid (show rmapE r.lists l k x = 1 by rw [Q.out, DY.out]; refine (firstE_hit ?_).trans ?_ <;> rw [CE.out] <;> simp)
                        repeat' (first | (go_at_call 35; with_reducible refine (dP _ (by assumption)).mono ?_; rintro e w' ⟨rfl, b⟩; have b' := then_ (w := w4) (by assumption) b; clear b; try dsimp only) | (go_at_call 45; with_reducible refine (d1 _).mono ?_; rintro e w' ⟨rfl, rfl⟩; try dsimp only) | (go_at_call 45; with_reducible refine (d2 _).mono ?_; rintro e w' ⟨rfl, rfl⟩; try dsimp only) | (go_at_call 45; with_reducible refine (d3 _).mono ?_; rintro e w' ⟨rfl, rfl⟩; try dsimp only) | (go_at_call 45; with_reducible refine (d4 _).mono ?_; rintro e w' ⟨rfl, rfl⟩; try dsimp only) | (go_at_call 45; with_reducible refine (d5 _).mono ?_; rintro e w' ⟨rfl, rfl⟩; try dsimp only) | go_skip | go_guarded | go_step | go_upon)
                        go_ret
                        exact ⟨ret_int (by rw [E.out, D.out]; refine ((firstE_hit (by rw [Q2.out]; simp)).trans ?_).symm; rw [Q2.out]), then_ HX.out (then_ HW4.out (by assumption))⟩
                      case true =>
                        cases t3
                        case false =>
                          have Q2 := hid (show rmapE r.lists l k x = 1 by rw [Q.out, DY.out]; refine (firstE_hit ?_).trans ?_ <;> rw [CE.out] <;> simp)
                          repeat' (first | (go_at_call 35; with_reducible refine (dP _ (by assumption)).mono ?_; rintro e w' ⟨rfl, b⟩; have b' := then_ (w := w4) (by assumption) b; clear b; try dsimp only) | (go_at_call 45; with_reducible refine (d1 _).mono ?_; rintro e w' ⟨rfl, rfl⟩; try dsimp only) | (go_at_call 45; with_reducible refine (d2 _).mono ?_; rintro e w' ⟨rfl, rfl⟩; try dsimp only) | (go_at_call 45; with_reducible refine (d3 _).mono ?_; rintro e w' ⟨rfl, rfl⟩; try dsimp only) | (go_at_call 45; with_reducible refine (d4 _).mono ?_; rintro e w' ⟨rfl, rfl⟩; try dsimp only) | (go_at_call 45; with_reducible refine (d5 _).mono ?_; rintro e w' ⟨rfl, rfl⟩; try dsimp only) | go_skip | go_guarded | go_step | go_upon)
                          go_ret
                          exact ⟨ret_int (by rw [E.out, D.out]; refine ((firstE_hit (by rw [Q2.out]; simp)).trans ?_).symm; rw [Q2.out]), then_ HX.out (then_ HW4.out (by assumption))⟩
                        case true =>
                          cases t4
                          case false =>
                            have Q2 := hid (show rmapE r.lists l k x = 1 by rw [Q.out, DY.out]; refine (firstE_hit ?_).trans ?_ <;> rw [CE.out] <;> simp)
                            repeat' (first | (go_at_call 35; with_reducible refine (dP _ (by assumption)).mono ?_; rintro e w' ⟨rfl, b⟩; have b' := then_ (w := w4) (by assumption) b; clear b; try dsimp only) | (go_at_call 45; with_reducible refine (d1 _).mono ?_; rintro e w' ⟨rfl, rfl⟩; try dsimp only) | (go_at_call 45; with_reducible refine (d2 _).mono ?_; rintro e w' ⟨rfl, rfl⟩; try dsimp only) | (go_at_call 45; with_reducible refine (d3 _).mono ?_; rintro e w' ⟨rfl, rfl⟩; try dsimp only) | (go_at_call 45; with_reducible refine (d4 _).mono ?_; rintro e w' ⟨rfl, rfl⟩; try dsimp only) | (go_at_call 45; with_reducible refine (d5 _).mono ?_; rintro e w' ⟨rfl, rfl⟩; try dsimp only) | go_skip | go_guarded | go_step | go_upon)
                            go_ret
                            exact ⟨ret_int (by rw [E.out, D.out]; refine ((firstE_hit (by rw [Q2.out]; simp)).trans ?_).symm; rw [Q2.out]), then_ HX.out (then_ HW4.out (by assumption))⟩
                          case true =>
                            cases t5
                            case false =>
                              have Q2 := hid (show rmapE r.lists l k x = 1 by rw [Q.out, DY.out]; refine (firstE_hit ?_).trans ?_ <;> rw [CE.out] <;> simp)
                              repeat' (first | (go_at_call 35; with_reducible refine (dP _ (by assumption)).mono ?_; rintro e w' ⟨rfl, b⟩; have b' := then_ (w := w4) (by assumption) b; clear b; try dsimp only) | (go_at_call 45; with_reducible refine (d1 _).mono ?_; rintro e w' ⟨rfl, rfl⟩; try dsimp only) | (go_at_call 45; with_reducible refine (d2 _).mono ?_; rintro e w' ⟨rfl, rfl⟩; try dsimp only) | (go_at_call 45; with_reducible refine (d3 _).mono ?_; rintro e w' ⟨rfl, rfl⟩; try dsimp only) | (go_at_call 45; with_reducible refine (d4 _).mono ?_; rintro e w' ⟨rfl, rfl⟩; try dsimp only) | (go_at_call 45; with_reducible refine (d5 _).mono ?_; rintro e w' ⟨rfl, rfl⟩; try dsimp only) | go_skip | go_guarded | go_step | go_upon)
                              go_ret
                              exact ⟨ret_int (by rw [E.out, D.out]; refine ((firstE_hit (by rw [Q2.out]; simp)).trans ?_).symm; rw [Q2.out]), then_ HX.out (then_ HW4.out (by assumption))⟩
                            case true =>
                              have Q2 := hid (show rmapE r.lists l k x = firstE (fun _ c => claE r.lists c) (i + 1) (x.clauses.drop (i + 1)) by rw [Q.out, DY.out]; refine firstE_next ?_; rw [CE.out]; simp)
                              repeat' (first | (go_at_call 35; with_reducible refine (dP _ (by assumption)).mono ?_; rintro e w' ⟨rfl, b⟩; have b' := then_ (w := w4) (by assumption) b; clear b; try dsimp only) | (go_at_call 45; with_reducible refine (d1 _).mono ?_; rintro e w' ⟨rfl, rfl⟩; try dsimp only) | (go_at_call 45; with_reducible refine (d2 _).mono ?_; rintro e w' ⟨rfl, rfl⟩; try dsimp only) | (go_at_call 45; with_reducible refine (d3 _).mono ?_; rintro e w' ⟨rfl, rfl⟩; try dsimp only) | (go_at_call 45; with_reducible refine (d4 _).mono ?_; rintro e w' ⟨rfl, rfl⟩; try dsimp only) | (go_at_call 45; with_reducible refine (d5 _).mono ?_; rintro e w' ⟨rfl, rfl⟩; try dsimp only) | go_skip | go_guarded | go_step | go_upon)
                              go_roundg (m - (i + 1))
                              case measure => omega
                              case rel => exact ⟨i + 1, by omega, by omega, by go_num, then_ HW4.out (by assumption), Q2.out⟩
              · have himi : ¬ (i : Int) < (m : Int) := by omega
                have Q2 := hid (show rmapE r.lists l k x = 0 by rw [Q.out, drop_end (by have := M.out; omega)]; rfl)
                repeat' (first | go_skip | go_guarded | go_step | go_upon)
                go_roundg (n - (k + 1))
                case measure => omega
                case rel => exact ⟨k + 1, by omega, by omega, by go_num, by assumption, by show _ = _; rw [E.out, D.out]; exact firstE_next Q2.out⟩
    · have hlti : ¬ (k : Int) < (n : Int) := by omega
      repeat' (first | go_skip | go_guarded | go_step | go_upon)
      go_ret
      exact ⟨ret_int (by rw [E.out, drop_end (by have := N.out; omega)]; rfl), then_ HX.out (by assumption)⟩
end Go.Proofs.Ytlhbfpapmolohaa.Mw
