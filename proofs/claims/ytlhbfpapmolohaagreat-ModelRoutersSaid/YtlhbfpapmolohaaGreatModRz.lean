/-
  ModRz: ModRr, ModRd, ModRp, ModRk, ModRc, joined.
-/
import Derived.Test.YtlhbfpapmolohaaGreatModRo
import Derived.Test.YtlhbfpapmolohaaGreatModSm
import Derived.Test.YtlhbfpapmolohaaGreatModRi
import Derived.Test.YtlhbfpapmolohaaGreatModRs
import Derived.Test.YtlhbfpapmolohaaGreatQTail
import Derived.Deep.RegionHeld3
/-
  THE CONTRACT OF netverifyref8.redistributions.
-/
namespace Go.Proofs.YtlhbfpapmolohaaGreat.Mw
set_option linter.unusedSimpArgs false
set_option linter.unusedVariables false
open Go.RowKit Kt Mm Mp

def zeroRed : Array Value := #[.int .i64 0, .int .i64 0, .int .i64 0, .string ⟨#[]⟩, .int .i64 0]
/-- A protocol's bounds, as the reference is handed them. -/
def mkT (p a b : Int) : Into := ⟨p, a, b, if p = 3 then 1 else 0, if p = 3 then 2 else 0⟩

set_option maxHeartbeats 16000000 in
set_option maxRecDepth 4000 in
theorem rReds (r : Rtr) (v : Value) (l : List Red) (into least most : Int) (w : World) (hr : RtrIn w r) (hrow0 : InRow eRed 5 w v l) :
    Calls Tryz.prog 112 #[.agg (eRtr r).toArray, v, .int .i64 into, .int .i64 least, .int .i64 most] w fun e w' => e = .returned (.int .i64 (redsE r.maps (mkT into least most) l)) ∧ Below w.heap.size w w' := by
  have hWi := fun (p q t : Int) wx => rWithin p q t wx
  obtain ⟨X, hX⟩ : ∃ X, X = (eRtr r).toArray := ⟨_, rfl⟩
  obtain ⟨w1, hw1⟩ : ∃ w1, w.alloc (.cells X 41) = w1 := ⟨_, rfl⟩
  have hhX : w1.heap[w.heap.size]? = some (.cells X 41 (0, 0)) := by rw [← hw1, heap_new]
  have KX : ∀ v : World, Below w1.heap.size w1 v → v.heap[w.heap.size]? = some (.cells X 41 (0, 0)) := fun v h => blk_keep hhX h
  have GX : Below w1.heap.size w1 w1 := Below.refl _ _
  have HX := hid (show Below w.heap.size w w1 by rw [← hw1]; exact new_below _ _)
  have hX' := hid hX
  try rw [← hX]
  clear hX hhX
  have hMp := fun wx (s : ByteArray) (h : Below w1.heap.size w1 wx) => rkRMap X r.vMaps r.maps s wx (by rw [hX'.out]; rfl) (hr.keep (then_ HX.out h)).maps.row hr.maps.len
  have hXs : X.size = 25 := by rw [hX'.out]; rfl
  have hrow : IsRow eRed 5 w1 v l := rows_keep hrow0.row HX.out
  have hl := hrow0.len
  have R0 := hid (show redsE r.maps (mkT into least most) l = if 4 < l.length then 7 else firstE (redE r.maps (mkT into least most) l) 0 l from rfl)
  obtain ⟨a, cap, hv, hcap, hcell⟩ := rows_open (z := 5) (by decide) hrow
  obtain ⟨n, hn⟩ : ∃ n, n = l.length := ⟨_, rfl⟩
  rw [← hn] at hl hcap hcell hv R0
  subst hv
  have N := hid hn
  have HC := hid hcell
  clear hn hrow hcell hr hrow0
  obtain ⟨P, hP⟩ : ∃ P, P = Tryz.prog := ⟨_, rfl⟩
  have HP := hid hP
  have mixed : P.follows .mixedOrders = true := by rw [hP]; kernel_rfl
  have FG : P.funcs[112]? = some Tryz.f112 := by rw [hP]; exact Tryz.func112
  obtain ⟨zRouter, hzRouter⟩ : ∃ z, z = 25 := ⟨_, rfl⟩
  have nzRouter : ¬ zRouter = 0 := by omega
  obtain ⟨zRedist, hzRedist⟩ : ∃ z, z = 5 := ⟨_, rfl⟩
  have nzRedist : ¬ zRedist = 0 := by omega
  have ty3 := Tryz.underlying3; have ag3 := Tryz.isAgg3; have sz3 := Tryz.sizeOf3; have ru3 := Tryz.runUnderlying3
  have ty4 := Tryz.underlying4; have ag4 := Tryz.isAgg4; have sz4 := Tryz.sizeOf4; have ru4 := Tryz.runUnderlying4
  have ty9 := Tryz.underlying9; have ag9 := Tryz.isAgg9; have sz9 := Tryz.sizeOf9; have ru9 := Tryz.runUnderlying9
  have ty29 := Tryz.underlying29; have ag29 := Tryz.isAgg29; have sz29 := Tryz.sizeOf29; have ru29 := Tryz.runUnderlying29
  have ty41 := Tryz.underlying41; have ag41 := Tryz.isAgg41; have sz41 := Tryz.sizeOf41; have ru41 := Tryz.runUnderlying41
  rw [← hzRouter] at sz41
  have ty154 := Tryz.underlying154; have ag154 := Tryz.isAgg154; have sz154 := Tryz.sizeOf154; have ru154 := Tryz.runUnderlying154
  rw [← hzRedist] at sz154
  have zeRedist := Tryz.zeroValue154
  have en0 : ∀ args w, (callFunc 182 args).run Tryz.prog w = .ok (.enter 182 args) w := enters_of Tryz.func182 (by kernel_rfl) rfl
  have en1 : ∀ args w, (callFunc 29 args).run Tryz.prog w = .ok (.enter 29 args) w := enters_of Tryz.func29 (by kernel_rfl) rfl
  rw [← hP] at ty3 ag3 sz3 ru3 ty4 ag4 sz4 ru4 ty9 ag9 sz9 ru9 ty29 ag29 sz29 ru29 ty41 ag41 sz41 ru41 ty154 ag154 sz154 ru154 zeRedist en0 en1 hWi hMp ⊢
  clear hP
  have LX : ∀ v : World, Below w1.heap.size w1 v → Sem.run P (loadCellsFrom ⟨w.heap.size, 0, none⟩ 0 zRouter #[]) v = .ok X v := fun v h => ld_box P (KX v h) (by rw [hzRouter]; exact hXs)
  have ZR := hid hzRouter
  have ZD := hid hzRedist
  clear hzRouter hzRedist KX
  by_cases h8 : 4 < n
  · have h8i : (4 : Int) < (n : Int) := by omega
    go_enter FG, Tryz.ntmps112
    repeat' (first | go_skip | go_guarded | go_step | go_upon)
    go_ret
    exact ⟨ret_int (by rw [R0.out, if_pos h8]), HX.out⟩
  have h8i : ¬ (4 : Int) < (n : Int) := by omega
  have R1 := hid (R0.out.trans (if_neg h8))
  go_enter FG, Tryz.ntmps112
  repeat' (first | go_skip | go_guarded | go_step | go_upon)
  clear R0 h8 h8i
  go_loopg [11] n (fun gg s11 wr => ∃ k : Nat, k ≤ n ∧ n - k ≤ gg ∧ s11 = .int .i64 k ∧ Below w1.heap.size w1 wr ∧ Aside (redsE r.maps (mkT into least most) l = firstE (redE r.maps (mkT into least most) l) k (l.drop k)))
  case atStart => exact ⟨0, Nat.zero_le _, by omega, rfl, by assumption, R1.out⟩
  case round =>
    obtain ⟨k, hk, hg, rfl, hwr, E⟩ := hrel
    by_cases hlt : k < n
    · have hlti : (k : Int) < (n : Int) := by omega
      have hk0 : (0 : Int) ≤ (k : Int) := by omega
      obtain ⟨x, hx⟩ := get_some (l := l) (k := k) (by have := N.out; omega)
      obtain ⟨b, off, rfl, hb, hc⟩ := HC.out (by omega)
      have LY : Sem.run P (loadCellsFrom ⟨b, off + k * zRedist, none⟩ 0 zRedist #[]) wr = .ok (eRed x).toArray wr := by
        rw [ZD.out]; exact ld_row (f := eRed) (z := 5) P (fun _ => rfl) (fun j u hj => (hwr.cell (p := ⟨b, off + j, none⟩) hb).trans (hc j u hj)) hx
      obtain ⟨Y, hY⟩ : ∃ Y, Y = (eRed x).toArray := ⟨_, rfl⟩
      have hYs : Y.size = 5 := by rw [hY]; rfl
      have hY1 := hid (show Y.all (·.oneCell') = true by rw [hY]; simp [eRed, one_str, one_int, one_bool])
      have y0 : Y[0]? = some (.int .i64 x.frm) := by rw [hY]; rfl
      have y1 : Y[1]? = some (.int .i64 x.metric) := by rw [hY]; rfl
      have y2 : Y[2]? = some (.int .i64 x.tag) := by rw [hY]; rfl
      have y3 : Y[3]? = some (.string x.mp) := by rw [hY]; rfl
      have y4 : Y[4]? = some (.int .i64 x.typ) := by rw [hY]; rfl
      rw [← hY] at LY
      have D := hid (drop_get hx)
      clear hY hx
      repeat' ((fail_if_success (with_reducible show Hid _)); (first | ((with_reducible show Oper.wp _ ⟨_, .store 154 _ _, _, _, _, _⟩ _ _ _ _); refine stopF ?_) | go_skip | go_guarded | go_step | go_upon))
      refine hid ?_
      refine wp_store_box (w := wr.alloc (.cells zeroRed 154)) 154 _ _ (by rfl) (g := wr.heap.size) (cur := zeroRed) (X := Y) (by rfl) (by rfl) (by intro v; rw [hYs, ← ZD.out]; first | exact sz154 v | assumption) (heap_new _ _) (by rw [hYs]; rfl) hY1.out ?_
      intro w4 h1 h2 h3
      have HB4 := hid (show Below wr.heap.size wr w4 from (al1 wr _).trans (h3 _ (Nat.le_refl _)))
      have HW4 := hid (then_ (show Below w1.heap.size w1 wr from hwr) HB4.out)
      have G4 : Below w4.heap.size w4 w4 := Below.refl _ _
      have FY0 : ∀ v : World, Below w4.heap.size w4 v → v.cell? ⟨wr.heap.size, 0, none⟩ = some (.int .i64 x.frm) := fun v h => box_at (blk_keep h1 h) y0
      have FY1 : ∀ v : World, Below w4.heap.size w4 v → v.cell? ⟨wr.heap.size, 1, none⟩ = some (.int .i64 x.metric) := fun v h => box_at (blk_keep h1 h) y1
      have FY2 : ∀ v : World, Below w4.heap.size w4 v → v.cell? ⟨wr.heap.size, 2, none⟩ = some (.int .i64 x.tag) := fun v h => box_at (blk_keep h1 h) y2
      have FY3 : ∀ v : World, Below w4.heap.size w4 v → v.cell? ⟨wr.heap.size, 3, none⟩ = some (.string x.mp) := fun v h => box_at (blk_keep h1 h) y3
      have FY4 : ∀ v : World, Below w4.heap.size w4 v → v.cell? ⟨wr.heap.size, 4, none⟩ = some (.int .i64 x.typ) := fun v h => box_at (blk_keep h1 h) y4
      have LX4 := fun (v : World) (h : Below w4.heap.size w4 v) => LX v (then_ HW4.out h)
      have d1 := fun wx => hWi x.frm 1 5 wx
      have d2 := fun wx => hWi x.metric least most wx
      have d3 := fun wx => hWi x.tag 0 65535 wx
      have dM := fun wx (h : Below w4.heap.size w4 wx) => hMp wx x.mp (then_ HW4.out h)
      obtain ⟨a1, ha1⟩ : ∃ q, q = wi x.frm 1 5 := ⟨_, rfl⟩
      obtain ⟨a2, ha2⟩ : ∃ q, q = wi x.metric least most := ⟨_, rfl⟩
      obtain ⟨a3, ha3⟩ : ∃ q, q = wi x.tag 0 65535 := ⟨_, rfl⟩
      obtain ⟨qi, hqi⟩ : ∃ q, q = maIx r.maps x.mp := ⟨_, rfl⟩
      obtain ⟨tk, htk⟩ : ∃ q, q = (l.take k).any (fun y : Red => decide (y.frm = x.frm)) := ⟨_, rfl⟩
      have hqi2 : ixB (fun y : RMap => y.name.toList == x.mp.toList) r.maps = qi := hqi.symm
      rw [← ha1] at d1
      rw [← ha2] at d2
      rw [← ha3] at d3
      rw [hqi2] at dM
      have FE := hid (show redE r.maps (mkT into least most) l k x = if !(a1 && !decide (x.frm = into) && a2 && a3 && wi x.typ (if into = 3 then 1 else 0) (if into = 3 then 2 else 0)) then 1 else if unk x.mp qi then 5 else if tk then 4 else 0 by rw [ha1, ha2, ha3, hqi, htk]; rfl)
      have TK := hid htk
      clear h1 h2 h3 LY hYs y0 y1 y2 y3 y4 ha1 ha2 ha3 hqi hqi2 htk
      cases a1
      case false =>
        have Q2 := hid (show redE r.maps (mkT into least most) l k x = 1 by rw [FE.out]; simp)
        repeat' (first | (go_at_call 29; with_reducible refine (d1 _).mono ?_; rintro e w' ⟨rfl, rfl⟩; try dsimp only) | (go_at_call 29; with_reducible refine (d2 _).mono ?_; rintro e w' ⟨rfl, rfl⟩; try dsimp only) | (go_at_call 29; with_reducible refine (d3 _).mono ?_; rintro e w' ⟨rfl, rfl⟩; try dsimp only) | (go_at_call 182; with_reducible refine (dM _ (by assumption)).mono ?_; rintro e w' ⟨rfl, b⟩; have b' := then_ (w := w4) (by assumption) b; clear b; try dsimp only) | go_skip | go_guarded | go_step | go_upon)
        (try simp only [Exit.inBlock, Exit.then]); refine bodyPost_ret (results_tmp (by rfl) _ _ _) (by rfl) ?_
        exact ⟨ret_int (by rw [E.out, D.out]; refine ((firstE_hit (by rw [Q2.out]; simp)).trans ?_).symm; rw [Q2.out]), then_ HX.out (then_ HW4.out (by assumption))⟩
      by_cases he : x.frm = into
      · have heb : (x.frm == into) = true := by simpa using he
        have HE := hid he
        clear he
        have Q2 := hid (show redE r.maps (mkT into least most) l k x = 1 by rw [FE.out]; simp [HE.out])
        repeat' (first | (go_at_call 29; with_reducible refine (d1 _).mono ?_; rintro e w' ⟨rfl, rfl⟩; try dsimp only) | (go_at_call 29; with_reducible refine (d2 _).mono ?_; rintro e w' ⟨rfl, rfl⟩; try dsimp only) | (go_at_call 29; with_reducible refine (d3 _).mono ?_; rintro e w' ⟨rfl, rfl⟩; try dsimp only) | (go_at_call 182; with_reducible refine (dM _ (by assumption)).mono ?_; rintro e w' ⟨rfl, b⟩; have b' := then_ (w := w4) (by assumption) b; clear b; try dsimp only) | go_skip | go_guarded | go_step | go_upon)
        (try simp only [Exit.inBlock, Exit.then]); refine bodyPost_ret (results_tmp (by rfl) _ _ _) (by rfl) ?_
        exact ⟨ret_int (by rw [E.out, D.out]; refine ((firstE_hit (by rw [Q2.out]; simp)).trans ?_).symm; rw [Q2.out]), then_ HX.out (then_ HW4.out (by assumption))⟩
      have heb : (x.frm == into) = false := by simpa using he
      have HE := hid he
      clear he
      cases a2
      case false =>
        have Q2 := hid (show redE r.maps (mkT into least most) l k x = 1 by rw [FE.out]; simp)
        repeat' (first | (go_at_call 29; with_reducible refine (d1 _).mono ?_; rintro e w' ⟨rfl, rfl⟩; try dsimp only) | (go_at_call 29; with_reducible refine (d2 _).mono ?_; rintro e w' ⟨rfl, rfl⟩; try dsimp only) | (go_at_call 29; with_reducible refine (d3 _).mono ?_; rintro e w' ⟨rfl, rfl⟩; try dsimp only) | (go_at_call 182; with_reducible refine (dM _ (by assumption)).mono ?_; rintro e w' ⟨rfl, b⟩; have b' := then_ (w := w4) (by assumption) b; clear b; try dsimp only) | go_skip | go_guarded | go_step | go_upon)
        (try simp only [Exit.inBlock, Exit.then]); refine bodyPost_ret (results_tmp (by rfl) _ _ _) (by rfl) ?_
        exact ⟨ret_int (by rw [E.out, D.out]; refine ((firstE_hit (by rw [Q2.out]; simp)).trans ?_).symm; rw [Q2.out]), then_ HX.out (then_ HW4.out (by assumption))⟩
      cases a3
      case false =>
        have Q2 := hid (show redE r.maps (mkT into least most) l k x = 1 by rw [FE.out]; simp)
        repeat' (first | (go_at_call 29; with_reducible refine (d1 _).mono ?_; rintro e w' ⟨rfl, rfl⟩; try dsimp only) | (go_at_call 29; with_reducible refine (d2 _).mono ?_; rintro e w' ⟨rfl, rfl⟩; try dsimp only) | (go_at_call 29; with_reducible refine (d3 _).mono ?_; rintro e w' ⟨rfl, rfl⟩; try dsimp only) | (go_at_call 182; with_reducible refine (dM _ (by assumption)).mono ?_; rintro e w' ⟨rfl, b⟩; have b' := then_ (w := w4) (by assumption) b; clear b; try dsimp only) | go_skip | go_guarded | go_step | go_upon)
        (try simp only [Exit.inBlock, Exit.then]); refine bodyPost_ret (results_tmp (by rfl) _ _ _) (by rfl) ?_
        exact ⟨ret_int (by rw [E.out, D.out]; refine ((firstE_hit (by rw [Q2.out]; simp)).trans ?_).symm; rw [Q2.out]), then_ HX.out (then_ HW4.out (by assumption))⟩
      by_cases h3 : into = 3
      · have h3b : (into == 3) = true := by simpa using h3
        have h3c : (into != 3) = false := by simpa using h3
        have H3 := hid h3
        clear h3
        by_cases t1 : x.typ = 1
        · have t1b : (x.typ != 1) = false := by simpa using t1
          have T1 := hid t1
          clear t1
          cases si : x.mp.toList.isEmpty with
          | true =>
            have Q3 := hid (show redE r.maps (mkT into least most) l k x = if tk then 4 else 0 by rw [FE.out]; simp only [if_pos H3.out]; unfold unk noS wi; simp [HE.out, T1.out, si])
            repeat' (first | (go_at_call 29; with_reducible refine (d1 _).mono ?_; rintro e w' ⟨rfl, rfl⟩; try dsimp only) | (go_at_call 29; with_reducible refine (d2 _).mono ?_; rintro e w' ⟨rfl, rfl⟩; try dsimp only) | (go_at_call 29; with_reducible refine (d3 _).mono ?_; rintro e w' ⟨rfl, rfl⟩; try dsimp only) | (go_at_call 182; with_reducible refine (dM _ (by assumption)).mono ?_; rintro e w' ⟨rfl, b⟩; have b' := then_ (w := w4) (by assumption) b; clear b; try dsimp only) | go_skip | go_guarded | go_step | go_upon)
            go_loopg [13] k (fun gg s13 wr => ∃ j : Nat, j ≤ k ∧ k - j ≤ gg ∧ s13 = .int .i64 j ∧ Below w4.heap.size w4 wr ∧ Aside (tk = ((l.take k).drop j).any (fun y : Red => decide (y.frm = x.frm))))
            case atStart => exact ⟨0, Nat.zero_le _, by omega, rfl, by assumption, TK.out⟩
            case round =>
              obtain ⟨j, hj, hgj, rfl, hwr2, T⟩ := hrel
              by_cases hjk : j < k
              · have hjki : (j : Int) < (k : Int) := by omega
                have hjn : (j : Int) < (n : Int) := by omega
                have hj0 : (0 : Int) ≤ (j : Int) := by omega
                obtain ⟨y, hy⟩ := get_some (l := l) (k := j) (by have := N.out; omega)
                have hcy := row_cells (f := eRed) (z := 5) (fun _ => rfl) hc hy
                have GS : Below wr.heap.size wr wr := Below.refl _ _
                have uF0 := fun u : Later wr.heap.size wr => FY0 u.w (then_ hwr2 u.h)
                have uY0 : ∀ u : Later wr.heap.size wr, u.w.cell? ⟨b, off + j * zRedist, none⟩ = some (.int .i64 y.frm) := fun u => by rw [ZD.out]; exact ((then_ HW4.out (then_ hwr2 u.h)).cell (p := ⟨b, off + j * 5, none⟩) hb).trans (hcy 0 _ rfl)
                clear hcy
                by_cases hq : y.frm = x.frm
                · have T2 := hid (T.out.trans (any_hit hy hjk (decide_eq_true hq)))
                  have Q2 := hid (show redE r.maps (mkT into least most) l k x = 4 by rw [Q3.out, T2.out]; rfl)
                  have e1 : (y.frm == x.frm) = true := by simpa using hq
                  repeat' (first | go_skip | go_guarded | go_step | go_upon)
                  refine wp_region_base wr (by assumption) (by first | assumption | kernel_rfl) (by kernel_rfl) ?_
                  repeat (go_big_quiet_step (first | fail))
                  refine wpQuiet_nil ?_
                  rintro _ ⟨u, rfl⟩
                  have bu := u.h
                  repeat' (first | go_skip | go_guarded | go_step | go_upon)
                  (try simp only [Exit.inBlock, Exit.then]); refine bodyPost_ret (results_tmp (by rfl) _ _ _) (by rfl) ?_
                  exact ⟨ret_int (by rw [E.out, D.out]; refine ((firstE_hit (by rw [Q2.out]; simp)).trans ?_).symm; rw [Q2.out]), then_ HX.out (then_ HW4.out (then_ hwr2 (by assumption)))⟩
                · have T2 := hid (T.out.trans (any_next hy hjk (decide_eq_false hq)))
                  have e1 : (y.frm == x.frm) = false := by simpa using hq
                  repeat' (first | go_skip | go_guarded | go_step | go_upon)
                  refine wp_region_base wr (by assumption) (by first | assumption | kernel_rfl) (by kernel_rfl) ?_
                  repeat (go_big_quiet_step (first | fail))
                  refine wpQuiet_nil ?_
                  rintro _ ⟨u, rfl⟩
                  have bu := u.h
                  repeat' (first | go_skip | go_guarded | go_step | go_upon)
                  go_roundg (k - (j + 1))
                  case measure => omega
                  case rel => exact ⟨j + 1, by omega, by omega, by go_num, then_ hwr2 (by assumption), T2.out⟩
              · have hjki : ¬ (j : Int) < (k : Int) := by omega
                have T2 := hid (T.out.trans (any_end (by omega)))
                have Q2 := hid (show redE r.maps (mkT into least most) l k x = 0 by rw [Q3.out, T2.out]; rfl)
                repeat' (first | go_skip | go_guarded | go_step | go_upon)
                go_roundg (n - (k + 1))
                case measure => omega
                case rel => exact ⟨k + 1, by omega, by omega, by go_num, then_ HW4.out (by assumption), by show _ = _; rw [E.out, D.out]; exact firstE_next Q2.out⟩
          | false =>
            by_cases ni : qi < 0
            · have Ti : decide (qi < 0) = true := decide_eq_true ni
              have Q2 := hid (show redE r.maps (mkT into least most) l k x = 5 by rw [FE.out]; simp only [if_pos H3.out]; unfold unk noS wi; simp [HE.out, T1.out, si, ni])
              repeat' (first | (go_at_call 29; with_reducible refine (d1 _).mono ?_; rintro e w' ⟨rfl, rfl⟩; try dsimp only) | (go_at_call 29; with_reducible refine (d2 _).mono ?_; rintro e w' ⟨rfl, rfl⟩; try dsimp only) | (go_at_call 29; with_reducible refine (d3 _).mono ?_; rintro e w' ⟨rfl, rfl⟩; try dsimp only) | (go_at_call 182; with_reducible refine (dM _ (by assumption)).mono ?_; rintro e w' ⟨rfl, b⟩; have b' := then_ (w := w4) (by assumption) b; clear b; try dsimp only) | go_skip | go_guarded | go_step | go_upon)
              (try simp only [Exit.inBlock, Exit.then]); refine bodyPost_ret (results_tmp (by rfl) _ _ _) (by rfl) ?_
              exact ⟨ret_int (by rw [E.out, D.out]; refine ((firstE_hit (by rw [Q2.out]; simp)).trans ?_).symm; rw [Q2.out]), then_ HX.out (then_ HW4.out (by assumption))⟩
            · have Ti : decide (qi < 0) = false := decide_eq_false ni
              have Q3 := hid (show redE r.maps (mkT into least most) l k x = if tk then 4 else 0 by rw [FE.out]; simp only [if_pos H3.out]; unfold unk noS wi; simp [HE.out, T1.out, si, ni])
              repeat' (first | (go_at_call 29; with_reducible refine (d1 _).mono ?_; rintro e w' ⟨rfl, rfl⟩; try dsimp only) | (go_at_call 29; with_reducible refine (d2 _).mono ?_; rintro e w' ⟨rfl, rfl⟩; try dsimp only) | (go_at_call 29; with_reducible refine (d3 _).mono ?_; rintro e w' ⟨rfl, rfl⟩; try dsimp only) | (go_at_call 182; with_reducible refine (dM _ (by assumption)).mono ?_; rintro e w' ⟨rfl, b⟩; have b' := then_ (w := w4) (by assumption) b; clear b; try dsimp only) | go_skip | go_guarded | go_step | go_upon)
              go_loopg [13] k (fun gg s13 wr => ∃ j : Nat, j ≤ k ∧ k - j ≤ gg ∧ s13 = .int .i64 j ∧ Below w4.heap.size w4 wr ∧ Aside (tk = ((l.take k).drop j).any (fun y : Red => decide (y.frm = x.frm))))
              case atStart => exact ⟨0, Nat.zero_le _, by omega, rfl, by assumption, TK.out⟩
              case round =>
                obtain ⟨j, hj, hgj, rfl, hwr2, T⟩ := hrel
                by_cases hjk : j < k
                · have hjki : (j : Int) < (k : Int) := by omega
                  have hjn : (j : Int) < (n : Int) := by omega
                  have hj0 : (0 : Int) ≤ (j : Int) := by omega
                  obtain ⟨y, hy⟩ := get_some (l := l) (k := j) (by have := N.out; omega)
                  have hcy := row_cells (f := eRed) (z := 5) (fun _ => rfl) hc hy
                  have GS : Below wr.heap.size wr wr := Below.refl _ _
                  have uF0 := fun u : Later wr.heap.size wr => FY0 u.w (then_ hwr2 u.h)
                  have uY0 : ∀ u : Later wr.heap.size wr, u.w.cell? ⟨b, off + j * zRedist, none⟩ = some (.int .i64 y.frm) := fun u => by rw [ZD.out]; exact ((then_ HW4.out (then_ hwr2 u.h)).cell (p := ⟨b, off + j * 5, none⟩) hb).trans (hcy 0 _ rfl)
                  clear hcy
                  by_cases hq : y.frm = x.frm
                  · have T2 := hid (T.out.trans (any_hit hy hjk (decide_eq_true hq)))
                    have Q2 := hid (show redE r.maps (mkT into least most) l k x = 4 by rw [Q3.out, T2.out]; rfl)
                    have e1 : (y.frm == x.frm) = true := by simpa using hq
                    repeat' (first | go_skip | go_guarded | go_step | go_upon)
                    refine wp_region_base wr (by assumption) (by first | assumption | kernel_rfl) (by kernel_rfl) ?_
                    repeat (go_big_quiet_step (first | fail))
                    refine wpQuiet_nil ?_
                    rintro _ ⟨u, rfl⟩
                    have bu := u.h
                    repeat' (first | go_skip | go_guarded | go_step | go_upon)
                    (try simp only [Exit.inBlock, Exit.then]); refine bodyPost_ret (results_tmp (by rfl) _ _ _) (by rfl) ?_
                    exact ⟨ret_int (by rw [E.out, D.out]; refine ((firstE_hit (by rw [Q2.out]; simp)).trans ?_).symm; rw [Q2.out]), then_ HX.out (then_ HW4.out (then_ hwr2 (by assumption)))⟩
                  · have T2 := hid (T.out.trans (any_next hy hjk (decide_eq_false hq)))
                    have e1 : (y.frm == x.frm) = false := by simpa using hq
                    repeat' (first | go_skip | go_guarded | go_step | go_upon)
                    refine wp_region_base wr (by assumption) (by first | assumption | kernel_rfl) (by kernel_rfl) ?_
                    repeat (go_big_quiet_step (first | fail))
                    refine wpQuiet_nil ?_
                    rintro _ ⟨u, rfl⟩
                    have bu := u.h
                    repeat' (first | go_skip | go_guarded | go_step | go_upon)
                    go_roundg (k - (j + 1))
                    case measure => omega
                    case rel => exact ⟨j + 1, by omega, by omega, by go_num, then_ hwr2 (by assumption), T2.out⟩
                · have hjki : ¬ (j : Int) < (k : Int) := by omega
                  have T2 := hid (T.out.trans (any_end (by omega)))
                  have Q2 := hid (show redE r.maps (mkT into least most) l k x = 0 by rw [Q3.out, T2.out]; rfl)
                  repeat' (first | go_skip | go_guarded | go_step | go_upon)
                  go_roundg (n - (k + 1))
                  case measure => omega
                  case rel => exact ⟨k + 1, by omega, by omega, by go_num, then_ HW4.out (by assumption), by show _ = _; rw [E.out, D.out]; exact firstE_next Q2.out⟩
        · have t1b : (x.typ != 1) = true := by simpa using t1
          have T1 := hid t1
          clear t1
          by_cases t2 : x.typ = 2
          · have t2b : (x.typ != 2) = false := by simpa using t2
            have T2 := hid t2
            clear t2
            cases si : x.mp.toList.isEmpty with
            | true =>
              have Q3 := hid (show redE r.maps (mkT into least most) l k x = if tk then 4 else 0 by rw [FE.out]; simp only [if_pos H3.out]; unfold unk noS wi; simp [HE.out, T2.out, si])
              repeat' (first | (go_at_call 29; with_reducible refine (d1 _).mono ?_; rintro e w' ⟨rfl, rfl⟩; try dsimp only) | (go_at_call 29; with_reducible refine (d2 _).mono ?_; rintro e w' ⟨rfl, rfl⟩; try dsimp only) | (go_at_call 29; with_reducible refine (d3 _).mono ?_; rintro e w' ⟨rfl, rfl⟩; try dsimp only) | (go_at_call 182; with_reducible refine (dM _ (by assumption)).mono ?_; rintro e w' ⟨rfl, b⟩; have b' := then_ (w := w4) (by assumption) b; clear b; try dsimp only) | go_skip | go_guarded | go_step | go_upon)
              go_loopg [13] k (fun gg s13 wr => ∃ j : Nat, j ≤ k ∧ k - j ≤ gg ∧ s13 = .int .i64 j ∧ Below w4.heap.size w4 wr ∧ Aside (tk = ((l.take k).drop j).any (fun y : Red => decide (y.frm = x.frm))))
              case atStart => exact ⟨0, Nat.zero_le _, by omega, rfl, by assumption, TK.out⟩
              case round =>
                obtain ⟨j, hj, hgj, rfl, hwr2, T⟩ := hrel
                by_cases hjk : j < k
                · have hjki : (j : Int) < (k : Int) := by omega
                  have hjn : (j : Int) < (n : Int) := by omega
                  have hj0 : (0 : Int) ≤ (j : Int) := by omega
                  obtain ⟨y, hy⟩ := get_some (l := l) (k := j) (by have := N.out; omega)
                  have hcy := row_cells (f := eRed) (z := 5) (fun _ => rfl) hc hy
                  have GS : Below wr.heap.size wr wr := Below.refl _ _
                  have uF0 := fun u : Later wr.heap.size wr => FY0 u.w (then_ hwr2 u.h)
                  have uY0 : ∀ u : Later wr.heap.size wr, u.w.cell? ⟨b, off + j * zRedist, none⟩ = some (.int .i64 y.frm) := fun u => by rw [ZD.out]; exact ((then_ HW4.out (then_ hwr2 u.h)).cell (p := ⟨b, off + j * 5, none⟩) hb).trans (hcy 0 _ rfl)
                  clear hcy
                  by_cases hq : y.frm = x.frm
                  · have T2 := hid (T.out.trans (any_hit hy hjk (decide_eq_true hq)))
                    have Q2 := hid (show redE r.maps (mkT into least most) l k x = 4 by rw [Q3.out, T2.out]; rfl)
                    have e1 : (y.frm == x.frm) = true := by simpa using hq
                    repeat' (first | go_skip | go_guarded | go_step | go_upon)
                    refine wp_region_base wr (by assumption) (by first | assumption | kernel_rfl) (by kernel_rfl) ?_
                    repeat (go_big_quiet_step (first | fail))
                    refine wpQuiet_nil ?_
                    rintro _ ⟨u, rfl⟩
                    have bu := u.h
                    repeat' (first | go_skip | go_guarded | go_step | go_upon)
                    (try simp only [Exit.inBlock, Exit.then]); refine bodyPost_ret (results_tmp (by rfl) _ _ _) (by rfl) ?_
                    exact ⟨ret_int (by rw [E.out, D.out]; refine ((firstE_hit (by rw [Q2.out]; simp)).trans ?_).symm; rw [Q2.out]), then_ HX.out (then_ HW4.out (then_ hwr2 (by assumption)))⟩
                  · have T2 := hid (T.out.trans (any_next hy hjk (decide_eq_false hq)))
                    have e1 : (y.frm == x.frm) = false := by simpa using hq
                    repeat' (first | go_skip | go_guarded | go_step | go_upon)
                    refine wp_region_base wr (by assumption) (by first | assumption | kernel_rfl) (by kernel_rfl) ?_
                    repeat (go_big_quiet_step (first | fail))
                    refine wpQuiet_nil ?_
                    rintro _ ⟨u, rfl⟩
                    have bu := u.h
                    repeat' (first | go_skip | go_guarded | go_step | go_upon)
                    go_roundg (k - (j + 1))
                    case measure => omega
                    case rel => exact ⟨j + 1, by omega, by omega, by go_num, then_ hwr2 (by assumption), T2.out⟩
                · have hjki : ¬ (j : Int) < (k : Int) := by omega
                  have T2 := hid (T.out.trans (any_end (by omega)))
                  have Q2 := hid (show redE r.maps (mkT into least most) l k x = 0 by rw [Q3.out, T2.out]; rfl)
                  repeat' (first | go_skip | go_guarded | go_step | go_upon)
                  go_roundg (n - (k + 1))
                  case measure => omega
                  case rel => exact ⟨k + 1, by omega, by omega, by go_num, then_ HW4.out (by assumption), by show _ = _; rw [E.out, D.out]; exact firstE_next Q2.out⟩
            | false =>
              by_cases ni : qi < 0
              · have Ti : decide (qi < 0) = true := decide_eq_true ni
                have Q2 := hid (show redE r.maps (mkT into least most) l k x = 5 by rw [FE.out]; simp only [if_pos H3.out]; unfold unk noS wi; simp [HE.out, T2.out, si, ni])
                repeat' (first | (go_at_call 29; with_reducible refine (d1 _).mono ?_; rintro e w' ⟨rfl, rfl⟩; try dsimp only) | (go_at_call 29; with_reducible refine (d2 _).mono ?_; rintro e w' ⟨rfl, rfl⟩; try dsimp only) | (go_at_call 29; with_reducible refine (d3 _).mono ?_; rintro e w' ⟨rfl, rfl⟩; try dsimp only) | (go_at_call 182; with_reducible refine (dM _ (by assumption)).mono ?_; rintro e w' ⟨rfl, b⟩; have b' := then_ (w := w4) (by assumption) b; clear b; try dsimp only) | go_skip | go_guarded | go_step | go_upon)
                (try simp only [Exit.inBlock, Exit.then]); refine bodyPost_ret (results_tmp (by rfl) _ _ _) (by rfl) ?_
                exact ⟨ret_int (by rw [E.out, D.out]; refine ((firstE_hit (by rw [Q2.out]; simp)).trans ?_).symm; rw [Q2.out]), then_ HX.out (then_ HW4.out (by assumption))⟩
              · have Ti : decide (qi < 0) = false := decide_eq_false ni
                have Q3 := hid (show redE r.maps (mkT into least most) l k x = if tk then 4 else 0 by rw [FE.out]; simp only [if_pos H3.out]; unfold unk noS wi; simp [HE.out, T2.out, si, ni])
                repeat' (first | (go_at_call 29; with_reducible refine (d1 _).mono ?_; rintro e w' ⟨rfl, rfl⟩; try dsimp only) | (go_at_call 29; with_reducible refine (d2 _).mono ?_; rintro e w' ⟨rfl, rfl⟩; try dsimp only) | (go_at_call 29; with_reducible refine (d3 _).mono ?_; rintro e w' ⟨rfl, rfl⟩; try dsimp only) | (go_at_call 182; with_reducible refine (dM _ (by assumption)).mono ?_; rintro e w' ⟨rfl, b⟩; have b' := then_ (w := w4) (by assumption) b; clear b; try dsimp only) | go_skip | go_guarded | go_step | go_upon)
                go_loopg [13] k (fun gg s13 wr => ∃ j : Nat, j ≤ k ∧ k - j ≤ gg ∧ s13 = .int .i64 j ∧ Below w4.heap.size w4 wr ∧ Aside (tk = ((l.take k).drop j).any (fun y : Red => decide (y.frm = x.frm))))
                case atStart => exact ⟨0, Nat.zero_le _, by omega, rfl, by assumption, TK.out⟩
                case round =>
                  obtain ⟨j, hj, hgj, rfl, hwr2, T⟩ := hrel
                  by_cases hjk : j < k
                  · have hjki : (j : Int) < (k : Int) := by omega
                    have hjn : (j : Int) < (n : Int) := by omega
                    have hj0 : (0 : Int) ≤ (j : Int) := by omega
                    obtain ⟨y, hy⟩ := get_some (l := l) (k := j) (by have := N.out; omega)
                    have hcy := row_cells (f := eRed) (z := 5) (fun _ => rfl) hc hy
                    have GS : Below wr.heap.size wr wr := Below.refl _ _
                    have uF0 := fun u : Later wr.heap.size wr => FY0 u.w (then_ hwr2 u.h)
                    have uY0 : ∀ u : Later wr.heap.size wr, u.w.cell? ⟨b, off + j * zRedist, none⟩ = some (.int .i64 y.frm) := fun u => by rw [ZD.out]; exact ((then_ HW4.out (then_ hwr2 u.h)).cell (p := ⟨b, off + j * 5, none⟩) hb).trans (hcy 0 _ rfl)
                    clear hcy
                    by_cases hq : y.frm = x.frm
                    · have T2 := hid (T.out.trans (any_hit hy hjk (decide_eq_true hq)))
                      have Q2 := hid (show redE r.maps (mkT into least most) l k x = 4 by rw [Q3.out, T2.out]; rfl)
                      have e1 : (y.frm == x.frm) = true := by simpa using hq
                      repeat' (first | go_skip | go_guarded | go_step | go_upon)
                      refine wp_region_base wr (by assumption) (by first | assumption | kernel_rfl) (by kernel_rfl) ?_
                      repeat (go_big_quiet_step (first | fail))
                      refine wpQuiet_nil ?_
                      rintro _ ⟨u, rfl⟩
                      have bu := u.h
                      repeat' (first | go_skip | go_guarded | go_step | go_upon)
                      (try simp only [Exit.inBlock, Exit.then]); refine bodyPost_ret (results_tmp (by rfl) _ _ _) (by rfl) ?_
                      exact ⟨ret_int (by rw [E.out, D.out]; refine ((firstE_hit (by rw [Q2.out]; simp)).trans ?_).symm; rw [Q2.out]), then_ HX.out (then_ HW4.out (then_ hwr2 (by assumption)))⟩
                    · have T2 := hid (T.out.trans (any_next hy hjk (decide_eq_false hq)))
                      have e1 : (y.frm == x.frm) = false := by simpa using hq
                      repeat' (first | go_skip | go_guarded | go_step | go_upon)
                      refine wp_region_base wr (by assumption) (by first | assumption | kernel_rfl) (by kernel_rfl) ?_
                      repeat (go_big_quiet_step (first | fail))
                      refine wpQuiet_nil ?_
                      rintro _ ⟨u, rfl⟩
                      have bu := u.h
                      repeat' (first | go_skip | go_guarded | go_step | go_upon)
                      go_roundg (k - (j + 1))
                      case measure => omega
                      case rel => exact ⟨j + 1, by omega, by omega, by go_num, then_ hwr2 (by assumption), T2.out⟩
                  · have hjki : ¬ (j : Int) < (k : Int) := by omega
                    have T2 := hid (T.out.trans (any_end (by omega)))
                    have Q2 := hid (show redE r.maps (mkT into least most) l k x = 0 by rw [Q3.out, T2.out]; rfl)
                    repeat' (first | go_skip | go_guarded | go_step | go_upon)
                    go_roundg (n - (k + 1))
                    case measure => omega
                    case rel => exact ⟨k + 1, by omega, by omega, by go_num, then_ HW4.out (by assumption), by show _ = _; rw [E.out, D.out]; exact firstE_next Q2.out⟩
          · have t2b : (x.typ != 2) = true := by simpa using t2
            have T2 := hid t2
            clear t2
            have Q2 := hid (show redE r.maps (mkT into least most) l k x = 1 by rw [FE.out]; simp only [if_pos H3.out]; have p1 := T1.out; have p2 := T2.out; unfold wi; simp [HE.out]; omega)
            repeat' (first | (go_at_call 29; with_reducible refine (d1 _).mono ?_; rintro e w' ⟨rfl, rfl⟩; try dsimp only) | (go_at_call 29; with_reducible refine (d2 _).mono ?_; rintro e w' ⟨rfl, rfl⟩; try dsimp only) | (go_at_call 29; with_reducible refine (d3 _).mono ?_; rintro e w' ⟨rfl, rfl⟩; try dsimp only) | (go_at_call 182; with_reducible refine (dM _ (by assumption)).mono ?_; rintro e w' ⟨rfl, b⟩; have b' := then_ (w := w4) (by assumption) b; clear b; try dsimp only) | go_skip | go_guarded | go_step | go_upon)
            (try simp only [Exit.inBlock, Exit.then]); refine bodyPost_ret (results_tmp (by rfl) _ _ _) (by rfl) ?_
            exact ⟨ret_int (by rw [E.out, D.out]; refine ((firstE_hit (by rw [Q2.out]; simp)).trans ?_).symm; rw [Q2.out]), then_ HX.out (then_ HW4.out (by assumption))⟩
      · have h3b : (into == 3) = false := by simpa using h3
        have h3c : (into != 3) = true := by simpa using h3
        have H3 := hid h3
        clear h3
        by_cases t0 : x.typ = 0
        · have t0b : (x.typ != 0) = false := by simpa using t0
          have T0 := hid t0
          clear t0
          cases si : x.mp.toList.isEmpty with
          | true =>
            have Q3 := hid (show redE r.maps (mkT into least most) l k x = if tk then 4 else 0 by rw [FE.out]; simp only [if_neg H3.out]; unfold unk noS wi; simp [HE.out, T0.out, si])
            repeat' (first | (go_at_call 29; with_reducible refine (d1 _).mono ?_; rintro e w' ⟨rfl, rfl⟩; try dsimp only) | (go_at_call 29; with_reducible refine (d2 _).mono ?_; rintro e w' ⟨rfl, rfl⟩; try dsimp only) | (go_at_call 29; with_reducible refine (d3 _).mono ?_; rintro e w' ⟨rfl, rfl⟩; try dsimp only) | (go_at_call 182; with_reducible refine (dM _ (by assumption)).mono ?_; rintro e w' ⟨rfl, b⟩; have b' := then_ (w := w4) (by assumption) b; clear b; try dsimp only) | go_skip | go_guarded | go_step | go_upon)
            go_loopg [13] k (fun gg s13 wr => ∃ j : Nat, j ≤ k ∧ k - j ≤ gg ∧ s13 = .int .i64 j ∧ Below w4.heap.size w4 wr ∧ Aside (tk = ((l.take k).drop j).any (fun y : Red => decide (y.frm = x.frm))))
            case atStart => exact ⟨0, Nat.zero_le _, by omega, rfl, by assumption, TK.out⟩
            case round =>
              obtain ⟨j, hj, hgj, rfl, hwr2, T⟩ := hrel
              by_cases hjk : j < k
              · have hjki : (j : Int) < (k : Int) := by omega
                have hjn : (j : Int) < (n : Int) := by omega
                have hj0 : (0 : Int) ≤ (j : Int) := by omega
                obtain ⟨y, hy⟩ := get_some (l := l) (k := j) (by have := N.out; omega)
                have hcy := row_cells (f := eRed) (z := 5) (fun _ => rfl) hc hy
                have GS : Below wr.heap.size wr wr := Below.refl _ _
                have uF0 := fun u : Later wr.heap.size wr => FY0 u.w (then_ hwr2 u.h)
                have uY0 : ∀ u : Later wr.heap.size wr, u.w.cell? ⟨b, off + j * zRedist, none⟩ = some (.int .i64 y.frm) := fun u => by rw [ZD.out]; exact ((then_ HW4.out (then_ hwr2 u.h)).cell (p := ⟨b, off + j * 5, none⟩) hb).trans (hcy 0 _ rfl)
                clear hcy
                by_cases hq : y.frm = x.frm
                · have T2 := hid (T.out.trans (any_hit hy hjk (decide_eq_true hq)))
                  have Q2 := hid (show redE r.maps (mkT into least most) l k x = 4 by rw [Q3.out, T2.out]; rfl)
                  have e1 : (y.frm == x.frm) = true := by simpa using hq
                  repeat' (first | go_skip | go_guarded | go_step | go_upon)
                  refine wp_region_base wr (by assumption) (by first | assumption | kernel_rfl) (by kernel_rfl) ?_
                  repeat (go_big_quiet_step (first | fail))
                  refine wpQuiet_nil ?_
                  rintro _ ⟨u, rfl⟩
                  have bu := u.h
                  repeat' (first | go_skip | go_guarded | go_step | go_upon)
                  (try simp only [Exit.inBlock, Exit.then]); refine bodyPost_ret (results_tmp (by rfl) _ _ _) (by rfl) ?_
                  exact ⟨ret_int (by rw [E.out, D.out]; refine ((firstE_hit (by rw [Q2.out]; simp)).trans ?_).symm; rw [Q2.out]), then_ HX.out (then_ HW4.out (then_ hwr2 (by assumption)))⟩
                · have T2 := hid (T.out.trans (any_next hy hjk (decide_eq_false hq)))
                  have e1 : (y.frm == x.frm) = false := by simpa using hq
                  repeat' (first | go_skip | go_guarded | go_step | go_upon)
                  refine wp_region_base wr (by assumption) (by first | assumption | kernel_rfl) (by kernel_rfl) ?_
                  repeat (go_big_quiet_step (first | fail))
                  refine wpQuiet_nil ?_
                  rintro _ ⟨u, rfl⟩
                  have bu := u.h
                  repeat' (first | go_skip | go_guarded | go_step | go_upon)
                  go_roundg (k - (j + 1))
                  case measure => omega
                  case rel => exact ⟨j + 1, by omega, by omega, by go_num, then_ hwr2 (by assumption), T2.out⟩
              · have hjki : ¬ (j : Int) < (k : Int) := by omega
                have T2 := hid (T.out.trans (any_end (by omega)))
                have Q2 := hid (show redE r.maps (mkT into least most) l k x = 0 by rw [Q3.out, T2.out]; rfl)
                repeat' (first | go_skip | go_guarded | go_step | go_upon)
                go_roundg (n - (k + 1))
                case measure => omega
                case rel => exact ⟨k + 1, by omega, by omega, by go_num, then_ HW4.out (by assumption), by show _ = _; rw [E.out, D.out]; exact firstE_next Q2.out⟩
          | false =>
            by_cases ni : qi < 0
            · have Ti : decide (qi < 0) = true := decide_eq_true ni
              have Q2 := hid (show redE r.maps (mkT into least most) l k x = 5 by rw [FE.out]; simp only [if_neg H3.out]; unfold unk noS wi; simp [HE.out, T0.out, si, ni])
              repeat' (first | (go_at_call 29; with_reducible refine (d1 _).mono ?_; rintro e w' ⟨rfl, rfl⟩; try dsimp only) | (go_at_call 29; with_reducible refine (d2 _).mono ?_; rintro e w' ⟨rfl, rfl⟩; try dsimp only) | (go_at_call 29; with_reducible refine (d3 _).mono ?_; rintro e w' ⟨rfl, rfl⟩; try dsimp only) | (go_at_call 182; with_reducible refine (dM _ (by assumption)).mono ?_; rintro e w' ⟨rfl, b⟩; have b' := then_ (w := w4) (by assumption) b; clear b; try dsimp only) | go_skip | go_guarded | go_step | go_upon)
              (try simp only [Exit.inBlock, Exit.then]); refine bodyPost_ret (results_tmp (by rfl) _ _ _) (by rfl) ?_
              exact ⟨ret_int (by rw [E.out, D.out]; refine ((firstE_hit (by rw [Q2.out]; simp)).trans ?_).symm; rw [Q2.out]), then_ HX.out (then_ HW4.out (by assumption))⟩
            · have Ti : decide (qi < 0) = false := decide_eq_false ni
              have Q3 := hid (show redE r.maps (mkT into least most) l k x = if tk then 4 else 0 by rw [FE.out]; simp only [if_neg H3.out]; unfold unk noS wi; simp [HE.out, T0.out, si, ni])
              repeat' (first | (go_at_call 29; with_reducible refine (d1 _).mono ?_; rintro e w' ⟨rfl, rfl⟩; try dsimp only) | (go_at_call 29; with_reducible refine (d2 _).mono ?_; rintro e w' ⟨rfl, rfl⟩; try dsimp only) | (go_at_call 29; with_reducible refine (d3 _).mono ?_; rintro e w' ⟨rfl, rfl⟩; try dsimp only) | (go_at_call 182; with_reducible refine (dM _ (by assumption)).mono ?_; rintro e w' ⟨rfl, b⟩; have b' := then_ (w := w4) (by assumption) b; clear b; try dsimp only) | go_skip | go_guarded | go_step | go_upon)
              go_loopg [13] k (fun gg s13 wr => ∃ j : Nat, j ≤ k ∧ k - j ≤ gg ∧ s13 = .int .i64 j ∧ Below w4.heap.size w4 wr ∧ Aside (tk = ((l.take k).drop j).any (fun y : Red => decide (y.frm = x.frm))))
              case atStart => exact ⟨0, Nat.zero_le _, by omega, rfl, by assumption, TK.out⟩
              case round =>
                obtain ⟨j, hj, hgj, rfl, hwr2, T⟩ := hrel
                by_cases hjk : j < k
                · have hjki : (j : Int) < (k : Int) := by omega
                  have hjn : (j : Int) < (n : Int) := by omega
                  have hj0 : (0 : Int) ≤ (j : Int) := by omega
                  obtain ⟨y, hy⟩ := get_some (l := l) (k := j) (by have := N.out; omega)
                  have hcy := row_cells (f := eRed) (z := 5) (fun _ => rfl) hc hy
                  have GS : Below wr.heap.size wr wr := Below.refl _ _
                  have uF0 := fun u : Later wr.heap.size wr => FY0 u.w (then_ hwr2 u.h)
                  have uY0 : ∀ u : Later wr.heap.size wr, u.w.cell? ⟨b, off + j * zRedist, none⟩ = some (.int .i64 y.frm) := fun u => by rw [ZD.out]; exact ((then_ HW4.out (then_ hwr2 u.h)).cell (p := ⟨b, off + j * 5, none⟩) hb).trans (hcy 0 _ rfl)
                  clear hcy
                  by_cases hq : y.frm = x.frm
                  · have T2 := hid (T.out.trans (any_hit hy hjk (decide_eq_true hq)))
                    have Q2 := hid (show redE r.maps (mkT into least most) l k x = 4 by rw [Q3.out, T2.out]; rfl)
                    have e1 : (y.frm == x.frm) = true := by simpa using hq
                    repeat' (first | go_skip | go_guarded | go_step | go_upon)
                    refine wp_region_base wr (by assumption) (by first | assumption | kernel_rfl) (by kernel_rfl) ?_
                    repeat (go_big_quiet_step (first | fail))
                    refine wpQuiet_nil ?_
                    rintro _ ⟨u, rfl⟩
                    have bu := u.h
                    repeat' (first | go_skip | go_guarded | go_step | go_upon)
                    (try simp only [Exit.inBlock, Exit.then]); refine bodyPost_ret (results_tmp (by rfl) _ _ _) (by rfl) ?_
                    exact ⟨ret_int (by rw [E.out, D.out]; refine ((firstE_hit (by rw [Q2.out]; simp)).trans ?_).symm; rw [Q2.out]), then_ HX.out (then_ HW4.out (then_ hwr2 (by assumption)))⟩
                  · have T2 := hid (T.out.trans (any_next hy hjk (decide_eq_false hq)))
                    have e1 : (y.frm == x.frm) = false := by simpa using hq
                    repeat' (first | go_skip | go_guarded | go_step | go_upon)
                    refine wp_region_base wr (by assumption) (by first | assumption | kernel_rfl) (by kernel_rfl) ?_
                    repeat (go_big_quiet_step (first | fail))
                    refine wpQuiet_nil ?_
                    rintro _ ⟨u, rfl⟩
                    have bu := u.h
                    repeat' (first | go_skip | go_guarded | go_step | go_upon)
                    go_roundg (k - (j + 1))
                    case measure => omega
                    case rel => exact ⟨j + 1, by omega, by omega, by go_num, then_ hwr2 (by assumption), T2.out⟩
                · have hjki : ¬ (j : Int) < (k : Int) := by omega
                  have T2 := hid (T.out.trans (any_end (by omega)))
                  have Q2 := hid (show redE r.maps (mkT into least most) l k x = 0 by rw [Q3.out, T2.out]; rfl)
                  repeat' (first | go_skip | go_guarded | go_step | go_upon)
                  go_roundg (n - (k + 1))
                  case measure => omega
                  case rel => exact ⟨k + 1, by omega, by omega, by go_num, then_ HW4.out (by assumption), by show _ = _; rw [E.out, D.out]; exact firstE_next Q2.out⟩
        · have t0b : (x.typ != 0) = true := by simpa using t0
          have T0 := hid t0
          clear t0
          have Q2 := hid (show redE r.maps (mkT into least most) l k x = 1 by rw [FE.out]; simp only [if_neg H3.out]; have p1 := T0.out; unfold wi; simp [HE.out]; omega)
          repeat' (first | (go_at_call 29; with_reducible refine (d1 _).mono ?_; rintro e w' ⟨rfl, rfl⟩; try dsimp only) | (go_at_call 29; with_reducible refine (d2 _).mono ?_; rintro e w' ⟨rfl, rfl⟩; try dsimp only) | (go_at_call 29; with_reducible refine (d3 _).mono ?_; rintro e w' ⟨rfl, rfl⟩; try dsimp only) | (go_at_call 182; with_reducible refine (dM _ (by assumption)).mono ?_; rintro e w' ⟨rfl, b⟩; have b' := then_ (w := w4) (by assumption) b; clear b; try dsimp only) | go_skip | go_guarded | go_step | go_upon)
          (try simp only [Exit.inBlock, Exit.then]); refine bodyPost_ret (results_tmp (by rfl) _ _ _) (by rfl) ?_
          exact ⟨ret_int (by rw [E.out, D.out]; refine ((firstE_hit (by rw [Q2.out]; simp)).trans ?_).symm; rw [Q2.out]), then_ HX.out (then_ HW4.out (by assumption))⟩
    · have hlti : ¬ (k : Int) < (n : Int) := by omega
      repeat' (first | go_skip | go_guarded | go_step | go_upon)
      go_ret
      exact ⟨ret_int (by rw [E.out, drop_end (by have := N.out; omega)]; rfl), then_ HX.out (by assumption)⟩
end Go.Proofs.YtlhbfpapmolohaaGreat.Mw

/-
  THE CONTRACT OF netverifyref8.distance.
-/
namespace Go.Proofs.YtlhbfpapmolohaaGreat.Mw
set_option linter.unusedSimpArgs false
set_option linter.unusedVariables false
open Go.RowKit Kt Mm Mp

def zeroDV : Array Value := #[.bool false, .int .i64 0, .string ⟨#[]⟩, .string ⟨#[]⟩, .slice none 0 0]
theorem dvT_eq : mkT 4 1 15 = dvT := rfl

set_option maxHeartbeats 16000000 in
set_option maxRecDepth 4000 in
theorem rDist (r : Rtr) (w : World) (hr : RtrIn w r) :
    Calls Tryz.prog 38 #[.agg (eRtr r).toArray] w fun e w' => e = .returned (.int .i64 (dvE r)) ∧ Below w.heap.size w w' := by
  have hWi := fun (p q t : Int) wx => rWithin p q t wx
  obtain ⟨X, hX⟩ : ∃ X, X = (eRtr r).toArray := ⟨_, rfl⟩
  obtain ⟨w1, hw1⟩ : ∃ w1, w.alloc (.cells X 41) = w1 := ⟨_, rfl⟩
  have hhX : w1.heap[w.heap.size]? = some (.cells X 41 (0, 0)) := by rw [← hw1, heap_new]
  have KX : ∀ v : World, Below w1.heap.size w1 v → v.heap[w.heap.size]? = some (.cells X 41 (0, 0)) := fun v h => blk_keep hhX h
  have GX : Below w1.heap.size w1 w1 := Below.refl _ _
  have HX := hid (show Below w.heap.size w w1 by rw [← hw1]; exact new_below _ _)
  have hX' := hid hX
  try rw [← hX]
  clear hX hhX
  have hLi := fun wx (s : ByteArray) (h : Below w1.heap.size w1 wx) => rkPList X r.vLists r.lists s wx (by rw [hX'.out]; rfl) (hr.keep (then_ HX.out h)).lists.row hr.lists.len
  have hRe := fun wx (h : Below w1.heap.size w1 wx) => rReds r r.vDvr r.dvr 4 1 15 wx (hr.keep (then_ HX.out h)) (hr.keep (then_ HX.out h)).dvr
  rw [← hX'.out, dvT_eq] at hRe
  have hXs : X.size = 25 := by rw [hX'.out]; rfl
  obtain ⟨a, cap, hv, hcap, hcell⟩ := rows_open (z := 5) (by decide) hr.dvr.row
  obtain ⟨n, hn⟩ : ∃ n, n = r.dvr.length := ⟨_, rfl⟩
  have hl := hr.dvr.len
  rw [← hn] at hl hcap hv
  obtain ⟨Y, hY⟩ : ∃ Y, Y = (eDV r).toArray := ⟨_, rfl⟩
  have hYs : Y.size = 5 := by rw [hY]; rfl
  have hY1 := hid (show Y.all (·.oneCell') = true by rw [hY]; simp [eDV, one_str, one_int, one_bool, row_one hr.dvr.row])
  obtain ⟨on, hon⟩ : ∃ q, q = r.dvOn := ⟨_, rfl⟩
  have y0 : Y[0]? = some (.bool on) := by rw [hY, hon]; rfl
  have y1 : Y[1]? = some (.int .i64 r.dvAdmin) := by rw [hY]; rfl
  have y2 : Y[2]? = some (.string r.dvIn) := by rw [hY]; rfl
  have y3 : Y[3]? = some (.string r.dvOut) := by rw [hY]; rfl
  have y4 : Y[4]? = some (.slice a n cap) := by rw [hY, ← hv]; rfl
  rw [hv] at hRe
  have d1 := fun wx => hWi r.dvAdmin 1 255 wx
  have dI := fun wx (h : Below w1.heap.size w1 wx) => hLi wx r.dvIn h
  have dO := fun wx (h : Below w1.heap.size w1 wx) => hLi wx r.dvOut h
  obtain ⟨a1, ha1⟩ : ∃ q, q = wi r.dvAdmin 1 255 := ⟨_, rfl⟩
  obtain ⟨qi, hqi⟩ : ∃ q, q = liIx r.lists r.dvIn := ⟨_, rfl⟩
  obtain ⟨qo, hqo⟩ : ∃ q, q = liIx r.lists r.dvOut := ⟨_, rfl⟩
  obtain ⟨er, her⟩ : ∃ q, q = redsE r.maps dvT r.dvr := ⟨_, rfl⟩
  have hqi2 : ixB (fun y : PList => y.name.toList == r.dvIn.toList) r.lists = qi := hqi.symm
  have hqo2 : ixB (fun y : PList => y.name.toList == r.dvOut.toList) r.lists = qo := hqo.symm
  rw [← ha1] at d1
  rw [hqi2] at dI
  rw [hqo2] at dO
  rw [← her] at hRe
  have FE := hid (show dvE r = if !on then (if !decide (r.dvAdmin = 0) || !noS r.dvIn || !noS r.dvOut || decide (0 < n) then 1 else 0) else if !a1 then 1 else if unk r.dvIn qi || unk r.dvOut qo then 5 else er by rw [hon, hn, ha1, hqi, hqo, her]; rfl)
  clear hr hn hv hcell hon ha1 hqi hqo hqi2 hqo2 her hLi hWi
  obtain ⟨P, hP⟩ : ∃ P, P = Tryz.prog := ⟨_, rfl⟩
  have HP := hid hP
  have mixed : P.follows .mixedOrders = true := by rw [hP]; kernel_rfl
  have FG : P.funcs[38]? = some Tryz.f38 := by rw [hP]; exact Tryz.func38
  obtain ⟨zRouter, hzRouter⟩ : ∃ z, z = 25 := ⟨_, rfl⟩
  have nzRouter : ¬ zRouter = 0 := by omega
  obtain ⟨zDistanceVector, hzDistanceVector⟩ : ∃ z, z = 5 := ⟨_, rfl⟩
  have nzDistanceVector : ¬ zDistanceVector = 0 := by omega
  have ty3 := Tryz.underlying3; have ag3 := Tryz.isAgg3; have sz3 := Tryz.sizeOf3; have ru3 := Tryz.runUnderlying3
  have ty4 := Tryz.underlying4; have ag4 := Tryz.isAgg4; have sz4 := Tryz.sizeOf4; have ru4 := Tryz.runUnderlying4
  have ty9 := Tryz.underlying9; have ag9 := Tryz.isAgg9; have sz9 := Tryz.sizeOf9; have ru9 := Tryz.runUnderlying9
  have ty29 := Tryz.underlying29; have ag29 := Tryz.isAgg29; have sz29 := Tryz.sizeOf29; have ru29 := Tryz.runUnderlying29
  have ty33 := Tryz.underlying33; have ag33 := Tryz.isAgg33; have sz33 := Tryz.sizeOf33; have ru33 := Tryz.runUnderlying33
  rw [← hzDistanceVector] at sz33
  have zeDistanceVector := Tryz.zeroValue33
  have ty41 := Tryz.underlying41; have ag41 := Tryz.isAgg41; have sz41 := Tryz.sizeOf41; have ru41 := Tryz.runUnderlying41
  rw [← hzRouter] at sz41
  have en0 : ∀ args w, (callFunc 108 args).run Tryz.prog w = .ok (.enter 108 args) w := enters_of Tryz.func108 (by kernel_rfl) rfl
  have en1 : ∀ args w, (callFunc 112 args).run Tryz.prog w = .ok (.enter 112 args) w := enters_of Tryz.func112 (by kernel_rfl) rfl
  have en2 : ∀ args w, (callFunc 29 args).run Tryz.prog w = .ok (.enter 29 args) w := enters_of Tryz.func29 (by kernel_rfl) rfl
  rw [← hP] at ty3 ag3 sz3 ru3 ty4 ag4 sz4 ru4 ty9 ag9 sz9 ru9 ty29 ag29 sz29 ru29 ty33 ag33 sz33 ru33 zeDistanceVector ty41 ag41 sz41 ru41 en0 en1 en2 d1 dI dO hRe ⊢
  clear hP
  have LX : ∀ v : World, Below w1.heap.size w1 v → Sem.run P (loadCellsFrom ⟨w.heap.size, 0, none⟩ 0 zRouter #[]) v = .ok X v := fun v h => ld_box P (KX v h) (by rw [hzRouter]; exact hXs)
  have ZR := hid hzRouter
  have ZV := hid hzDistanceVector
  clear hzRouter hzDistanceVector
  have LV : Sem.run P (loadCellsFrom ⟨w.heap.size, 12, none⟩ 0 zDistanceVector #[]) w1 = .ok Y w1 := by
    rw [ZV.out, hY]; exact ld_part P (KX w1 GX) rfl (fun j u hj => by rw [hX'.out]; exact part_of (e := eDV) (x := r) (n := 5) rfl j u hj)
  clear KX hY
  go_enter FG, Tryz.ntmps38
  repeat' ((fail_if_success (with_reducible show Hid _)); (first | ((with_reducible show Oper.wp _ ⟨_, .store 33 _ _, _, _, _, _⟩ _ _ _ _); refine stopF ?_) | go_skip | go_guarded | go_step | go_upon))
  refine hid ?_
  refine wp_store_box (w := w1.alloc (.cells zeroDV 33)) 33 _ _ (by rfl) (g := w1.heap.size) (cur := zeroDV) (X := Y) (by rfl) (by rfl) (by intro v; rw [hYs, ← ZV.out]; first | exact sz33 v | assumption) (heap_new _ _) (by rw [hYs]; rfl) hY1.out ?_
  intro w4 h1 h2 h3
  have HW4 := hid (show Below w1.heap.size w1 w4 from (al1 w1 _).trans (h3 _ (Nat.le_refl _)))
  have B4 : Below w1.heap.size w1 w4 := HW4.out
  have FY0 : ∀ v : World, Below w4.heap.size w4 v → v.cell? ⟨w1.heap.size, 0, none⟩ = some (.bool on) := fun v h => box_at (blk_keep h1 h) y0
  have FY1 : ∀ v : World, Below w4.heap.size w4 v → v.cell? ⟨w1.heap.size, 1, none⟩ = some (.int .i64 r.dvAdmin) := fun v h => box_at (blk_keep h1 h) y1
  have FY2 : ∀ v : World, Below w4.heap.size w4 v → v.cell? ⟨w1.heap.size, 2, none⟩ = some (.string r.dvIn) := fun v h => box_at (blk_keep h1 h) y2
  have FY3 : ∀ v : World, Below w4.heap.size w4 v → v.cell? ⟨w1.heap.size, 3, none⟩ = some (.string r.dvOut) := fun v h => box_at (blk_keep h1 h) y3
  have FY4 : ∀ v : World, Below w4.heap.size w4 v → v.cell? ⟨w1.heap.size, 4, none⟩ = some (.slice a n cap) := fun v h => box_at (blk_keep h1 h) y4
  have LX4 := fun (v : World) (h : Below w4.heap.size w4 v) => LX v (then_ HW4.out h)
  have G4 : Below w4.heap.size w4 w4 := Below.refl _ _
  have eI := fun wx (h : Below w4.heap.size w4 wx) => dI wx (then_ HW4.out h)
  have eO := fun wx (h : Below w4.heap.size w4 wx) => dO wx (then_ HW4.out h)
  have eR := fun wx (h : Below w4.heap.size w4 wx) => hRe wx (then_ HW4.out h)
  clear h1 h2 h3 LV LX hYs y0 y1 y2 y3 y4 dI dO hRe B4
  cases on
  case false =>
    by_cases h0 : r.dvAdmin = 0
    · have h0b : (r.dvAdmin != 0) = false := by simpa using h0
      have H0 := hid h0
      clear h0
      cases si : r.dvIn.toList.isEmpty with
      | false =>
        repeat' (first | (go_at_call 29; with_reducible refine (d1 _).mono ?_; rintro e w' ⟨rfl, rfl⟩; try dsimp only) | (go_at_call 108; with_reducible refine (eI _ (by assumption)).mono ?_; rintro e w' ⟨rfl, b⟩; have b' := then_ (w := w4) (by assumption) b; clear b; try dsimp only) | (go_at_call 108; with_reducible refine (eO _ (by assumption)).mono ?_; rintro e w' ⟨rfl, b⟩; have b' := then_ (w := w4) (by assumption) b; clear b; try dsimp only) | (go_at_call 112; with_reducible refine (eR _ (by assumption)).mono ?_; rintro e w' ⟨rfl, b⟩; have b' := then_ (w := w4) (by assumption) b; clear b; try dsimp only) | go_skip | go_guarded | go_step | go_upon)
        (try simp only [Exit.inBlock, Exit.then]); refine bodyPost_ret (results_tmp (by rfl) _ _ _) (by rfl) ?_
        exact ⟨ret_int (by rw [FE.out]; unfold noS; simp [H0.out, si]), then_ HX.out (then_ HW4.out (by assumption))⟩
      | true =>
        cases so : r.dvOut.toList.isEmpty with
        | false =>
          repeat' (first | (go_at_call 29; with_reducible refine (d1 _).mono ?_; rintro e w' ⟨rfl, rfl⟩; try dsimp only) | (go_at_call 108; with_reducible refine (eI _ (by assumption)).mono ?_; rintro e w' ⟨rfl, b⟩; have b' := then_ (w := w4) (by assumption) b; clear b; try dsimp only) | (go_at_call 108; with_reducible refine (eO _ (by assumption)).mono ?_; rintro e w' ⟨rfl, b⟩; have b' := then_ (w := w4) (by assumption) b; clear b; try dsimp only) | (go_at_call 112; with_reducible refine (eR _ (by assumption)).mono ?_; rintro e w' ⟨rfl, b⟩; have b' := then_ (w := w4) (by assumption) b; clear b; try dsimp only) | go_skip | go_guarded | go_step | go_upon)
          (try simp only [Exit.inBlock, Exit.then]); refine bodyPost_ret (results_tmp (by rfl) _ _ _) (by rfl) ?_
          exact ⟨ret_int (by rw [FE.out]; unfold noS; simp [H0.out, si, so]), then_ HX.out (then_ HW4.out (by assumption))⟩
        | true =>
          by_cases hn0 : 0 < n
          · have hn1 : (0 : Int) < (n : Int) := by omega
            repeat' (first | (go_at_call 29; with_reducible refine (d1 _).mono ?_; rintro e w' ⟨rfl, rfl⟩; try dsimp only) | (go_at_call 108; with_reducible refine (eI _ (by assumption)).mono ?_; rintro e w' ⟨rfl, b⟩; have b' := then_ (w := w4) (by assumption) b; clear b; try dsimp only) | (go_at_call 108; with_reducible refine (eO _ (by assumption)).mono ?_; rintro e w' ⟨rfl, b⟩; have b' := then_ (w := w4) (by assumption) b; clear b; try dsimp only) | (go_at_call 112; with_reducible refine (eR _ (by assumption)).mono ?_; rintro e w' ⟨rfl, b⟩; have b' := then_ (w := w4) (by assumption) b; clear b; try dsimp only) | go_skip | go_guarded | go_step | go_upon)
            (try simp only [Exit.inBlock, Exit.then]); refine bodyPost_ret (results_tmp (by rfl) _ _ _) (by rfl) ?_
            exact ⟨ret_int (by rw [FE.out]; unfold noS; simp [H0.out, si, so, hn0]), then_ HX.out (then_ HW4.out (by assumption))⟩
          · have hn1 : ¬ (0 : Int) < (n : Int) := by omega
            repeat' (first | (go_at_call 29; with_reducible refine (d1 _).mono ?_; rintro e w' ⟨rfl, rfl⟩; try dsimp only) | (go_at_call 108; with_reducible refine (eI _ (by assumption)).mono ?_; rintro e w' ⟨rfl, b⟩; have b' := then_ (w := w4) (by assumption) b; clear b; try dsimp only) | (go_at_call 108; with_reducible refine (eO _ (by assumption)).mono ?_; rintro e w' ⟨rfl, b⟩; have b' := then_ (w := w4) (by assumption) b; clear b; try dsimp only) | (go_at_call 112; with_reducible refine (eR _ (by assumption)).mono ?_; rintro e w' ⟨rfl, b⟩; have b' := then_ (w := w4) (by assumption) b; clear b; try dsimp only) | go_skip | go_guarded | go_step | go_upon)
            (try simp only [Exit.inBlock, Exit.then]); refine bodyPost_ret (results_tmp (by rfl) _ _ _) (by rfl) ?_
            exact ⟨ret_int (by rw [FE.out]; unfold noS; simp [H0.out, si, so]; omega), then_ HX.out (then_ HW4.out (by assumption))⟩
    · have h0b : (r.dvAdmin != 0) = true := by simpa using h0
      have H0 := hid h0
      clear h0
      repeat' (first | (go_at_call 29; with_reducible refine (d1 _).mono ?_; rintro e w' ⟨rfl, rfl⟩; try dsimp only) | (go_at_call 108; with_reducible refine (eI _ (by assumption)).mono ?_; rintro e w' ⟨rfl, b⟩; have b' := then_ (w := w4) (by assumption) b; clear b; try dsimp only) | (go_at_call 108; with_reducible refine (eO _ (by assumption)).mono ?_; rintro e w' ⟨rfl, b⟩; have b' := then_ (w := w4) (by assumption) b; clear b; try dsimp only) | (go_at_call 112; with_reducible refine (eR _ (by assumption)).mono ?_; rintro e w' ⟨rfl, b⟩; have b' := then_ (w := w4) (by assumption) b; clear b; try dsimp only) | go_skip | go_guarded | go_step | go_upon)
      (try simp only [Exit.inBlock, Exit.then]); refine bodyPost_ret (results_tmp (by rfl) _ _ _) (by rfl) ?_
      exact ⟨ret_int (by rw [FE.out]; unfold noS; simp [H0.out]), then_ HX.out (then_ HW4.out (by assumption))⟩
  cases a1
  case false =>
    repeat' (first | (go_at_call 29; with_reducible refine (d1 _).mono ?_; rintro e w' ⟨rfl, rfl⟩; try dsimp only) | (go_at_call 108; with_reducible refine (eI _ (by assumption)).mono ?_; rintro e w' ⟨rfl, b⟩; have b' := then_ (w := w4) (by assumption) b; clear b; try dsimp only) | (go_at_call 108; with_reducible refine (eO _ (by assumption)).mono ?_; rintro e w' ⟨rfl, b⟩; have b' := then_ (w := w4) (by assumption) b; clear b; try dsimp only) | (go_at_call 112; with_reducible refine (eR _ (by assumption)).mono ?_; rintro e w' ⟨rfl, b⟩; have b' := then_ (w := w4) (by assumption) b; clear b; try dsimp only) | go_skip | go_guarded | go_step | go_upon)
    (try simp only [Exit.inBlock, Exit.then]); refine bodyPost_ret (results_tmp (by rfl) _ _ _) (by rfl) ?_
    exact ⟨ret_int (by rw [FE.out]; simp), then_ HX.out (then_ HW4.out (by assumption))⟩
  cases si : r.dvIn.toList.isEmpty with
  | true =>
    cases so : r.dvOut.toList.isEmpty with
    | true =>
      repeat' (first | (go_at_call 29; with_reducible refine (d1 _).mono ?_; rintro e w' ⟨rfl, rfl⟩; try dsimp only) | (go_at_call 108; with_reducible refine (eI _ (by assumption)).mono ?_; rintro e w' ⟨rfl, b⟩; have b' := then_ (w := w4) (by assumption) b; clear b; try dsimp only) | (go_at_call 108; with_reducible refine (eO _ (by assumption)).mono ?_; rintro e w' ⟨rfl, b⟩; have b' := then_ (w := w4) (by assumption) b; clear b; try dsimp only) | (go_at_call 112; with_reducible refine (eR _ (by assumption)).mono ?_; rintro e w' ⟨rfl, b⟩; have b' := then_ (w := w4) (by assumption) b; clear b; try dsimp only) | go_skip | go_guarded | go_step | go_upon)
      (try simp only [Exit.inBlock, Exit.then]); refine bodyPost_ret (results_tmp (by rfl) _ _ _) (by rfl) ?_
      exact ⟨ret_int (by rw [FE.out]; unfold unk noS; simp [si, so]), then_ HX.out (then_ HW4.out (by assumption))⟩
    | false =>
      by_cases no : qo < 0
      · have To : decide (qo < 0) = true := decide_eq_true no
        repeat' (first | (go_at_call 29; with_reducible refine (d1 _).mono ?_; rintro e w' ⟨rfl, rfl⟩; try dsimp only) | (go_at_call 108; with_reducible refine (eI _ (by assumption)).mono ?_; rintro e w' ⟨rfl, b⟩; have b' := then_ (w := w4) (by assumption) b; clear b; try dsimp only) | (go_at_call 108; with_reducible refine (eO _ (by assumption)).mono ?_; rintro e w' ⟨rfl, b⟩; have b' := then_ (w := w4) (by assumption) b; clear b; try dsimp only) | (go_at_call 112; with_reducible refine (eR _ (by assumption)).mono ?_; rintro e w' ⟨rfl, b⟩; have b' := then_ (w := w4) (by assumption) b; clear b; try dsimp only) | go_skip | go_guarded | go_step | go_upon)
        (try simp only [Exit.inBlock, Exit.then]); refine bodyPost_ret (results_tmp (by rfl) _ _ _) (by rfl) ?_
        exact ⟨ret_int (by rw [FE.out]; unfold unk noS; simp [so, no]), then_ HX.out (then_ HW4.out (by assumption))⟩
      · have To : decide (qo < 0) = false := decide_eq_false no
        repeat' (first | (go_at_call 29; with_reducible refine (d1 _).mono ?_; rintro e w' ⟨rfl, rfl⟩; try dsimp only) | (go_at_call 108; with_reducible refine (eI _ (by assumption)).mono ?_; rintro e w' ⟨rfl, b⟩; have b' := then_ (w := w4) (by assumption) b; clear b; try dsimp only) | (go_at_call 108; with_reducible refine (eO _ (by assumption)).mono ?_; rintro e w' ⟨rfl, b⟩; have b' := then_ (w := w4) (by assumption) b; clear b; try dsimp only) | (go_at_call 112; with_reducible refine (eR _ (by assumption)).mono ?_; rintro e w' ⟨rfl, b⟩; have b' := then_ (w := w4) (by assumption) b; clear b; try dsimp only) | go_skip | go_guarded | go_step | go_upon)
        (try simp only [Exit.inBlock, Exit.then]); refine bodyPost_ret (results_tmp (by rfl) _ _ _) (by rfl) ?_
        exact ⟨ret_int (by rw [FE.out]; unfold unk noS; simp [si, so, no]), then_ HX.out (then_ HW4.out (by assumption))⟩
  | false =>
    by_cases ni : qi < 0
    · have Ti : decide (qi < 0) = true := decide_eq_true ni
      repeat' (first | (go_at_call 29; with_reducible refine (d1 _).mono ?_; rintro e w' ⟨rfl, rfl⟩; try dsimp only) | (go_at_call 108; with_reducible refine (eI _ (by assumption)).mono ?_; rintro e w' ⟨rfl, b⟩; have b' := then_ (w := w4) (by assumption) b; clear b; try dsimp only) | (go_at_call 108; with_reducible refine (eO _ (by assumption)).mono ?_; rintro e w' ⟨rfl, b⟩; have b' := then_ (w := w4) (by assumption) b; clear b; try dsimp only) | (go_at_call 112; with_reducible refine (eR _ (by assumption)).mono ?_; rintro e w' ⟨rfl, b⟩; have b' := then_ (w := w4) (by assumption) b; clear b; try dsimp only) | go_skip | go_guarded | go_step | go_upon)
      (try simp only [Exit.inBlock, Exit.then]); refine bodyPost_ret (results_tmp (by rfl) _ _ _) (by rfl) ?_
      exact ⟨ret_int (by rw [FE.out]; unfold unk noS; simp [si, ni]), then_ HX.out (then_ HW4.out (by assumption))⟩
    · have Ti : decide (qi < 0) = false := decide_eq_false ni
      cases so : r.dvOut.toList.isEmpty with
      | true =>
        repeat' (first | (go_at_call 29; with_reducible refine (d1 _).mono ?_; rintro e w' ⟨rfl, rfl⟩; try dsimp only) | (go_at_call 108; with_reducible refine (eI _ (by assumption)).mono ?_; rintro e w' ⟨rfl, b⟩; have b' := then_ (w := w4) (by assumption) b; clear b; try dsimp only) | (go_at_call 108; with_reducible refine (eO _ (by assumption)).mono ?_; rintro e w' ⟨rfl, b⟩; have b' := then_ (w := w4) (by assumption) b; clear b; try dsimp only) | (go_at_call 112; with_reducible refine (eR _ (by assumption)).mono ?_; rintro e w' ⟨rfl, b⟩; have b' := then_ (w := w4) (by assumption) b; clear b; try dsimp only) | go_skip | go_guarded | go_step | go_upon)
        (try simp only [Exit.inBlock, Exit.then]); refine bodyPost_ret (results_tmp (by rfl) _ _ _) (by rfl) ?_
        exact ⟨ret_int (by rw [FE.out]; unfold unk noS; simp [si, ni, so]), then_ HX.out (then_ HW4.out (by assumption))⟩
      | false =>
        by_cases no : qo < 0
        · have To : decide (qo < 0) = true := decide_eq_true no
          repeat' (first | (go_at_call 29; with_reducible refine (d1 _).mono ?_; rintro e w' ⟨rfl, rfl⟩; try dsimp only) | (go_at_call 108; with_reducible refine (eI _ (by assumption)).mono ?_; rintro e w' ⟨rfl, b⟩; have b' := then_ (w := w4) (by assumption) b; clear b; try dsimp only) | (go_at_call 108; with_reducible refine (eO _ (by assumption)).mono ?_; rintro e w' ⟨rfl, b⟩; have b' := then_ (w := w4) (by assumption) b; clear b; try dsimp only) | (go_at_call 112; with_reducible refine (eR _ (by assumption)).mono ?_; rintro e w' ⟨rfl, b⟩; have b' := then_ (w := w4) (by assumption) b; clear b; try dsimp only) | go_skip | go_guarded | go_step | go_upon)
          (try simp only [Exit.inBlock, Exit.then]); refine bodyPost_ret (results_tmp (by rfl) _ _ _) (by rfl) ?_
          exact ⟨ret_int (by rw [FE.out]; unfold unk noS; simp [so, no]), then_ HX.out (then_ HW4.out (by assumption))⟩
        · have To : decide (qo < 0) = false := decide_eq_false no
          repeat' (first | (go_at_call 29; with_reducible refine (d1 _).mono ?_; rintro e w' ⟨rfl, rfl⟩; try dsimp only) | (go_at_call 108; with_reducible refine (eI _ (by assumption)).mono ?_; rintro e w' ⟨rfl, b⟩; have b' := then_ (w := w4) (by assumption) b; clear b; try dsimp only) | (go_at_call 108; with_reducible refine (eO _ (by assumption)).mono ?_; rintro e w' ⟨rfl, b⟩; have b' := then_ (w := w4) (by assumption) b; clear b; try dsimp only) | (go_at_call 112; with_reducible refine (eR _ (by assumption)).mono ?_; rintro e w' ⟨rfl, b⟩; have b' := then_ (w := w4) (by assumption) b; clear b; try dsimp only) | go_skip | go_guarded | go_step | go_upon)
          (try simp only [Exit.inBlock, Exit.then]); refine bodyPost_ret (results_tmp (by rfl) _ _ _) (by rfl) ?_
          exact ⟨ret_int (by rw [FE.out]; unfold unk noS; simp [si, ni, so, no]), then_ HX.out (then_ HW4.out (by assumption))⟩
end Go.Proofs.YtlhbfpapmolohaaGreat.Mw

/-
  THE CONTRACT OF netverifyref8.pathVector.
-/
namespace Go.Proofs.YtlhbfpapmolohaaGreat.Mw
set_option linter.unusedSimpArgs false
set_option linter.unusedVariables false
open Go.RowKit Kt Mm Mp

def zeroPV : Array Value := #[.bool false, .int .i64 0, .int .i64 0, .slice none 0 0, .slice none 0 0, .slice none 0 0, .slice none 0 0, .slice none 0 0]
theorem pvT_eq : mkT 5 0 16777215 = pvT := rfl
theorem orE5 (p q t s u : Int) : orE [p, q, t, s, u] = if p = 0 then (if orE [q, t, s] = 0 then u else orE [q, t, s]) else p := by
  rw [orE3]
  unfold orE; split
  · unfold orE; split
    · unfold orE; split
      · unfold orE; split
        · unfold orE; split
          · rename_i h; simp_all [orE]
          · simp_all
        · simp_all
      · simp_all
    · simp_all
  · rfl
/-- The path-vector part's lists are no longer than a memory holds. -/
def PvLens (r : Rtr) : Prop := r.nbrs.length ≤ 1000000000 ∧ r.nets.length ≤ 1000000000 ∧ r.aggs.length ≤ 1000000000 ∧ r.cnds.length ≤ 1000000000 ∧ r.pvr.length ≤ 1000000000

set_option maxHeartbeats 16000000 in
set_option maxRecDepth 4000 in
theorem rPV (r : Rtr) (w : World) (hr : RtrIn w r) (hb : PvLens r) :
    Calls Tryz.prog 39 #[.agg (eRtr r).toArray] w fun e w' => e = .returned (.int .i64 (pvE r)) ∧ Below w.heap.size w w' := by
  have hWi := fun (p q t : Int) wx => rWithin p q t wx
  obtain ⟨X, hX⟩ : ∃ X, X = (eRtr r).toArray := ⟨_, rfl⟩
  obtain ⟨w1, hw1⟩ : ∃ w1, w.alloc (.cells X 41) = w1 := ⟨_, rfl⟩
  have hhX : w1.heap[w.heap.size]? = some (.cells X 41 (0, 0)) := by rw [← hw1, heap_new]
  have FX1 : ∀ v : World, Below w1.heap.size w1 v → v.cell? ⟨w.heap.size, 1, none⟩ = some (.int .i64 r.asn) := fun v h => box_at (blk_keep hhX h) (by rw [hX]; rfl)
  have KX : ∀ v : World, Below w1.heap.size w1 v → v.heap[w.heap.size]? = some (.cells X 41 (0, 0)) := fun v h => blk_keep hhX h
  have GX : Below w1.heap.size w1 w1 := Below.refl _ _
  have HX := hid (show Below w.heap.size w w1 by rw [← hw1]; exact new_below _ _)
  have hX' := hid hX
  try rw [← hX]
  clear hX hhX
  have hNb := fun wx (h : Below w1.heap.size w1 wx) => rNbrs r wx (hr.keep (then_ HX.out h))
  have hOr := fun wx (h : Below w1.heap.size w1 wx) => rOrig r wx (hr.keep (then_ HX.out h))
  have hRe := fun wx (h : Below w1.heap.size w1 wx) => rReds r r.vPvr r.pvr 5 0 16777215 wx (hr.keep (then_ HX.out h)) (hr.keep (then_ HX.out h)).pvr
  rw [← hX'.out] at hNb
  rw [← hX'.out, pvT_eq] at hRe
  have hXs : X.size = 25 := by rw [hX'.out]; rfl
  unfold PvLens at hb
  obtain ⟨a3, cap3, hv3, hcap3, -⟩ := rows_open (z := 4) (by decide) hr.nbrs.row
  obtain ⟨n3, hn3⟩ : ∃ n, n = r.nbrs.length := ⟨_, rfl⟩
  rw [← hn3] at hcap3 hv3 hb
  obtain ⟨a4, cap4, hv4, hcap4, -⟩ := rows_open (z := 2) (by decide) hr.nets.row
  obtain ⟨n4, hn4⟩ : ∃ n, n = r.nets.length := ⟨_, rfl⟩
  rw [← hn4] at hcap4 hv4 hb
  obtain ⟨a5, cap5, hv5, hcap5, -⟩ := rows_open (z := 3) (by decide) hr.aggs.row
  obtain ⟨n5, hn5⟩ : ∃ n, n = r.aggs.length := ⟨_, rfl⟩
  rw [← hn5] at hcap5 hv5 hb
  obtain ⟨a6, cap6, hv6, hcap6, -⟩ := rows_open (z := 5) (by decide) hr.cnds.row
  obtain ⟨n6, hn6⟩ : ∃ n, n = r.cnds.length := ⟨_, rfl⟩
  rw [← hn6] at hcap6 hv6 hb
  obtain ⟨a7, cap7, hv7, hcap7, -⟩ := rows_open (z := 5) (by decide) hr.pvr.row
  obtain ⟨n7, hn7⟩ : ∃ n, n = r.pvr.length := ⟨_, rfl⟩
  rw [← hn7] at hcap7 hv7 hb
  obtain ⟨Y, hY⟩ : ∃ Y, Y = (ePV r).toArray := ⟨_, rfl⟩
  have hYs : Y.size = 8 := by rw [hY]; rfl
  have hY1 := hid (show Y.all (·.oneCell') = true by rw [hY]; simp [ePV, one_str, one_int, one_bool, row_one hr.nbrs.row, row_one hr.nets.row, row_one hr.aggs.row, row_one hr.cnds.row, row_one hr.pvr.row])
  obtain ⟨on, hon⟩ : ∃ q, q = r.pvOn := ⟨_, rfl⟩
  have y0 : Y[0]? = some (.bool on) := by rw [hY, hon]; rfl
  have y1 : Y[1]? = some (.int .i64 r.ext) := by rw [hY]; rfl
  have y2 : Y[2]? = some (.int .i64 r.intl) := by rw [hY]; rfl
  have y3 : Y[3]? = some (.slice a3 n3 cap3) := by rw [hY, ← hv3]; rfl
  have y4 : Y[4]? = some (.slice a4 n4 cap4) := by rw [hY, ← hv4]; rfl
  have y5 : Y[5]? = some (.slice a5 n5 cap5) := by rw [hY, ← hv5]; rfl
  have y6 : Y[6]? = some (.slice a6 n6 cap6) := by rw [hY, ← hv6]; rfl
  have y7 : Y[7]? = some (.slice a7 n7 cap7) := by rw [hY, ← hv7]; rfl
  rw [hv7] at hRe
  rw [← hY] at hOr
  have d1 := fun wx => hWi r.ext 1 255 wx
  have d2 := fun wx => hWi r.intl 1 255 wx
  obtain ⟨a1, ha1⟩ : ∃ q, q = wi r.ext 1 255 := ⟨_, rfl⟩
  obtain ⟨a2, ha2⟩ : ∃ q, q = wi r.intl 1 255 := ⟨_, rfl⟩
  obtain ⟨eN, heN⟩ : ∃ q, q = nbrsE r.maps r.nbrs := ⟨_, rfl⟩
  obtain ⟨eO, heO⟩ : ∃ q, q = orE [netsE r.nets, aggsE r.aggs, cndsE r.cnds] := ⟨_, rfl⟩
  obtain ⟨er, her⟩ : ∃ q, q = redsE r.maps pvT r.pvr := ⟨_, rfl⟩
  rw [← ha1] at d1
  rw [← ha2] at d2
  rw [← heN] at hNb
  rw [← heO] at hOr
  rw [← her] at hRe
  have FE := hid (show pvE r = if !on then (if !decide (r.ext = 0) || !decide (r.intl = 0) || decide (0 < n3) || decide (0 < n4) || decide (0 < n5) || decide (0 < n6) || decide (0 < n7) then 1 else 0) else if decide (r.asn = 0) || !a1 || !a2 then 1 else if eN = 0 then (if eO = 0 then er else eO) else eN by
    rw [hon, hn3, hn4, hn5, hn6, hn7, ha1, ha2, heN, heO, her, ← orE5]; rfl)
  have wr1 : IntKind.i64.wrap ((n3 : Int) + (n4 : Int)) = (n3 : Int) + (n4 : Int) := by rw [IntKind.wrap_i64]; omega
  have wr2 : IntKind.i64.wrap ((n3 : Int) + (n4 : Int) + (n5 : Int)) = (n3 : Int) + (n4 : Int) + (n5 : Int) := by rw [IntKind.wrap_i64]; omega
  have wr3 : IntKind.i64.wrap ((n3 : Int) + (n4 : Int) + (n5 : Int) + (n6 : Int)) = (n3 : Int) + (n4 : Int) + (n5 : Int) + (n6 : Int) := by rw [IntKind.wrap_i64]; omega
  have wr4 : IntKind.i64.wrap ((n3 : Int) + (n4 : Int) + (n5 : Int) + (n6 : Int) + (n7 : Int)) = (n3 : Int) + (n4 : Int) + (n5 : Int) + (n6 : Int) + (n7 : Int) := by rw [IntKind.wrap_i64]; omega
  clear hr hn3 hn4 hn5 hn6 hn7 hv3 hv4 hv5 hv6 hv7 hon ha1 ha2 heN heO her hWi hb
  obtain ⟨P, hP⟩ : ∃ P, P = Tryz.prog := ⟨_, rfl⟩
  have HP := hid hP
  have mixed : P.follows .mixedOrders = true := by rw [hP]; kernel_rfl
  have FG : P.funcs[39]? = some Tryz.f39 := by rw [hP]; exact Tryz.func39
  obtain ⟨zRouter, hzRouter⟩ : ∃ z, z = 25 := ⟨_, rfl⟩
  have nzRouter : ¬ zRouter = 0 := by omega
  obtain ⟨zPathVector, hzPathVector⟩ : ∃ z, z = 8 := ⟨_, rfl⟩
  have nzPathVector : ¬ zPathVector = 0 := by omega
  have ty3 := Tryz.underlying3; have ag3 := Tryz.isAgg3; have sz3 := Tryz.sizeOf3; have ru3 := Tryz.runUnderlying3
  have ty4 := Tryz.underlying4; have ag4 := Tryz.isAgg4; have sz4 := Tryz.sizeOf4; have ru4 := Tryz.runUnderlying4
  have ty29 := Tryz.underlying29; have ag29 := Tryz.isAgg29; have sz29 := Tryz.sizeOf29; have ru29 := Tryz.runUnderlying29
  have ty34 := Tryz.underlying34; have ag34 := Tryz.isAgg34; have sz34 := Tryz.sizeOf34; have ru34 := Tryz.runUnderlying34
  have ty35 := Tryz.underlying35; have ag35 := Tryz.isAgg35; have sz35 := Tryz.sizeOf35; have ru35 := Tryz.runUnderlying35
  have ty36 := Tryz.underlying36; have ag36 := Tryz.isAgg36; have sz36 := Tryz.sizeOf36; have ru36 := Tryz.runUnderlying36
  have ty37 := Tryz.underlying37; have ag37 := Tryz.isAgg37; have sz37 := Tryz.sizeOf37; have ru37 := Tryz.runUnderlying37
  have ty39 := Tryz.underlying39; have ag39 := Tryz.isAgg39; have sz39 := Tryz.sizeOf39; have ru39 := Tryz.runUnderlying39
  rw [← hzPathVector] at sz39
  have zePathVector := Tryz.zeroValue39
  have ty41 := Tryz.underlying41; have ag41 := Tryz.isAgg41; have sz41 := Tryz.sizeOf41; have ru41 := Tryz.runUnderlying41
  rw [← hzRouter] at sz41
  have ty43 := Tryz.underlying43; have ag43 := Tryz.isAgg43; have sz43 := Tryz.sizeOf43; have ru43 := Tryz.runUnderlying43
  have en0 : ∀ args w, (callFunc 113 args).run Tryz.prog w = .ok (.enter 113 args) w := enters_of Tryz.func113 (by kernel_rfl) rfl
  have en1 : ∀ args w, (callFunc 114 args).run Tryz.prog w = .ok (.enter 114 args) w := enters_of Tryz.func114 (by kernel_rfl) rfl
  have en2 : ∀ args w, (callFunc 112 args).run Tryz.prog w = .ok (.enter 112 args) w := enters_of Tryz.func112 (by kernel_rfl) rfl
  have en3 : ∀ args w, (callFunc 29 args).run Tryz.prog w = .ok (.enter 29 args) w := enters_of Tryz.func29 (by kernel_rfl) rfl
  rw [← hP] at ty3 ag3 sz3 ru3 ty4 ag4 sz4 ru4 ty29 ag29 sz29 ru29 ty34 ag34 sz34 ru34 ty35 ag35 sz35 ru35 ty36 ag36 sz36 ru36 ty37 ag37 sz37 ru37 ty39 ag39 sz39 ru39 zePathVector ty41 ag41 sz41 ru41 ty43 ag43 sz43 ru43 en0 en1 en2 en3 d1 d2 hNb hOr hRe ⊢
  clear hP
  have LX : ∀ v : World, Below w1.heap.size w1 v → Sem.run P (loadCellsFrom ⟨w.heap.size, 0, none⟩ 0 zRouter #[]) v = .ok X v := fun v h => ld_box P (KX v h) (by rw [hzRouter]; exact hXs)
  have ZR := hid hzRouter
  have ZV := hid hzPathVector
  clear hzRouter hzPathVector
  have LV : Sem.run P (loadCellsFrom ⟨w.heap.size, 17, none⟩ 0 zPathVector #[]) w1 = .ok Y w1 := by
    rw [ZV.out, hY]; exact ld_part P (KX w1 GX) rfl (fun j u hj => by rw [hX'.out]; exact part_of (e := ePV) (x := r) (n := 8) rfl j u hj)
  clear KX hY
  go_enter FG, Tryz.ntmps39
  repeat' ((fail_if_success (with_reducible show Hid _)); (first | ((with_reducible show Oper.wp _ ⟨_, .store 39 _ _, _, _, _, _⟩ _ _ _ _); refine stopF ?_) | go_skip | go_guarded | go_step | go_upon))
  refine hid ?_
  refine wp_store_box (w := w1.alloc (.cells zeroPV 39)) 39 _ _ (by rfl) (g := w1.heap.size) (cur := zeroPV) (X := Y) (by rfl) (by rfl) (by intro v; rw [hYs, ← ZV.out]; first | exact sz39 v | assumption) (heap_new _ _) (by rw [hYs]; rfl) hY1.out ?_
  intro w4 h1 h2 h3
  have HW4 := hid (show Below w1.heap.size w1 w4 from (al1 w1 _).trans (h3 _ (Nat.le_refl _)))
  have G4 : Below w4.heap.size w4 w4 := Below.refl _ _
  have FY0 : ∀ v : World, Below w4.heap.size w4 v → v.cell? ⟨w1.heap.size, 0, none⟩ = some (.bool on) := fun v h => box_at (blk_keep h1 h) y0
  have FY1 : ∀ v : World, Below w4.heap.size w4 v → v.cell? ⟨w1.heap.size, 1, none⟩ = some (.int .i64 r.ext) := fun v h => box_at (blk_keep h1 h) y1
  have FY2 : ∀ v : World, Below w4.heap.size w4 v → v.cell? ⟨w1.heap.size, 2, none⟩ = some (.int .i64 r.intl) := fun v h => box_at (blk_keep h1 h) y2
  have FY3 : ∀ v : World, Below w4.heap.size w4 v → v.cell? ⟨w1.heap.size, 3, none⟩ = some (.slice a3 n3 cap3) := fun v h => box_at (blk_keep h1 h) y3
  have FY4 : ∀ v : World, Below w4.heap.size w4 v → v.cell? ⟨w1.heap.size, 4, none⟩ = some (.slice a4 n4 cap4) := fun v h => box_at (blk_keep h1 h) y4
  have FY5 : ∀ v : World, Below w4.heap.size w4 v → v.cell? ⟨w1.heap.size, 5, none⟩ = some (.slice a5 n5 cap5) := fun v h => box_at (blk_keep h1 h) y5
  have FY6 : ∀ v : World, Below w4.heap.size w4 v → v.cell? ⟨w1.heap.size, 6, none⟩ = some (.slice a6 n6 cap6) := fun v h => box_at (blk_keep h1 h) y6
  have FY7 : ∀ v : World, Below w4.heap.size w4 v → v.cell? ⟨w1.heap.size, 7, none⟩ = some (.slice a7 n7 cap7) := fun v h => box_at (blk_keep h1 h) y7
  have LY : ∀ v : World, Below w4.heap.size w4 v → Sem.run P (loadCellsFrom ⟨w1.heap.size, 0, none⟩ 0 zPathVector #[]) v = .ok Y v := fun v h => ld_box P (blk_keep h1 h) (by rw [ZV.out]; exact hYs)
  have LX4 := fun (v : World) (h : Below w4.heap.size w4 v) => LX v (then_ HW4.out h)
  have FA4 := fun (v : World) (h : Below w4.heap.size w4 v) => FX1 v (then_ HW4.out h)
  have eNb := fun wx (h : Below w4.heap.size w4 wx) => hNb wx (then_ HW4.out h)
  have eOr := fun wx (h : Below w4.heap.size w4 wx) => hOr wx (then_ HW4.out h)
  have eRe := fun wx (h : Below w4.heap.size w4 wx) => hRe wx (then_ HW4.out h)
  clear h1 h2 h3 LV LX FX1 hYs y0 y1 y2 y3 y4 y5 y6 y7 hNb hOr hRe
  cases on
  case false =>
    by_cases h0 : r.ext = 0
    · have h0b : (r.ext != 0) = false := by simpa using h0
      have H0 := hid h0
      clear h0
      by_cases i0 : r.intl = 0
      · have i0b : (r.intl != 0) = false := by simpa using i0
        have I0 := hid i0
        clear i0
        by_cases hs : 0 < n3 + n4 + n5 + n6 + n7
        · have hsi : (0 : Int) < (n3 : Int) + (n4 : Int) + (n5 : Int) + (n6 : Int) + (n7 : Int) := by omega
          repeat' (first | (go_at_call 29; with_reducible refine (d1 _).mono ?_; rintro e w' ⟨rfl, rfl⟩; try dsimp only) | (go_at_call 29; with_reducible refine (d2 _).mono ?_; rintro e w' ⟨rfl, rfl⟩; try dsimp only) | (go_at_call 113; with_reducible refine (eNb _ (by assumption)).mono ?_; rintro e w' ⟨rfl, b⟩; have b' := then_ (w := w4) (by assumption) b; clear b; try dsimp only) | (go_at_call 114; with_reducible refine (eOr _ (by assumption)).mono ?_; rintro e w' ⟨rfl, b⟩; have b' := then_ (w := w4) (by assumption) b; clear b; try dsimp only) | (go_at_call 112; with_reducible refine (eRe _ (by assumption)).mono ?_; rintro e w' ⟨rfl, b⟩; have b' := then_ (w := w4) (by assumption) b; clear b; try dsimp only) | go_skip | go_guarded | go_step | go_upon)
          (try simp only [Exit.inBlock, Exit.then]); refine bodyPost_ret (results_tmp (by rfl) _ _ _) (by rfl) ?_
          exact ⟨ret_int (by rw [FE.out]; simp [H0.out, I0.out]; omega), then_ HX.out (then_ HW4.out (by assumption))⟩
        · have hsi : ¬ (0 : Int) < (n3 : Int) + (n4 : Int) + (n5 : Int) + (n6 : Int) + (n7 : Int) := by omega
          repeat' (first | (go_at_call 29; with_reducible refine (d1 _).mono ?_; rintro e w' ⟨rfl, rfl⟩; try dsimp only) | (go_at_call 29; with_reducible refine (d2 _).mono ?_; rintro e w' ⟨rfl, rfl⟩; try dsimp only) | (go_at_call 113; with_reducible refine (eNb _ (by assumption)).mono ?_; rintro e w' ⟨rfl, b⟩; have b' := then_ (w := w4) (by assumption) b; clear b; try dsimp only) | (go_at_call 114; with_reducible refine (eOr _ (by assumption)).mono ?_; rintro e w' ⟨rfl, b⟩; have b' := then_ (w := w4) (by assumption) b; clear b; try dsimp only) | (go_at_call 112; with_reducible refine (eRe _ (by assumption)).mono ?_; rintro e w' ⟨rfl, b⟩; have b' := then_ (w := w4) (by assumption) b; clear b; try dsimp only) | go_skip | go_guarded | go_step | go_upon)
          (try simp only [Exit.inBlock, Exit.then]); refine bodyPost_ret (results_tmp (by rfl) _ _ _) (by rfl) ?_
          exact ⟨ret_int (by rw [FE.out]; simp [H0.out, I0.out]; omega), then_ HX.out (then_ HW4.out (by assumption))⟩
      · have i0b : (r.intl != 0) = true := by simpa using i0
        have I0 := hid i0
        clear i0
        repeat' (first | (go_at_call 29; with_reducible refine (d1 _).mono ?_; rintro e w' ⟨rfl, rfl⟩; try dsimp only) | (go_at_call 29; with_reducible refine (d2 _).mono ?_; rintro e w' ⟨rfl, rfl⟩; try dsimp only) | (go_at_call 113; with_reducible refine (eNb _ (by assumption)).mono ?_; rintro e w' ⟨rfl, b⟩; have b' := then_ (w := w4) (by assumption) b; clear b; try dsimp only) | (go_at_call 114; with_reducible refine (eOr _ (by assumption)).mono ?_; rintro e w' ⟨rfl, b⟩; have b' := then_ (w := w4) (by assumption) b; clear b; try dsimp only) | (go_at_call 112; with_reducible refine (eRe _ (by assumption)).mono ?_; rintro e w' ⟨rfl, b⟩; have b' := then_ (w := w4) (by assumption) b; clear b; try dsimp only) | go_skip | go_guarded | go_step | go_upon)
        (try simp only [Exit.inBlock, Exit.then]); refine bodyPost_ret (results_tmp (by rfl) _ _ _) (by rfl) ?_
        exact ⟨ret_int (by rw [FE.out]; simp [H0.out, I0.out]), then_ HX.out (then_ HW4.out (by assumption))⟩
    · have h0b : (r.ext != 0) = true := by simpa using h0
      have H0 := hid h0
      clear h0
      repeat' (first | (go_at_call 29; with_reducible refine (d1 _).mono ?_; rintro e w' ⟨rfl, rfl⟩; try dsimp only) | (go_at_call 29; with_reducible refine (d2 _).mono ?_; rintro e w' ⟨rfl, rfl⟩; try dsimp only) | (go_at_call 113; with_reducible refine (eNb _ (by assumption)).mono ?_; rintro e w' ⟨rfl, b⟩; have b' := then_ (w := w4) (by assumption) b; clear b; try dsimp only) | (go_at_call 114; with_reducible refine (eOr _ (by assumption)).mono ?_; rintro e w' ⟨rfl, b⟩; have b' := then_ (w := w4) (by assumption) b; clear b; try dsimp only) | (go_at_call 112; with_reducible refine (eRe _ (by assumption)).mono ?_; rintro e w' ⟨rfl, b⟩; have b' := then_ (w := w4) (by assumption) b; clear b; try dsimp only) | go_skip | go_guarded | go_step | go_upon)
      (try simp only [Exit.inBlock, Exit.then]); refine bodyPost_ret (results_tmp (by rfl) _ _ _) (by rfl) ?_
      exact ⟨ret_int (by rw [FE.out]; simp [H0.out]), then_ HX.out (then_ HW4.out (by assumption))⟩
  case true =>
    by_cases s0 : r.asn = 0
    · have s0b : (r.asn == 0) = true := by simpa using s0
      have S0 := hid s0
      clear s0
      repeat' (first | (go_at_call 29; with_reducible refine (d1 _).mono ?_; rintro e w' ⟨rfl, rfl⟩; try dsimp only) | (go_at_call 29; with_reducible refine (d2 _).mono ?_; rintro e w' ⟨rfl, rfl⟩; try dsimp only) | (go_at_call 113; with_reducible refine (eNb _ (by assumption)).mono ?_; rintro e w' ⟨rfl, b⟩; have b' := then_ (w := w4) (by assumption) b; clear b; try dsimp only) | (go_at_call 114; with_reducible refine (eOr _ (by assumption)).mono ?_; rintro e w' ⟨rfl, b⟩; have b' := then_ (w := w4) (by assumption) b; clear b; try dsimp only) | (go_at_call 112; with_reducible refine (eRe _ (by assumption)).mono ?_; rintro e w' ⟨rfl, b⟩; have b' := then_ (w := w4) (by assumption) b; clear b; try dsimp only) | go_skip | go_guarded | go_step | go_upon)
      (try simp only [Exit.inBlock, Exit.then]); refine bodyPost_ret (results_tmp (by rfl) _ _ _) (by rfl) ?_
      exact ⟨ret_int (by rw [FE.out]; simp [S0.out]), then_ HX.out (then_ HW4.out (by assumption))⟩
    have s0b : (r.asn == 0) = false := by simpa using s0
    have S0 := hid s0
    clear s0
    cases a1
    case false =>
      repeat' (first | (go_at_call 29; with_reducible refine (d1 _).mono ?_; rintro e w' ⟨rfl, rfl⟩; try dsimp only) | (go_at_call 29; with_reducible refine (d2 _).mono ?_; rintro e w' ⟨rfl, rfl⟩; try dsimp only) | (go_at_call 113; with_reducible refine (eNb _ (by assumption)).mono ?_; rintro e w' ⟨rfl, b⟩; have b' := then_ (w := w4) (by assumption) b; clear b; try dsimp only) | (go_at_call 114; with_reducible refine (eOr _ (by assumption)).mono ?_; rintro e w' ⟨rfl, b⟩; have b' := then_ (w := w4) (by assumption) b; clear b; try dsimp only) | (go_at_call 112; with_reducible refine (eRe _ (by assumption)).mono ?_; rintro e w' ⟨rfl, b⟩; have b' := then_ (w := w4) (by assumption) b; clear b; try dsimp only) | go_skip | go_guarded | go_step | go_upon)
      (try simp only [Exit.inBlock, Exit.then]); refine bodyPost_ret (results_tmp (by rfl) _ _ _) (by rfl) ?_
      exact ⟨ret_int (by rw [FE.out]; simp [S0.out]), then_ HX.out (then_ HW4.out (by assumption))⟩
    cases a2
    case false =>
      repeat' (first | (go_at_call 29; with_reducible refine (d1 _).mono ?_; rintro e w' ⟨rfl, rfl⟩; try dsimp only) | (go_at_call 29; with_reducible refine (d2 _).mono ?_; rintro e w' ⟨rfl, rfl⟩; try dsimp only) | (go_at_call 113; with_reducible refine (eNb _ (by assumption)).mono ?_; rintro e w' ⟨rfl, b⟩; have b' := then_ (w := w4) (by assumption) b; clear b; try dsimp only) | (go_at_call 114; with_reducible refine (eOr _ (by assumption)).mono ?_; rintro e w' ⟨rfl, b⟩; have b' := then_ (w := w4) (by assumption) b; clear b; try dsimp only) | (go_at_call 112; with_reducible refine (eRe _ (by assumption)).mono ?_; rintro e w' ⟨rfl, b⟩; have b' := then_ (w := w4) (by assumption) b; clear b; try dsimp only) | go_skip | go_guarded | go_step | go_upon)
      (try simp only [Exit.inBlock, Exit.then]); refine bodyPost_ret (results_tmp (by rfl) _ _ _) (by rfl) ?_
      exact ⟨ret_int (by rw [FE.out]; simp [S0.out]), then_ HX.out (then_ HW4.out (by assumption))⟩
    by_cases hN : eN = 0
    · subst hN
      by_cases hO : eO = 0
      · subst hO
        repeat' (first | (go_at_call 29; with_reducible refine (d1 _).mono ?_; rintro e w' ⟨rfl, rfl⟩; try dsimp only) | (go_at_call 29; with_reducible refine (d2 _).mono ?_; rintro e w' ⟨rfl, rfl⟩; try dsimp only) | (go_at_call 113; with_reducible refine (eNb _ (by assumption)).mono ?_; rintro e w' ⟨rfl, b⟩; have b' := then_ (w := w4) (by assumption) b; clear b; try dsimp only) | (go_at_call 114; with_reducible refine (eOr _ (by assumption)).mono ?_; rintro e w' ⟨rfl, b⟩; have b' := then_ (w := w4) (by assumption) b; clear b; try dsimp only) | (go_at_call 112; with_reducible refine (eRe _ (by assumption)).mono ?_; rintro e w' ⟨rfl, b⟩; have b' := then_ (w := w4) (by assumption) b; clear b; try dsimp only) | go_skip | go_guarded | go_step | go_upon)
        (try simp only [Exit.inBlock, Exit.then]); refine bodyPost_ret (results_tmp (by rfl) _ _ _) (by rfl) ?_
        exact ⟨ret_int (by rw [FE.out]; simp [S0.out]), then_ HX.out (then_ HW4.out (by assumption))⟩
      · have hOb : (eO != 0) = true := by simpa using hO
        repeat' (first | (go_at_call 29; with_reducible refine (d1 _).mono ?_; rintro e w' ⟨rfl, rfl⟩; try dsimp only) | (go_at_call 29; with_reducible refine (d2 _).mono ?_; rintro e w' ⟨rfl, rfl⟩; try dsimp only) | (go_at_call 113; with_reducible refine (eNb _ (by assumption)).mono ?_; rintro e w' ⟨rfl, b⟩; have b' := then_ (w := w4) (by assumption) b; clear b; try dsimp only) | (go_at_call 114; with_reducible refine (eOr _ (by assumption)).mono ?_; rintro e w' ⟨rfl, b⟩; have b' := then_ (w := w4) (by assumption) b; clear b; try dsimp only) | (go_at_call 112; with_reducible refine (eRe _ (by assumption)).mono ?_; rintro e w' ⟨rfl, b⟩; have b' := then_ (w := w4) (by assumption) b; clear b; try dsimp only) | go_skip | go_guarded | go_step | go_upon)
        (try simp only [Exit.inBlock, Exit.then]); refine bodyPost_ret (results_tmp (by rfl) _ _ _) (by rfl) ?_
        exact ⟨ret_int (by rw [FE.out]; simp [S0.out, hO]), then_ HX.out (then_ HW4.out (by assumption))⟩
    · have hNb2 : (eN != 0) = true := by simpa using hN
      repeat' (first | (go_at_call 29; with_reducible refine (d1 _).mono ?_; rintro e w' ⟨rfl, rfl⟩; try dsimp only) | (go_at_call 29; with_reducible refine (d2 _).mono ?_; rintro e w' ⟨rfl, rfl⟩; try dsimp only) | (go_at_call 113; with_reducible refine (eNb _ (by assumption)).mono ?_; rintro e w' ⟨rfl, b⟩; have b' := then_ (w := w4) (by assumption) b; clear b; try dsimp only) | (go_at_call 114; with_reducible refine (eOr _ (by assumption)).mono ?_; rintro e w' ⟨rfl, b⟩; have b' := then_ (w := w4) (by assumption) b; clear b; try dsimp only) | (go_at_call 112; with_reducible refine (eRe _ (by assumption)).mono ?_; rintro e w' ⟨rfl, b⟩; have b' := then_ (w := w4) (by assumption) b; clear b; try dsimp only) | go_skip | go_guarded | go_step | go_upon)
      (try simp only [Exit.inBlock, Exit.then]); refine bodyPost_ret (results_tmp (by rfl) _ _ _) (by rfl) ?_
      exact ⟨ret_int (by rw [FE.out]; simp [S0.out, hN]), then_ HX.out (then_ HW4.out (by assumption))⟩
end Go.Proofs.YtlhbfpapmolohaaGreat.Mw

/-
  THE CONTRACT OF netverifyref8.linkState.
-/
namespace Go.Proofs.YtlhbfpapmolohaaGreat.Mw
set_option linter.unusedSimpArgs false
set_option linter.unusedVariables false
open Go.RowKit Kt Mm Mp Am

def zeroLS : Array Value := #[.bool false, .int .i64 0, .slice none 0 0, .slice none 0 0]
theorem lsT_eq : mkT 3 0 16777215 = lsT := rfl
theorem orE2 (p q : Int) : orE [p, q] = if p = 0 then q else p := by
  unfold orE; split
  · unfold orE; split
    · rename_i h; rw [h]; rfl
    · rfl
  · rfl

set_option maxHeartbeats 16000000 in
set_option maxRecDepth 4000 in
theorem rLink (r : Rtr) (w : World) (hr : RtrIn w r) :
    Calls Tryz.prog 37 #[.agg (eRtr r).toArray] w fun e w' => e = .returned (.int .i64 (lsE r)) ∧ Below w.heap.size w w' := by
  have hWi := fun (p q t : Int) wx => rWithin p q t wx
  have hVa := fun (p : Pfx) wx (h : low p.addr) => Ad.refValid p.addr p.len wx h
  have hOv := fun (p q : Pfx) wx (h : low p.addr) (k : low q.addr) => Ad.refOverlaps p.addr p.len q.addr q.len wx h k
  obtain ⟨X, hX⟩ : ∃ X, X = (eRtr r).toArray := ⟨_, rfl⟩
  obtain ⟨w1, hw1⟩ : ∃ w1, w.alloc (.cells X 41) = w1 := ⟨_, rfl⟩
  have hhX : w1.heap[w.heap.size]? = some (.cells X 41 (0, 0)) := by rw [← hw1, heap_new]
  have KX : ∀ v : World, Below w1.heap.size w1 v → v.heap[w.heap.size]? = some (.cells X 41 (0, 0)) := fun v h => blk_keep hhX h
  have GX : Below w1.heap.size w1 w1 := Below.refl _ _
  have HX := hid (show Below w.heap.size w w1 by rw [← hw1]; exact new_below _ _)
  have hX' := hid hX
  try rw [← hX]
  clear hX hhX
  have hRe := fun wx (h : Below w1.heap.size w1 wx) => rReds r r.vLsr r.lsr 3 0 16777215 wx (hr.keep (then_ HX.out h)) (hr.keep (then_ HX.out h)).lsr
  rw [← hX'.out, lsT_eq] at hRe
  have hXs : X.size = 25 := by rw [hX'.out]; rfl
  have HR := hid (hr.keep HX.out)
  obtain ⟨l, hll⟩ : ∃ l, l = r.rngs := ⟨_, rfl⟩
  obtain ⟨a, cap, hv, hcap, hcell⟩ := rows_open (z := 3) (by decide) HR.out.rngs.row
  obtain ⟨a2, cap2, hv2, hcap2, -⟩ := rows_open (z := 5) (by decide) HR.out.lsr.row
  rw [← hll] at hcell hv hcap
  obtain ⟨n, hn⟩ : ∃ n, n = l.length := ⟨_, rfl⟩
  obtain ⟨m, hm⟩ : ∃ n, n = r.lsr.length := ⟨_, rfl⟩
  have hl : l.length ≤ 9223372036854775807 := by rw [hll]; exact HR.out.rngs.len
  have R0 := hid (show rngsE l = if 4 < l.length then 7 else firstE (rngE l) 0 l from rfl)
  rw [← hn] at hl hcap hcell hv R0
  rw [← hm] at hcap2 hv2
  have N := hid hn
  have HC := hid hcell
  have RA := hid (show ∀ x ∈ l, low x.pfx.addr by rw [hll]; exact HR.out.rngsA)
  obtain ⟨Y, hY⟩ : ∃ Y, Y = (eLS r).toArray := ⟨_, rfl⟩
  have hYs : Y.size = 4 := by rw [hY]; rfl
  have hY1 := hid (show Y.all (·.oneCell') = true by rw [hY]; simp [eLS, one_str, one_int, one_bool, row_one HR.out.rngs.row, row_one HR.out.lsr.row])
  obtain ⟨on, hon⟩ : ∃ q, q = r.lsOn := ⟨_, rfl⟩
  have y0 : Y[0]? = some (.bool on) := by rw [hY, hon]; rfl
  have y1 : Y[1]? = some (.int .i64 r.lsAdmin) := by rw [hY]; rfl
  have y2 : Y[2]? = some (.slice a n cap) := by rw [hY, ← hv]; rfl
  have y3 : Y[3]? = some (.slice a2 m cap2) := by rw [hY, ← hv2]; rfl
  rw [hv2] at hRe
  have d1 := fun wx => hWi r.lsAdmin 1 255 wx
  obtain ⟨a1, ha1⟩ : ∃ q, q = wi r.lsAdmin 1 255 := ⟨_, rfl⟩
  obtain ⟨er, her⟩ : ∃ q, q = redsE r.maps lsT r.lsr := ⟨_, rfl⟩
  rw [← ha1] at d1
  rw [← her] at hRe
  have FE := hid (show lsE r = if !on then (if !decide (r.lsAdmin = 0) || decide (0 < n) || decide (0 < m) then 1 else 0) else if !a1 then 1 else if rngsE l = 0 then er else rngsE l by
    rw [hon, hn, hm, hll, ha1, her, ← orE2]; rfl)
  clear hr hn hm hv hv2 hcell hon ha1 her hll
  obtain ⟨P, hP⟩ : ∃ P, P = Tryz.prog := ⟨_, rfl⟩
  have HP := hid hP
  have mixed : P.follows .mixedOrders = true := by rw [hP]; kernel_rfl
  have FG : P.funcs[37]? = some Tryz.f37 := by rw [hP]; exact Tryz.func37
  obtain ⟨zRouter, hzRouter⟩ : ∃ z, z = 25 := ⟨_, rfl⟩
  have nzRouter : ¬ zRouter = 0 := by omega
  obtain ⟨zLinkState, hzLinkState⟩ : ∃ z, z = 4 := ⟨_, rfl⟩
  have nzLinkState : ¬ zLinkState = 0 := by omega
  have ty3 := Tryz.underlying3; have ag3 := Tryz.isAgg3; have sz3 := Tryz.sizeOf3; have ru3 := Tryz.runUnderlying3
  have ty4 := Tryz.underlying4; have ag4 := Tryz.isAgg4; have sz4 := Tryz.sizeOf4; have ru4 := Tryz.runUnderlying4
  have ty28 := Tryz.underlying28; have ag28 := Tryz.isAgg28; have sz28 := Tryz.sizeOf28; have ru28 := Tryz.runUnderlying28
  have ty29 := Tryz.underlying29; have ag29 := Tryz.isAgg29; have sz29 := Tryz.sizeOf29; have ru29 := Tryz.runUnderlying29
  have ty31 := Tryz.underlying31; have ag31 := Tryz.isAgg31; have sz31 := Tryz.sizeOf31; have ru31 := Tryz.runUnderlying31
  rw [← hzLinkState] at sz31
  have zeLinkState := Tryz.zeroValue31
  have ty41 := Tryz.underlying41; have ag41 := Tryz.isAgg41; have sz41 := Tryz.sizeOf41; have ru41 := Tryz.runUnderlying41
  rw [← hzRouter] at sz41
  have ty56 := Tryz.underlying56; have ag56 := Tryz.isAgg56; have sz56 := Tryz.sizeOf56; have ru56 := Tryz.runUnderlying56
  have ty150 := Tryz.underlying150; have ag150 := Tryz.isAgg150; have sz150 := Tryz.sizeOf150; have ru150 := Tryz.runUnderlying150
  have en0 : ∀ args w, (callFunc 105 args).run Tryz.prog w = .ok (.enter 105 args) w := enters_of Tryz.func105 (by kernel_rfl) rfl
  have en1 : ∀ args w, (callFunc 110 args).run Tryz.prog w = .ok (.enter 110 args) w := enters_of Tryz.func110 (by kernel_rfl) rfl
  have en2 : ∀ args w, (callFunc 112 args).run Tryz.prog w = .ok (.enter 112 args) w := enters_of Tryz.func112 (by kernel_rfl) rfl
  have en3 : ∀ args w, (callFunc 29 args).run Tryz.prog w = .ok (.enter 29 args) w := enters_of Tryz.func29 (by kernel_rfl) rfl
  rw [← hP] at ty3 ag3 sz3 ru3 ty4 ag4 sz4 ru4 ty28 ag28 sz28 ru28 ty29 ag29 sz29 ru29 ty31 ag31 sz31 ru31 zeLinkState ty41 ag41 sz41 ru41 ty56 ag56 sz56 ru56 ty150 ag150 sz150 ru150 en0 en1 en2 en3 hWi hVa hOv d1 hRe ⊢
  clear hP
  have LX : ∀ v : World, Below w1.heap.size w1 v → Sem.run P (loadCellsFrom ⟨w.heap.size, 0, none⟩ 0 zRouter #[]) v = .ok X v := fun v h => ld_box P (KX v h) (by rw [hzRouter]; exact hXs)
  have ZR := hid hzRouter
  have ZV := hid hzLinkState
  clear hzRouter hzLinkState
  have LV : Sem.run P (loadCellsFrom ⟨w.heap.size, 8, none⟩ 0 zLinkState #[]) w1 = .ok Y w1 := by
    rw [ZV.out, hY]; exact ld_part P (KX w1 GX) rfl (fun j u hj => by rw [hX'.out]; exact part_of (e := eLS) (x := r) (n := 4) rfl j u hj)
  clear KX hY
  go_enter FG, Tryz.ntmps37
  repeat' ((fail_if_success (with_reducible show Hid _)); (first | ((with_reducible show Oper.wp _ ⟨_, .store 31 _ _, _, _, _, _⟩ _ _ _ _); refine stopF ?_) | go_skip | go_guarded | go_step | go_upon))
  refine hid ?_
  refine wp_store_box (w := w1.alloc (.cells zeroLS 31)) 31 _ _ (by rfl) (g := w1.heap.size) (cur := zeroLS) (X := Y) (by rfl) (by rfl) (by intro v; rw [hYs, ← ZV.out]; first | exact sz31 v | assumption) (heap_new _ _) (by rw [hYs]; rfl) hY1.out ?_
  intro w4 h1 h2 h3
  have HW4 := hid (show Below w1.heap.size w1 w4 from (al1 w1 _).trans (h3 _ (Nat.le_refl _)))
  have G4 : Below w4.heap.size w4 w4 := Below.refl _ _
  have FY0 : ∀ v : World, Below w4.heap.size w4 v → v.cell? ⟨w1.heap.size, 0, none⟩ = some (.bool on) := fun v h => box_at (blk_keep h1 h) y0
  have FY1 : ∀ v : World, Below w4.heap.size w4 v → v.cell? ⟨w1.heap.size, 1, none⟩ = some (.int .i64 r.lsAdmin) := fun v h => box_at (blk_keep h1 h) y1
  have FY2 : ∀ v : World, Below w4.heap.size w4 v → v.cell? ⟨w1.heap.size, 2, none⟩ = some (.slice a n cap) := fun v h => box_at (blk_keep h1 h) y2
  have FY3 : ∀ v : World, Below w4.heap.size w4 v → v.cell? ⟨w1.heap.size, 3, none⟩ = some (.slice a2 m cap2) := fun v h => box_at (blk_keep h1 h) y3
  have LX4 := fun (v : World) (h : Below w4.heap.size w4 v) => LX v (then_ HW4.out h)
  have eRe := fun wx (h : Below w4.heap.size w4 wx) => hRe wx (then_ HW4.out h)
  clear h1 h2 h3 LV LX hYs y0 y1 y2 y3 hRe
  cases on
  case false =>
    by_cases h0 : r.lsAdmin = 0
    · have h0b : (r.lsAdmin != 0) = false := by simpa using h0
      have H0 := hid h0
      clear h0
      by_cases n0 : 0 < n
      · have n0i : (0 : Int) < (n : Int) := by omega
        repeat' (first | (go_at_call 29; with_reducible refine (d1 _).mono ?_; rintro e w' ⟨rfl, rfl⟩; try dsimp only) | (go_at_call 112; with_reducible refine (eRe _ (by assumption)).mono ?_; rintro e w' ⟨rfl, b⟩; have b' := then_ (w := w4) (by assumption) b; clear b; try dsimp only) | go_skip | go_guarded | go_step | go_upon)
        (try simp only [Exit.inBlock, Exit.then]); refine bodyPost_ret (results_tmp (by rfl) _ _ _) (by rfl) ?_
        exact ⟨ret_int (by rw [FE.out]; simp [H0.out, n0]), then_ HX.out (then_ HW4.out (by assumption))⟩
      have n0i : ¬ (0 : Int) < (n : Int) := by omega
      by_cases m0 : 0 < m
      · have m0i : (0 : Int) < (m : Int) := by omega
        repeat' (first | (go_at_call 29; with_reducible refine (d1 _).mono ?_; rintro e w' ⟨rfl, rfl⟩; try dsimp only) | (go_at_call 112; with_reducible refine (eRe _ (by assumption)).mono ?_; rintro e w' ⟨rfl, b⟩; have b' := then_ (w := w4) (by assumption) b; clear b; try dsimp only) | go_skip | go_guarded | go_step | go_upon)
        (try simp only [Exit.inBlock, Exit.then]); refine bodyPost_ret (results_tmp (by rfl) _ _ _) (by rfl) ?_
        exact ⟨ret_int (by rw [FE.out]; simp [H0.out, m0]), then_ HX.out (then_ HW4.out (by assumption))⟩
      have m0i : ¬ (0 : Int) < (m : Int) := by omega
      repeat' (first | (go_at_call 29; with_reducible refine (d1 _).mono ?_; rintro e w' ⟨rfl, rfl⟩; try dsimp only) | (go_at_call 112; with_reducible refine (eRe _ (by assumption)).mono ?_; rintro e w' ⟨rfl, b⟩; have b' := then_ (w := w4) (by assumption) b; clear b; try dsimp only) | go_skip | go_guarded | go_step | go_upon)
      (try simp only [Exit.inBlock, Exit.then]); refine bodyPost_ret (results_tmp (by rfl) _ _ _) (by rfl) ?_
      exact ⟨ret_int (by rw [FE.out]; simp [H0.out]; omega), then_ HX.out (then_ HW4.out (by assumption))⟩
    · have h0b : (r.lsAdmin != 0) = true := by simpa using h0
      have H0 := hid h0
      clear h0
      repeat' (first | (go_at_call 29; with_reducible refine (d1 _).mono ?_; rintro e w' ⟨rfl, rfl⟩; try dsimp only) | (go_at_call 112; with_reducible refine (eRe _ (by assumption)).mono ?_; rintro e w' ⟨rfl, b⟩; have b' := then_ (w := w4) (by assumption) b; clear b; try dsimp only) | go_skip | go_guarded | go_step | go_upon)
      (try simp only [Exit.inBlock, Exit.then]); refine bodyPost_ret (results_tmp (by rfl) _ _ _) (by rfl) ?_
      exact ⟨ret_int (by rw [FE.out]; simp [H0.out]), then_ HX.out (then_ HW4.out (by assumption))⟩
  case true =>
    cases a1
    case false =>
      repeat' (first | (go_at_call 29; with_reducible refine (d1 _).mono ?_; rintro e w' ⟨rfl, rfl⟩; try dsimp only) | (go_at_call 112; with_reducible refine (eRe _ (by assumption)).mono ?_; rintro e w' ⟨rfl, b⟩; have b' := then_ (w := w4) (by assumption) b; clear b; try dsimp only) | go_skip | go_guarded | go_step | go_upon)
      (try simp only [Exit.inBlock, Exit.then]); refine bodyPost_ret (results_tmp (by rfl) _ _ _) (by rfl) ?_
      exact ⟨ret_int (by rw [FE.out]; simp), then_ HX.out (then_ HW4.out (by assumption))⟩
    by_cases h4 : 4 < n
    · have h4i : (4 : Int) < (n : Int) := by omega
      have Z := hid (show rngsE l = 7 by rw [R0.out, if_pos h4])
      repeat' (first | (go_at_call 29; with_reducible refine (d1 _).mono ?_; rintro e w' ⟨rfl, rfl⟩; try dsimp only) | (go_at_call 112; with_reducible refine (eRe _ (by assumption)).mono ?_; rintro e w' ⟨rfl, b⟩; have b' := then_ (w := w4) (by assumption) b; clear b; try dsimp only) | go_skip | go_guarded | go_step | go_upon)
      (try simp only [Exit.inBlock, Exit.then]); refine bodyPost_ret (results_tmp (by rfl) _ _ _) (by rfl) ?_
      exact ⟨ret_int (by rw [FE.out]; rw [Z.out]; simp), then_ HX.out (then_ HW4.out (by assumption))⟩
    have h4i : ¬ (4 : Int) < (n : Int) := by omega
    have R1 := hid (R0.out.trans (if_neg h4))
    repeat' (first | (go_at_call 29; with_reducible refine (d1 _).mono ?_; rintro e w' ⟨rfl, rfl⟩; try dsimp only) | (go_at_call 112; with_reducible refine (eRe _ (by assumption)).mono ?_; rintro e w' ⟨rfl, b⟩; have b' := then_ (w := w4) (by assumption) b; clear b; try dsimp only) | go_skip | go_guarded | go_step | go_upon)
    clear R0 h4 h4i
    go_loopg [4] n (fun gg s4 wr => ∃ k : Nat, k ≤ n ∧ n - k ≤ gg ∧ s4 = .int .i64 k ∧ Below w4.heap.size w4 wr ∧ Aside (rngsE l = firstE (rngE l) k (l.drop k)))
    case atStart => exact ⟨0, Nat.zero_le _, by omega, rfl, by assumption, R1.out⟩
    case round =>
      obtain ⟨k, hk, hg, rfl, hwr, E⟩ := hrel
      have fx := FY2 wr hwr
      by_cases hlt : k < n
      · have hlti : (k : Int) < (n : Int) := by omega
        have hk0 : (0 : Int) ≤ (k : Int) := by omega
        obtain ⟨x, hx⟩ := get_some (l := l) (k := k) (by have := N.out; omega)
        obtain ⟨b, off, rfl, hb, hc⟩ := HC.out (by omega)
        have hcx := row_cells (f := eRng) (z := 3) (fun _ => rfl) hc hx
        have F0 : ∀ v : World, Below w4.heap.size w4 v → v.cell? ⟨b, off + k * 3, none⟩ = some (.int .i64 x.area) := fun v h => ((then_ HW4.out h).cell (p := ⟨b, off + k * 3, none⟩) hb).trans (hcx 0 _ rfl)
        have F1 : ∀ v : World, Below w4.heap.size w4 v → v.cell? ⟨b, off + k * 3 + 1, none⟩ = some (.int .u32 (x.pfx.addr : Int)) := fun v h => ((then_ HW4.out h).cell (p := ⟨b, off + k * 3 + 1, none⟩) hb).trans (hcx 1 _ rfl)
        have F2 : ∀ v : World, Below w4.heap.size w4 v → v.cell? ⟨b, off + k * 3 + 1 + 1, none⟩ = some (.int .i64 x.pfx.len) := fun v h => ((then_ HW4.out h).cell (p := ⟨b, off + k * 3 + 2, none⟩) hb).trans (hcx 2 _ rfl)
        have D := hid (drop_get hx)
        have f0 := F0 wr hwr
        have f1 := F1 wr hwr
        have f2 := F2 wr hwr
        have dW := fun wx => hWi x.area 0 255 wx
        have dV := fun wx => hVa x.pfx wx (RA.out x (get_mem hx))
        obtain ⟨b1, hb1⟩ : ∃ q, q = wi x.area 0 255 := ⟨_, rfl⟩
        obtain ⟨b2, hb2⟩ : ∃ q, q = vPf x.pfx := ⟨_, rfl⟩
        have hb3 : validB x.pfx.addr x.pfx.len = b2 := hb2.symm
        obtain ⟨tk, htk⟩ : ∃ q, q = (l.take k).any (fun y : Rng => decide (y.area = x.area) && ovP y.pfx x.pfx) := ⟨_, rfl⟩
        rw [← hb1] at dW
        rw [hb3] at dV
        unfold Ad.px at dV
        have GE := hid (show rngE l k x = if !b1 || !b2 then 1 else if tk then 6 else 0 by rw [hb1, hb2, htk]; rfl)
        have TK := hid htk
        clear hcx hb1 hb2 hb3 htk
        cases b1
        case false =>
          have Q2 := hid (show rngE l k x = 1 by rw [GE.out]; simp)
          repeat' (first | (go_at_call 29; with_reducible refine (dW _).mono ?_; rintro e w' ⟨rfl, rfl⟩; try dsimp only) | (go_at_call 110; with_reducible refine (dV _).mono ?_; rintro e w' ⟨rfl, b⟩; have b' := then_ (w := w4) (by assumption) b; clear b; try dsimp only) | go_skip | go_guarded | go_step | go_upon)
          (try simp only [Exit.inBlock, Exit.then]); refine bodyPost_ret (results_tmp (by rfl) _ _ _) (by rfl) ?_
          exact ⟨ret_int (by have Z : rngsE l = 1 := (E.out.trans (by rw [D.out]; exact (firstE_hit (by rw [Q2.out]; simp)).trans Q2.out)); rw [FE.out, Z]; simp), then_ HX.out (then_ HW4.out (by assumption))⟩
        cases b2
        case false =>
          have Q2 := hid (show rngE l k x = 1 by rw [GE.out]; simp)
          repeat' (first | (go_at_call 29; with_reducible refine (dW _).mono ?_; rintro e w' ⟨rfl, rfl⟩; try dsimp only) | (go_at_call 110; with_reducible refine (dV _).mono ?_; rintro e w' ⟨rfl, b⟩; have b' := then_ (w := w4) (by assumption) b; clear b; try dsimp only) | go_skip | go_guarded | go_step | go_upon)
          (try simp only [Exit.inBlock, Exit.then]); refine bodyPost_ret (results_tmp (by rfl) _ _ _) (by rfl) ?_
          exact ⟨ret_int (by have Z : rngsE l = 1 := (E.out.trans (by rw [D.out]; exact (firstE_hit (by rw [Q2.out]; simp)).trans Q2.out)); rw [FE.out, Z]; simp), then_ HX.out (then_ HW4.out (by assumption))⟩
        have Q3 := hid (show rngE l k x = if tk then 6 else 0 by rw [GE.out]; rfl)
        repeat' (first | (go_at_call 29; with_reducible refine (dW _).mono ?_; rintro e w' ⟨rfl, rfl⟩; try dsimp only) | (go_at_call 110; with_reducible refine (dV _).mono ?_; rintro e w' ⟨rfl, b⟩; have b' := then_ (w := w4) (by assumption) b; clear b; try dsimp only) | go_skip | go_guarded | go_step | go_upon)
        clear f0 f1 f2
        go_loopg [5] k (fun gg s5 wr => ∃ i : Nat, i ≤ k ∧ k - i ≤ gg ∧ s5 = .int .i64 i ∧ Below w4.heap.size w4 wr ∧ Aside (tk = ((l.take k).drop i).any (fun y : Rng => decide (y.area = x.area) && ovP y.pfx x.pfx)))
        case atStart => exact ⟨0, Nat.zero_le _, by omega, rfl, by assumption, TK.out⟩
        case round =>
          obtain ⟨i, hi, hgi, rfl, hwr2, T⟩ := hrel
          by_cases hik : i < k
          · have hiki : (i : Int) < (k : Int) := by omega
            have hin : (i : Int) < (n : Int) := by omega
            have hi0 : (0 : Int) ≤ (i : Int) := by omega
            obtain ⟨y, hy⟩ := get_some (l := l) (k := i) (by have := N.out; omega)
            have hcy := row_cells (f := eRng) (z := 3) (fun _ => rfl) hc hy
            have GS : Below wr.heap.size wr wr := Below.refl _ _
            have uX := fun u : Later wr.heap.size wr => FY2 u.w (then_ hwr2 u.h)
            have uF0 := fun u : Later wr.heap.size wr => F0 u.w (then_ hwr2 u.h)
            have uF1 := fun u : Later wr.heap.size wr => F1 u.w (then_ hwr2 u.h)
            have uF2 := fun u : Later wr.heap.size wr => F2 u.w (then_ hwr2 u.h)
            have uY0 : ∀ u : Later wr.heap.size wr, u.w.cell? ⟨b, off + i * 3, none⟩ = some (.int .i64 y.area) := fun u => ((then_ HW4.out (then_ hwr2 u.h)).cell (p := ⟨b, off + i * 3, none⟩) hb).trans (hcy 0 _ rfl)
            have uY1 : ∀ u : Later wr.heap.size wr, u.w.cell? ⟨b, off + i * 3 + 1, none⟩ = some (.int .u32 (y.pfx.addr : Int)) := fun u => ((then_ HW4.out (then_ hwr2 u.h)).cell (p := ⟨b, off + i * 3 + 1, none⟩) hb).trans (hcy 1 _ rfl)
            have uY2 : ∀ u : Later wr.heap.size wr, u.w.cell? ⟨b, off + i * 3 + 1 + 1, none⟩ = some (.int .i64 y.pfx.len) := fun u => ((then_ HW4.out (then_ hwr2 u.h)).cell (p := ⟨b, off + i * 3 + 2, none⟩) hb).trans (hcy 2 _ rfl)
            have dO := fun wx => hOv y.pfx x.pfx wx (RA.out y (get_mem hy)) (RA.out x (get_mem hx))
            obtain ⟨o, ho⟩ : ∃ q, q = ovP y.pfx x.pfx := ⟨_, rfl⟩
            have ho2 : ovlB y.pfx.addr y.pfx.len x.pfx.addr x.pfx.len = o := ho.symm
            rw [ho2] at dO
            unfold Ad.px at dO
            clear hcy ho2
            by_cases hq : y.area = x.area
            · have hqb : (y.area == x.area) = true := by simpa using hq
              have HQ := hid hq
              have HO := hid ho
              clear ho hq
              cases o
              case true =>
                have T2 := hid (T.out.trans (any_hit hy hik (by rw [decide_eq_true HQ.out, ← HO.out]; rfl)))
                have Q2 := hid (show rngE l k x = 6 by rw [Q3.out, T2.out]; rfl)
                repeat' (first | go_skip | go_guarded | go_step | go_upon)
                refine wp_region_base wr (by assumption) (by first | assumption | kernel_rfl) (by kernel_rfl) ?_
                repeat (go_big_quiet_step (first | (go_at_call 105; with_reducible exact later_of (Nat.le_refl _) (dO _))))
                refine wpQuiet_nil ?_
                rintro _ ⟨u, rfl⟩
                have bu := u.h
                repeat' (first | go_skip | go_guarded | go_step | go_upon)
                (try simp only [Exit.inBlock, Exit.then]); refine bodyPost_ret (results_tmp (by rfl) _ _ _) (by rfl) ?_
                exact ⟨ret_int (by have Z : rngsE l = 6 := (E.out.trans (by rw [D.out]; exact (firstE_hit (by rw [Q2.out]; simp)).trans Q2.out)); rw [FE.out, Z]; simp), then_ HX.out (then_ HW4.out (then_ hwr2 (by assumption)))⟩
              case false =>
                have T2 := hid (T.out.trans (any_next hy hik (by rw [← HO.out]; exact Bool.and_false _)))
                repeat' (first | go_skip | go_guarded | go_step | go_upon)
                refine wp_region_base wr (by assumption) (by first | assumption | kernel_rfl) (by kernel_rfl) ?_
                repeat (go_big_quiet_step (first | (go_at_call 105; with_reducible exact later_of (Nat.le_refl _) (dO _))))
                refine wpQuiet_nil ?_
                rintro _ ⟨u, rfl⟩
                have bu := u.h
                repeat' (first | go_skip | go_guarded | go_step | go_upon)
                go_roundg (k - (i + 1))
                case measure => omega
                case rel => exact ⟨i + 1, by omega, by omega, by go_num, then_ hwr2 (by assumption), T2.out⟩
            · have hqb : (y.area == x.area) = false := by simpa using hq
              have T2 := hid (T.out.trans (any_next hy hik (by rw [decide_eq_false hq]; rfl)))
              repeat' (first | go_skip | go_guarded | go_step | go_upon)
              refine wp_region_base wr (by assumption) (by first | assumption | kernel_rfl) (by kernel_rfl) ?_
              repeat (go_big_quiet_step (first | (go_at_call 105; with_reducible exact later_of (Nat.le_refl _) (dO _))))
              refine wpQuiet_nil ?_
              rintro _ ⟨u, rfl⟩
              have bu := u.h
              repeat' (first | go_skip | go_guarded | go_step | go_upon)
              go_roundg (k - (i + 1))
              case measure => omega
              case rel => exact ⟨i + 1, by omega, by omega, by go_num, then_ hwr2 (by assumption), T2.out⟩
          · have hiki : ¬ (i : Int) < (k : Int) := by omega
            have T2 := hid (T.out.trans (any_end (by omega)))
            have Q2 := hid (show rngE l k x = 0 by rw [Q3.out, T2.out]; rfl)
            repeat' (first | go_skip | go_guarded | go_step | go_upon)
            go_roundg (n - (k + 1))
            case measure => omega
            case rel => exact ⟨k + 1, by omega, by omega, by go_num, by assumption, by show _ = _; rw [E.out, D.out]; exact firstE_next Q2.out⟩
      · have hlti : ¬ (k : Int) < (n : Int) := by omega
        have Z := hid (show rngsE l = 0 by rw [E.out, drop_end (by have := N.out; omega)]; rfl)
        repeat' (first | (go_at_call 29; with_reducible refine (d1 _).mono ?_; rintro e w' ⟨rfl, rfl⟩; try dsimp only) | (go_at_call 112; with_reducible refine (eRe _ (by assumption)).mono ?_; rintro e w' ⟨rfl, b⟩; have b' := then_ (w := w4) (by assumption) b; clear b; try dsimp only) | go_skip | go_guarded | go_step | go_upon)
        (try simp only [Exit.inBlock, Exit.then]); refine bodyPost_ret (results_tmp (by rfl) _ _ _) (by rfl) ?_
        exact ⟨ret_int (by rw [FE.out]; rw [Z.out]; simp), then_ HX.out (then_ HW4.out (by assumption))⟩
end Go.Proofs.YtlhbfpapmolohaaGreat.Mw

/-
  THE CONTRACT OF netverifyref8.CheckRouter.
-/
namespace Go.Proofs.YtlhbfpapmolohaaGreat.Mw
set_option linter.unusedSimpArgs false
set_option linter.unusedVariables false
open Go.RowKit Kt Mm Mp Am

/-! ### The sections as the reference has them say the same -/
theorem ifs_addr {l : List Ifc} (h : ifsE l = 0) : ∀ x ∈ l, ¬ x.len = 0 → ¬ x.addr = 0 := by
  intro x hx h0 ha
  obtain ⟨j, hj⟩ := List.getElem?_of_mem hx
  have h1 := (eachE_ok.1 h).2 j x hj
  unfold ifcE at h1
  split at h1
  · cases h1
  · split at h1
    · cases h1
    · split at h1
      · cases h1
      · rename_i _ _ h3
        unfold ifcOk at h3
        rw [if_neg h0] at h3
        simp [ha] at h3
theorem filt_eq {l : List Ifc} {ac : List Acl} (h : ifsE l = 0) : firstE (fun _ x => filtE ac x) 0 l = filtsE ac l := by
  have h1 := (eachE_ok.1 h).1
  unfold filtsE eachE
  rw [if_neg (by omega)]
theorem stat_eq {ifs : List Ifc} {l : List Stc} (h : ifsE ifs = 0) : statsF ifs l = statsE ifs l := by
  unfold statsF statsE
  refine eachE_congr fun j x _ => ?_
  have e : (!decide (x.next = 0) && decide (0 ≤ adIx ifs x.next)) = decide (0 ≤ adIx ifs x.next) := by
    cases hb : decide (0 ≤ adIx ifs x.next) with
    | false => simp
    | true =>
      have hp := hb
      unfold adIx at hp
      rw [ixB_pos] at hp
      obtain ⟨y, hy, hz⟩ := List.any_eq_true.1 hp
      simp at hz
      have := ifs_addr h y hy hz.1
      simp; omega
  unfold statF statE
  rw [e]
def refL (r : Rtr) : List Int := [ifsE r.ifs, listsE r.lists, mapsE r.lists r.maps, aclsE r.acls, natE r.acls r.nat, firstE (fun _ x => filtE r.acls x) 0 r.ifs, statsF r.ifs r.sts, lsE r, dvE r, pvE r]
theorem ref_eq (r : Rtr) : rtrE r = if nmB r.name then (if wi r.asn 0 65535 then orE (refL r) else 1) else 3 := by
  have h0 : rtrE r = if idE r = 0 then orE [ifsE r.ifs, listsE r.lists, mapsE r.lists r.maps, aclsE r.acls, natE r.acls r.nat, filtsE r.acls r.ifs, statsE r.ifs r.sts, lsE r, dvE r, pvE r] else idE r := rfl
  have h1 : orE [ifsE r.ifs, listsE r.lists, mapsE r.lists r.maps, aclsE r.acls, natE r.acls r.nat, filtsE r.acls r.ifs, statsE r.ifs r.sts, lsE r, dvE r, pvE r] = orE (refL r) := by
    unfold refL
    by_cases h : ifsE r.ifs = 0
    · rw [filt_eq h, stat_eq h]
    · have e : ∀ l : List Int, orE (ifsE r.ifs :: l) = ifsE r.ifs := fun l => by unfold orE; rw [if_neg h]
      rw [e, e]
  rw [h0, h1]
  unfold idE
  cases nmB r.name <;> cases wi r.asn 0 65535 <;> simp

set_option maxHeartbeats 16000000 in
set_option maxRecDepth 4000 in
theorem rCheck (r : Rtr) (w : World) (hr : RtrIn w r) (hb : PvLens r) :
    Calls Tryz.prog 9 #[.agg (eRtr r).toArray] w fun e w' => e = .returned (.int .i64 (rtrE r)) ∧ Below w.heap.size w w' := by
  obtain ⟨X, hX⟩ : ∃ X, X = (eRtr r).toArray := ⟨_, rfl⟩
  obtain ⟨w1, hw1⟩ : ∃ w1, w.alloc (.cells X 41) = w1 := ⟨_, rfl⟩
  have hhX : w1.heap[w.heap.size]? = some (.cells X 41 (0, 0)) := by rw [← hw1, heap_new]
  have FX0 : ∀ v : World, Below w1.heap.size w1 v → v.cell? ⟨w.heap.size, 0, none⟩ = some (.string r.name) := fun v h => box_at (blk_keep hhX h) (by rw [hX]; rfl)
  have FX1 : ∀ v : World, Below w1.heap.size w1 v → v.cell? ⟨w.heap.size, 1, none⟩ = some (.int .i64 r.asn) := fun v h => box_at (blk_keep hhX h) (by rw [hX]; rfl)
  have FX2 : ∀ v : World, Below w1.heap.size w1 v → v.cell? ⟨w.heap.size, 2, none⟩ = some (r.vIfs) := fun v h => box_at (blk_keep hhX h) (by rw [hX]; rfl)
  have FX3 : ∀ v : World, Below w1.heap.size w1 v → v.cell? ⟨w.heap.size, 3, none⟩ = some (r.vLists) := fun v h => box_at (blk_keep hhX h) (by rw [hX]; rfl)
  have FX5 : ∀ v : World, Below w1.heap.size w1 v → v.cell? ⟨w.heap.size, 5, none⟩ = some (r.vAcls) := fun v h => box_at (blk_keep hhX h) (by rw [hX]; rfl)
  have KX : ∀ v : World, Below w1.heap.size w1 v → v.heap[w.heap.size]? = some (.cells X 41 (0, 0)) := fun v h => blk_keep hhX h
  have GX : Below w1.heap.size w1 w1 := Below.refl _ _
  have HX := hid (show Below w.heap.size w w1 by rw [← hw1]; exact new_below _ _)
  have hX' := hid hX
  try rw [← hX]
  clear hX hhX
  have hXs : X.size = 25 := by rw [hX'.out]; rfl
  have kp := fun (u : Later w1.heap.size w1) => hr.keep (then_ HX.out u.h)
  have c0 := fun (u : Later w1.heap.size w1) => rIfs r.vIfs r.ifs u.w (kp u).ifs.row (kp u).ifs.len (kp u).ifsN (kp u).ifsA
  have c1 := fun (u : Later w1.heap.size w1) => rLists r.vLists r.lists u.w (kp u).lists.row (kp u).lists.len (kp u).listsN (kp u).listsR (kp u).listsA
  have c2 := fun (u : Later w1.heap.size w1) => rMaps r u.w (kp u)
  have c3 := fun (u : Later w1.heap.size w1) => rAcls r.vAcls r.acls u.w (kp u).acls.row (kp u).acls.len (kp u).aclsN (kp u).aclsR (kp u).aclsA
  have c4 := fun (u : Later w1.heap.size w1) => rNat r u.w (kp u)
  have c5 := fun (u : Later w1.heap.size w1) => rFilts r u.w (kp u)
  have c6 := fun (u : Later w1.heap.size w1) => rSts r u.w (kp u)
  have c7 := fun (u : Later w1.heap.size w1) => rLink r u.w (kp u)
  have c8 := fun (u : Later w1.heap.size w1) => rDist r u.w (kp u)
  have c9 := fun (u : Later w1.heap.size w1) => rPV r u.w (kp u) hb
  rw [← hX'.out] at c2 c4 c5 c6 c7 c8 c9
  have hNm : ∀ wx, Calls Tryz.prog 28 #[.string r.name] wx fun e w' => e = .returned (.bool (nmB r.name)) ∧ wx = w' := fun wx => Sc.refName r.name wx hr.name
  have hWi := fun wx => rWithin r.asn 0 65535 wx
  obtain ⟨es, hes⟩ : ∃ es, es = refL r := ⟨_, rfl⟩
  have R := ref_eq r
  rw [← hes] at R
  unfold refL at hes
  obtain ⟨nb, hnb⟩ : ∃ q, q = nmB r.name := ⟨_, rfl⟩
  obtain ⟨wb, hwb⟩ : ∃ q, q = wi r.asn 0 65535 := ⟨_, rfl⟩
  rw [← hnb] at hNm R
  rw [← hwb] at hWi R
  obtain ⟨e0, he0⟩ : ∃ q, q = ifsE r.ifs := ⟨_, rfl⟩
  obtain ⟨e1, he1⟩ : ∃ q, q = listsE r.lists := ⟨_, rfl⟩
  obtain ⟨e2, he2⟩ : ∃ q, q = mapsE r.lists r.maps := ⟨_, rfl⟩
  obtain ⟨e3, he3⟩ : ∃ q, q = aclsE r.acls := ⟨_, rfl⟩
  obtain ⟨e4, he4⟩ : ∃ q, q = natE r.acls r.nat := ⟨_, rfl⟩
  obtain ⟨e5, he5⟩ : ∃ q, q = firstE (fun _ x => filtE r.acls x) 0 r.ifs := ⟨_, rfl⟩
  obtain ⟨e6, he6⟩ : ∃ q, q = statsF r.ifs r.sts := ⟨_, rfl⟩
  obtain ⟨e7, he7⟩ : ∃ q, q = lsE r := ⟨_, rfl⟩
  obtain ⟨e8, he8⟩ : ∃ q, q = dvE r := ⟨_, rfl⟩
  obtain ⟨e9, he9⟩ : ∃ q, q = pvE r := ⟨_, rfl⟩
  rw [← he0] at c0 hes
  rw [← he1] at c1 hes
  rw [← he2] at c2 hes
  rw [← he3] at c3 hes
  rw [← he4] at c4 hes
  rw [← he5] at c5 hes
  rw [← he6] at c6 hes
  rw [← he7] at c7 hes
  rw [← he8] at c8 hes
  rw [← he9] at c9 hes
  have RR := hid R
  have ES := hid hes
  clear he0 he1 he2 he3 he4 he5 he6 he7 he8 he9 hnb hwb hr hb kp R hes
  obtain ⟨vI, hvI⟩ : ∃ v, v = r.vIfs := ⟨_, rfl⟩
  obtain ⟨vL, hvL⟩ : ∃ v, v = r.vLists := ⟨_, rfl⟩
  obtain ⟨vA, hvA⟩ : ∃ v, v = r.vAcls := ⟨_, rfl⟩
  rw [← hvI] at FX2 c0
  rw [← hvL] at FX3 c1
  rw [← hvA] at FX5 c3
  clear hvI hvL hvA
  obtain ⟨P, hP⟩ : ∃ P, P = Tryz.prog := ⟨_, rfl⟩
  have HP := hid hP
  have mixed : P.follows .mixedOrders = true := by rw [hP]; kernel_rfl
  have FG : P.funcs[9]? = some Tryz.f9 := by rw [hP]; exact Tryz.func9
  obtain ⟨zRouter, hzRouter⟩ : ∃ z, z = 25 := ⟨_, rfl⟩
  have nzRouter : ¬ zRouter = 0 := by omega
  have ty3 := Tryz.underlying3; have ag3 := Tryz.isAgg3; have sz3 := Tryz.sizeOf3; have ru3 := Tryz.runUnderlying3
  have ty4 := Tryz.underlying4; have ag4 := Tryz.isAgg4; have sz4 := Tryz.sizeOf4; have ru4 := Tryz.runUnderlying4
  have ty9 := Tryz.underlying9; have ag9 := Tryz.isAgg9; have sz9 := Tryz.sizeOf9; have ru9 := Tryz.runUnderlying9
  have ty22 := Tryz.underlying22; have ag22 := Tryz.isAgg22; have sz22 := Tryz.sizeOf22; have ru22 := Tryz.runUnderlying22
  have ty23 := Tryz.underlying23; have ag23 := Tryz.isAgg23; have sz23 := Tryz.sizeOf23; have ru23 := Tryz.runUnderlying23
  have ty25 := Tryz.underlying25; have ag25 := Tryz.isAgg25; have sz25 := Tryz.sizeOf25; have ru25 := Tryz.runUnderlying25
  have ty41 := Tryz.underlying41; have ag41 := Tryz.isAgg41; have sz41 := Tryz.sizeOf41; have ru41 := Tryz.runUnderlying41
  rw [← hzRouter] at sz41
  have ty43 := Tryz.underlying43; have ag43 := Tryz.isAgg43; have sz43 := Tryz.sizeOf43; have ru43 := Tryz.runUnderlying43
  have zeErrno := Tryz.zeroValue43
  have ty77 := Tryz.underlying77; have ag77 := Tryz.isAgg77; have sz77 := Tryz.sizeOf77; have ru77 := Tryz.runUnderlying77
  have zeSErrno := Tryz.zeroValue77
  have en0 : ∀ args w, (callFunc 28 args).run Tryz.prog w = .ok (.enter 28 args) w := enters_of Tryz.func28 (by kernel_rfl) rfl
  have en1 : ∀ args w, (callFunc 33 args).run Tryz.prog w = .ok (.enter 33 args) w := enters_of Tryz.func33 (by kernel_rfl) rfl
  have en2 : ∀ args w, (callFunc 38 args).run Tryz.prog w = .ok (.enter 38 args) w := enters_of Tryz.func38 (by kernel_rfl) rfl
  have en3 : ∀ args w, (callFunc 35 args).run Tryz.prog w = .ok (.enter 35 args) w := enters_of Tryz.func35 (by kernel_rfl) rfl
  have en4 : ∀ args w, (callFunc 30 args).run Tryz.prog w = .ok (.enter 30 args) w := enters_of Tryz.func30 (by kernel_rfl) rfl
  have en5 : ∀ args w, (callFunc 37 args).run Tryz.prog w = .ok (.enter 37 args) w := enters_of Tryz.func37 (by kernel_rfl) rfl
  have en6 : ∀ args w, (callFunc 39 args).run Tryz.prog w = .ok (.enter 39 args) w := enters_of Tryz.func39 (by kernel_rfl) rfl
  have en7 : ∀ args w, (callFunc 31 args).run Tryz.prog w = .ok (.enter 31 args) w := enters_of Tryz.func31 (by kernel_rfl) rfl
  have en8 : ∀ args w, (callFunc 32 args).run Tryz.prog w = .ok (.enter 32 args) w := enters_of Tryz.func32 (by kernel_rfl) rfl
  have en9 : ∀ args w, (callFunc 36 args).run Tryz.prog w = .ok (.enter 36 args) w := enters_of Tryz.func36 (by kernel_rfl) rfl
  have en10 : ∀ args w, (callFunc 34 args).run Tryz.prog w = .ok (.enter 34 args) w := enters_of Tryz.func34 (by kernel_rfl) rfl
  have en11 : ∀ args w, (callFunc 29 args).run Tryz.prog w = .ok (.enter 29 args) w := enters_of Tryz.func29 (by kernel_rfl) rfl
  rw [← hP] at ty3 ag3 sz3 ru3 ty4 ag4 sz4 ru4 ty9 ag9 sz9 ru9 ty22 ag22 sz22 ru22 ty23 ag23 sz23 ru23 ty25 ag25 sz25 ru25 ty41 ag41 sz41 ru41 ty43 ag43 sz43 ru43 zeErrno ty77 ag77 sz77 ru77 zeSErrno en0 en1 en2 en3 en4 en5 en6 en7 en8 en9 en10 en11 hNm hWi c0 c1 c2 c3 c4 c5 c6 c7 c8 c9 ⊢
  clear hP
  have LX : ∀ v : World, Below w1.heap.size w1 v → Sem.run P (loadCellsFrom ⟨w.heap.size, 0, none⟩ 0 zRouter #[]) v = .ok X v := fun v h => ld_box P (KX v h) (by rw [hzRouter]; exact hXs)
  have ZR := hid hzRouter
  clear hzRouter KX hXs
  have uFX2 := fun u : Later w1.heap.size w1 => FX2 u.w u.h
  have uFX3 := fun u : Later w1.heap.size w1 => FX3 u.w u.h
  have uFX5 := fun u : Later w1.heap.size w1 => FX5 u.w u.h
  have uLX := fun u : Later w1.heap.size w1 => LX u.w u.h
  have G1 : Below w1.heap.size w1 w1 := GX
  go_enter FG, Tryz.ntmps9
  cases nb
  case false =>
    repeat' (first | (go_at_call 28; with_reducible refine (hNm _).mono ?_; rintro e w' ⟨rfl, rfl⟩; try dsimp only) | (go_at_call 29; with_reducible refine (hWi _).mono ?_; rintro e w' ⟨rfl, rfl⟩; try dsimp only) | go_skip | go_guarded | go_step | go_upon)
    go_ret
    exact ⟨ret_int (by rw [RR.out]; rfl), HX.out⟩
  cases wb
  case false =>
    repeat' (first | (go_at_call 28; with_reducible refine (hNm _).mono ?_; rintro e w' ⟨rfl, rfl⟩; try dsimp only) | (go_at_call 29; with_reducible refine (hWi _).mono ?_; rintro e w' ⟨rfl, rfl⟩; try dsimp only) | go_skip | go_guarded | go_step | go_upon)
    go_ret
    exact ⟨ret_int (by rw [RR.out]; rfl), HX.out⟩
  repeat' (first | (go_at_call 28; with_reducible refine (hNm _).mono ?_; rintro e w' ⟨rfl, rfl⟩; try dsimp only) | (go_at_call 29; with_reducible refine (hWi _).mono ?_; rintro e w' ⟨rfl, rfl⟩; try dsimp only) | go_skip | go_guarded | go_step | go_upon)
  refine wp_region_qtail 23 w1 G1 mixed (by kernel_rfl) ?_
  simp only [List.take_succ_cons, List.take_zero, List.drop_succ_cons, List.drop_zero]
  repeat (go_big_quiet_step (first | (go_at_call 30; with_reducible exact later_of (Nat.le_refl _) (c0 _)) | (go_at_call 31; with_reducible exact later_of (Nat.le_refl _) (c1 _)) | (go_at_call 32; with_reducible exact later_of (Nat.le_refl _) (c2 _)) | (go_at_call 33; with_reducible exact later_of (Nat.le_refl _) (c3 _)) | (go_at_call 34; with_reducible exact later_of (Nat.le_refl _) (c4 _)) | (go_at_call 35; with_reducible exact later_of (Nat.le_refl _) (c5 _)) | (go_at_call 36; with_reducible exact later_of (Nat.le_refl _) (c6 _)) | (go_at_call 37; with_reducible exact later_of (Nat.le_refl _) (c7 _)) | (go_at_call 38; with_reducible exact later_of (Nat.le_refl _) (c8 _)) | (go_at_call 39; with_reducible exact later_of (Nat.le_refl _) (c9 _))))
  refine wpQuiet_nil ?_
  rintro _ ⟨u, rfl⟩
  have bu := u.h
  clear c0 c1 c2 c3 c4 c5 c6 c7 c8 c9 uFX2 uFX3 uFX5 uLX FX0 FX1 FX2 FX3 FX5 LX hNm hWi
  repeat' (first | go_skip | go_guarded | go_step | go_upon)
  obtain ⟨W, hW⟩ : ∃ W, W = u.w.alloc (.cells #[.int .i64 e0, .int .i64 e1, .int .i64 e2, .int .i64 e3, .int .i64 e4, .int .i64 e5, .int .i64 e6, .int .i64 e7, .int .i64 e8, .int .i64 e9] 43) := ⟨_, rfl⟩
  have cE : ∀ (k : Nat) (e : Int), es[k]? = some e → W.cell? ⟨u.w.heap.size, k, none⟩ = some (.int .i64 e) := fun k e h => by
    rw [hW]
    refine box_at (heap_new _ _) ?_
    rw [ES.out] at h
    have : ([e0, e1, e2, e3, e4, e5, e6, e7, e8, e9].map (fun x => Value.int .i64 x))[k]? = some (.int .i64 e) := by rw [List.getElem?_map, h]; rfl
    rw [List.getElem?_toArray]; exact this
  have HW := hid (show Below w.heap.size w W by rw [hW]; exact then_ (then_ HX.out bu) (al1 _ _))
  have EL : es.length = 10 := by rw [ES.out]; rfl
  rw [← hW]
  obtain ⟨g, hgb⟩ : ∃ g, g = u.w.heap.size := ⟨_, rfl⟩
  rw [← hgb] at cE ⊢
  have EL := hid EL
  clear hW bu hgb
  have R2 := hid (show rtrE r = orE es by rw [RR.out]; rfl)
  go_loopg [4] 10 (fun gg s4 wr => ∃ k : Nat, k ≤ 10 ∧ 10 - k ≤ gg ∧ s4 = .int .i64 k ∧ wr = W ∧ Aside (rtrE r = orE (es.drop k)))
  case atStart => exact ⟨0, by omega, by omega, rfl, rfl, R2.out⟩
  case round =>
    obtain ⟨k, hk, hg, rfl, rfl, E⟩ := hrel
    by_cases hlt : k < 10
    · have hlti : (k : Int) < 10 := by omega
      obtain ⟨e, hx⟩ := get_some (l := es) (k := k) (by rw [EL.out]; exact hlt)
      have c1 := cE k e hx
      have D : Aside (es.drop k = e :: es.drop (k + 1)) := drop_get hx
      clear cE hx
      by_cases h0 : e = 0
      · subst h0
        repeat' (first | go_skip | go_guarded | go_step | go_upon)
        go_roundg (10 - (k + 1))
        case measure => omega
        case rel =>
          refine ⟨k + 1, by omega, by omega, by go_num, rfl, ?_⟩
          show _ = _
          rw [E.out, D.out]; rfl
      · have h0b : (e != 0) = true := by simpa using h0
        have Q := hid (show rtrE r = e by rw [E.out, D.out]; unfold orE; rw [if_neg h0])
        clear h0
        repeat' (first | go_skip | go_guarded | go_step | go_upon)
        go_ret
        exact ⟨ret_int Q.out.symm, HW.out⟩
    · have hlti : ¬ (k : Int) < 10 := by omega
      have Q := hid (show rtrE r = 0 by rw [E.out, drop_end (by rw [EL.out]; omega)]; rfl)
      clear cE
      repeat' (first | go_skip | go_guarded | go_step | go_upon)
      go_ret
      exact ⟨ret_int Q.out.symm, HW.out⟩
end Go.Proofs.YtlhbfpapmolohaaGreat.Mw
