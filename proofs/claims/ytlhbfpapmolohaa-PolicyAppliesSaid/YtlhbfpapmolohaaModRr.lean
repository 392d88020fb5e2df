/-
  THE CONTRACT OF netverifyref8.redistributions.
-/
import Derived.Test.YtlhbfpapmolohaaModRo
namespace Go.Proofs.Ytlhbfpapmolohaa.Mw
set_option linter.unusedSimpArgs false
set_option linter.unusedVariables false
open Go.RowKit Kt Mm Mp

def zeroRed : Array Value := #[.int .i64 0, .int .i64 0, .int .i64 0, .string ⟨#[]⟩, .int .i64 0]
/-- A protocol's bounds, as the reference is handed them. -/
def mkT (p a b : Int) : Into := ⟨p, a, b, if p = 3 then 1 else 0, if p = 3 then 2 else 0⟩

set_option maxHeartbeats 16000000 in
set_option maxRecDepth 4000 in
theorem rReds (r : Rtr) (v : Value) (l : List Red) (into least most : Int) (w : World) (hr : RtrIn w r) (hrow0 : InRow eRed 5 w v l) :
    Calls Try.prog 68 #[.agg (eRtr r).toArray, v, .int .i64 into, .int .i64 least, .int .i64 most] w fun e w' => e = .returned (.int .i64 (redsE r.maps (mkT into least most) l)) ∧ Below w.heap.size w w' := by
  have hWi := fun (p q t : Int) wx => rWithin p q t wx
  obtain ⟨X, hX⟩ : ∃ X, X = (eRtr r).toArray := ⟨_, rfl⟩
  obtain ⟨w1, hw1⟩ : ∃ w1, w.alloc (.cells X 55) = w1 := ⟨_, rfl⟩
  have hhX : w1.heap[w.heap.size]? = some (.cells X 55 (0, 0)) := by rw [← hw1, heap_new]
  have KX : ∀ v : World, Below w1.heap.size w1 v → v.heap[w.heap.size]? = some (.cells X 55 (0, 0)) := fun v h => blk_keep hhX h
  have GX : Below w1.heap.size w1 w1 := Below.refl _ _
  have HX := hid (show Below w.heap.size w w1 by rw [← hw1]; exact new_below _ _)
  have hX' := hid hX
  try rw [← hX]
  clear hX hhX
  have hMp := fun wx (s : ByteArray) (h : Below w1.heap.size w1 wx) => rkRMap X r.vMaps r.maps s wx (by rw [hX'.out]; rfl) (hr.keep (then_ HX.out h)).maps.row hr.maps.len
  have hXs : X.size = 25 := by rw [hX'.out]; rfl
  have hrow : IsRow eRed 5 w1 v l := rows_keep hrow0.row HX.out
  have hl := hrow0.len
  have R0 := hid (show redsE r.maps (mkT into least most) l = if 4 < l.length then 7 else firstE (redE r.maps (mkT into least most) l) 0 l from rfl)
  obtain ⟨a, cap, hv, hcap, hcell⟩ := rows_open (z := 5) (by decide) hrow
  obtain ⟨n, hn⟩ : ∃ n, n = l.length := ⟨_, rfl⟩
  rw [← hn] at hl hcap hcell hv R0
  subst hv
  have N := hid hn
  have HC := hid hcell
  clear hn hrow hcell hr hrow0
  obtain ⟨P, hP⟩ : ∃ P, P = Try.prog := ⟨_, rfl⟩
  have HP := hid hP
  have mixed : P.follows .mixedOrders = true := by rw [hP]; kernel_rfl
  have FG : P.funcs[68]? = some Try.f68 := by rw [hP]; exact Try.func68
  obtain ⟨zRouter, hzRouter⟩ : ∃ z, z = 25 := ⟨_, rfl⟩
  have nzRouter : ¬ zRouter = 0 := by omega
  obtain ⟨zRedist, hzRedist⟩ : ∃ z, z = 5 := ⟨_, rfl⟩
  have nzRedist : ¬ zRedist = 0 := by omega
  have ty3 := Try.underlying3; have ag3 := Try.isAgg3; have sz3 := Try.sizeOf3; have ru3 := Try.runUnderlying3
  have ty4 := Try.underlying4; have ag4 := Try.isAgg4; have sz4 := Try.sizeOf4; have ru4 := Try.runUnderlying4
  have ty9 := Try.underlying9; have ag9 := Try.isAgg9; have sz9 := Try.sizeOf9; have ru9 := Try.runUnderlying9
  have ty43 := Try.underlying43; have ag43 := Try.isAgg43; have sz43 := Try.sizeOf43; have ru43 := Try.runUnderlying43
  have ty55 := Try.underlying55; have ag55 := Try.isAgg55; have sz55 := Try.sizeOf55; have ru55 := Try.runUnderlying55
  rw [← hzRouter] at sz55
  have ty131 := Try.underlying131; have ag131 := Try.isAgg131; have sz131 := Try.sizeOf131; have ru131 := Try.runUnderlying131
  rw [← hzRedist] at sz131
  have zeRedist := Try.zeroValue131
  have en0 : ∀ args w, (callFunc 39 args).run Try.prog w = .ok (.enter 39 args) w := enters_of Try.func39 (by kernel_rfl) rfl
  have en1 : ∀ args w, (callFunc 45 args).run Try.prog w = .ok (.enter 45 args) w := enters_of Try.func45 (by kernel_rfl) rfl
  rw [← hP] at ty3 ag3 sz3 ru3 ty4 ag4 sz4 ru4 ty9 ag9 sz9 ru9 ty43 ag43 sz43 ru43 ty55 ag55 sz55 ru55 ty131 ag131 sz131 ru131 zeRedist en0 en1 hWi hMp ⊢
  clear hP
  have LX : ∀ v : World, Below w1.heap.size w1 v → Sem.run P (loadCellsFrom ⟨w.heap.size, 0, none⟩ 0 zRouter #[]) v = .ok X v := fun v h => ld_box P (KX v h) (by rw [hzRouter]; exact hXs)
  have ZR := hid hzRouter
  have ZD := hid hzRedist
  clear hzRouter hzRedist KX
  by_cases h8 : 4 < n
  · have h8i : (4 : Int) < (n : Int) := by omega
    go_enter FG, Try.ntmps68
    repeat' (first | go_skip | go_guarded | go_step | go_upon)
    go_ret
    exact ⟨ret_int (by rw [R0.out, if_pos h8]), HX.out⟩
  have h8i : ¬ (4 : Int) < (n : Int) := by omega
  have R1 := hid (R0.out.trans (if_neg h8))
  go_enter FG, Try.ntmps68
  repeat' (first | go_skip | go_guarded | go_step | go_upon)
  clear R0 h8 h8i
  go_loopg [11] n (fun gg s11 wr => ∃ k : Nat, k ≤ n ∧ n - k ≤ gg ∧ s11 = .int .i64 k ∧ Below w1.heap.size w1 wr ∧ Aside (redsE r.maps (mkT into least most) l = firstE (redE r.maps (mkT into least most) l) k (l.drop k)))
  case atStart => exact ⟨0, Nat.zero_le _, by omega, rfl, by assumption, R1.out⟩
  case round =>
    obtain ⟨k, hk, hg, rfl, hwr, E⟩ := hrel
    by_cases hlt : k < n
    · have hlti : (k : Int) < (n : Int) := by omega
      have hk0 : (0 : Int) ≤ (k : Int) := by omega
      obtain ⟨x, hx⟩ := get_some (l := l) (k := k) (by have := N.out; omega)
      obtain ⟨b, off, rfl, hb, hc⟩ := HC.out (by omega)
      have LY : Sem.run P (loadCellsFrom ⟨b, off + k * zRedist, none⟩ 0 zRedist #[]) wr = .ok (eRed x).toArray wr := by
        rw [ZD.out]; exact ld_row (f := eRed) (z := 5) P (fun _ => rfl) (fun j u hj => (hwr.cell (p := ⟨b, off + j, none⟩) hb).trans (hc j u hj)) hx
      obtain ⟨Y, hY⟩ : ∃ Y, Y = (eRed x).toArray := ⟨_, rfl⟩
      have hYs : Y.size = 5 := by rw [hY]; rfl
      have hY1 := hid (show Y.all (·.oneCell') = true by rw [hY]; simp [eRed, one_str, one_int, one_bool])
      have y0 : Y[0]? = some (.int .i64 x.frm) := by rw [hY]; rfl
      have y1 : Y[1]? = some (.int .i64 x.metric) := by rw [hY]; rfl
      have y2 : Y[2]? = some (.int .i64 x.tag) := by rw [hY]; rfl
      have y3 : Y[3]? = some (.string x.mp) := by rw [hY]; rfl
      have y4 : Y[4]? = some (.int .i64 x.typ) := by rw [hY]; rfl
      rw [← hY] at LY
      have D := hid (drop_get hx)
      clear hY hx
      repeat' ((fail_if_success (with_reducible show Hid _)); (first | ((with_reducible show Oper.wp _ ⟨_, .store 131 _ _, _, _, _, _⟩ _ _ _ _); refine stopF ?_) | go_skip | go_guarded | go_step | go_upon))
      refine hid ?_
      refine wp_store_box (w := wr.alloc (.cells zeroRed 131)) 131 _ _ (by rfl) (g := wr.heap.size) (cur := zeroRed) (X := Y) (by rfl) (by rfl) (by intro v; rw [hYs, ← ZD.out]; first | exact sz131 v | assumption) (heap_new _ _) (by rw [hYs]; rfl) hY1.out ?_
      intro w4 h1 h2 h3
      have HB4 := hid (show Below wr.heap.size wr w4 from (al1 wr _).trans (h3 _ (Nat.le_refl _)))
      have HW4 := hid (then_ (show Below w1.heap.size w1 wr from hwr) HB4.out)
      have G4 : Below w4.heap.size w4 w4 := Below.refl _ _
      have FY0 : ∀ v : World, Below w4.heap.size w4 v → v.cell? ⟨wr.heap.size, 0, none⟩ = some (.int .i64 x.frm) := fun v h => box_at (blk_keep h1 h) y0
      have FY1 : ∀ v : World, Below w4.heap.size w4 v → v.cell? ⟨wr.heap.size, 1, none⟩ = some (.int .i64 x.metric) := fun v h => box_at (blk_keep h1 h) y1
      have FY2 : ∀ v : World, Below w4.heap.size w4 v → v.cell? ⟨wr.heap.size, 2, none⟩ = some (.int .i64 x.tag) := fun v h => box_at (blk_keep h1 h) y2
      have FY3 : ∀ v : World, Below w4.heap.size w4 v → v.cell? ⟨wr.heap.size, 3, none⟩ = some (.string x.mp) := fun v h => box_at (blk_keep h1 h) y3
      have FY4 : ∀ v : World, Below w4.heap.size w4 v → v.cell? ⟨wr.heap.size, 4, none⟩ = some (.int .i64 x.typ) := fun v h => box_at (blk_keep h1 h) y4
      have LX4 := fun (v : World) (h : Below w4.heap.size w4 v) => LX v (then_ HW4.out h)
      have d1 := fun wx => hWi x.frm 1 5 wx
      have d2 := fun wx => hWi x.metric least most wx
      have d3 := fun wx => hWi x.tag 0 65535 wx
      have dM := fun wx (h : Below w4.heap.size w4 wx) => hMp wx x.mp (then_ HW4.out h)
      obtain ⟨a1, ha1⟩ : ∃ q, q = wi x.frm 1 5 := ⟨_, rfl⟩
      obtain ⟨a2, ha2⟩ : ∃ q, q = wi x.metric least most := ⟨_, rfl⟩
      obtain ⟨a3, ha3⟩ : ∃ q, q = wi x.tag 0 65535 := ⟨_, rfl⟩
      obtain ⟨qi, hqi⟩ : ∃ q, q = maIx r.maps x.mp := ⟨_, rfl⟩
      obtain ⟨tk, htk⟩ : ∃ q, q = (l.take k).any (fun y : Red => decide (y.frm = x.frm)) := ⟨_, rfl⟩
      have hqi2 : ixB (fun y : RMap => y.name.toList == x.mp.toList) r.maps = qi := hqi.symm
      rw [← ha1] at d1
      rw [← ha2] at d2
      rw [← ha3] at d3
      rw [hqi2] at dM
      have FE := hid (show redE r.maps (mkT into least most) l k x = if !(a1 && !decide (x.frm = into) && a2 && a3 && wi x.typ (if into = 3 then 1 else 0) (if into = 3 then 2 else 0)) then 1 else if unk x.mp qi then 5 else if tk then 4 else 0 by rw [ha1, ha2, ha3, hqi, htk]; rfl)
      have TK := hid htk
      clear h1 h2 h3 LY hYs y0 y1 y2 y3 y4 ha1 ha2 ha3 hqi hqi2 htk
      cases a1
      case false =>
        have Q2 := hid (show redE r.maps (mkT into least most) l k x = 1 by rw [FE.out]; simp)
        repeat' (first | (go_at_call 45; with_reducible refine (d1 _).mono ?_; rintro e w' ⟨rfl, rfl⟩; try dsimp only) | (go_at_call 45; with_reducible refine (d2 _).mono ?_; rintro e w' ⟨rfl, rfl⟩; try dsimp only) | (go_at_call 45; with_reducible refine (d3 _).mono ?_; rintro e w' ⟨rfl, rfl⟩; try dsimp only) | (go_at_call 39; with_reducible refine (dM _ (by assumption)).mono ?_; rintro e w' ⟨rfl, b⟩; have b' := then_ (w := w4) (by assumption) b; clear b; try dsimp only) | go_skip | go_guarded | go_step | go_upon)
        (try simp only [Exit.inBlock, Exit.then]); refine bodyPost_ret (results_tmp (by rfl) _ _ _) (by rfl) ?_
        exact ⟨ret_int (by rw [E.out, D.out]; refine ((firstE_hit (by rw [Q2.out]; simp)).trans ?_).symm; rw [Q2.out]), then_ HX.out (then_ HW4.out (by assumption))⟩
      by_cases he : x.frm = into
      · have heb : (x.frm == into) = true := by simpa using he
        have HE := hid he
        clear he
        have Q2 := hid (show redE r.maps (mkT into least most) l k x = 1 by rw [FE.out]; simp [HE.out])
        repeat' (first | (go_at_call 45; with_reducible refine (d1 _).mono ?_; rintro e w' ⟨rfl, rfl⟩; try dsimp only) | (go_at_call 45; with_reducible refine (d2 _).mono ?_; rintro e w' ⟨rfl, rfl⟩; try dsimp only) | (go_at_call 45; with_reducible refine (d3 _).mono ?_; rintro e w' ⟨rfl, rfl⟩; try dsimp only) | (go_at_call 39; with_reducible refine (dM _ (by assumption)).mono ?_; rintro e w' ⟨rfl, b⟩; have b' := then_ (w := w4) (by assumption) b; clear b; try dsimp only) | go_skip | go_guarded | go_step | go_upon)
        (try simp only [Exit.inBlock, Exit.then]); refine bodyPost_ret (results_tmp (by rfl) _ _ _) (by rfl) ?_
        exact ⟨ret_int (by rw [E.out, D.out]; refine ((firstE_hit (by rw [Q2.out]; simp)).trans ?_).symm; rw [Q2.out]), then_ HX.out (then_ HW4.out (by assumption))⟩
      have heb : (x.frm == into) = false := by simpa using he
      have HE := hid he
      clear he
      cases a2
      case false =>
        have Q2 := hid (show redE r.maps (mkT into least most) l k x = 1 by rw [FE.out]; simp)
        repeat' (first | (go_at_call 45; with_reducible refine (d1 _).mono ?_; rintro e w' ⟨rfl, rfl⟩; try dsimp only) | (go_at_call 45; with_reducible refine (d2 _).mono ?_; rintro e w' ⟨rfl, rfl⟩; try dsimp only) | (go_at_call 45; with_reducible refine (d3 _).mono ?_; rintro e w' ⟨rfl, rfl⟩; try dsimp only) | (go_at_call 39; with_reducible refine (dM _ (by assumption)).mono ?_; rintro e w' ⟨rfl, b⟩; have b' := then_ (w := w4) (by assumption) b; clear b; try dsimp only) | go_skip | go_guarded | go_step | go_upon)
        (try simp only [Exit.inBlock, Exit.then]); refine bodyPost_ret (results_tmp (by rfl) _ _ _) (by rfl) ?_
        exact ⟨ret_int (by rw [E.out, D.out]; refine ((firstE_hit (by rw [Q2.out]; simp)).trans ?_).symm; rw [Q2.out]), then_ HX.out (then_ HW4.out (by assumption))⟩
      cases a3
      case false =>
        have Q2 := hid (show redE r.maps (mkT into least most) l k x = 1 by rw [FE.out]; simp)
        repeat' (first | (go_at_call 45; with_reducible refine (d1 _).mono ?_; rintro e w' ⟨rfl, rfl⟩; try dsimp only) | (go_at_call 45; with_reducible refine (d2 _).mono ?_; rintro e w' ⟨rfl, rfl⟩; try dsimp only) | (go_at_call 45; with_reducible refine (d3 _).mono ?_; rintro e w' ⟨rfl, rfl⟩; try dsimp only) | (go_at_call 39; with_reducible refine (dM _ (by assumption)).mono ?_; rintro e w' ⟨rfl, b⟩; have b' := then_ (w := w4) (by assumption) b; clear b; try dsimp only) | go_skip | go_guarded | go_step | go_upon)
        (try simp only [Exit.inBlock, Exit.then]); refine bodyPost_ret (results_tmp (by rfl) _ _ _) (by rfl) ?_
        exact ⟨ret_int (by rw [E.out, D.out]; refine ((firstE_hit (by rw [Q2.out]; simp)).trans ?_).symm; rw [Q2.out]), then_ HX.out (then_ HW4.out (by assumption))⟩
      by_cases h3 : into = 3
      · have h3b : (into == 3) = true := by simpa using h3
        have h3c : (into != 3) = false := by simpa using h3
        have H3 := hid h3
        clear h3
        by_cases t1 : x.typ = 1
        · have t1b : (x.typ != 1) = false := by simpa using t1
          have T1 := hid t1
          clear t1
          cases si : x.mp.toList.isEmpty with
          | true =>
            have Q3 := hid (show redE r.maps (mkT into least most) l k x = if tk then 4 else 0 by rw [FE.out]; simp only [if_pos H3.out]; unfold unk noS wi; simp [HE.out, T1.out, si])
            repeat' (first | (go_at_call 45; with_reducible refine (d1 _).mono ?_; rintro e w' ⟨rfl, rfl⟩; try dsimp only) | (go_at_call 45; with_reducible refine (d2 _).mono ?_; rintro e w' ⟨rfl, rfl⟩; try dsimp only) | (go_at_call 45; with_reducible refine (d3 _).mono ?_; rintro e w' ⟨rfl, rfl⟩; try dsimp only) | (go_at_call 39; with_reducible refine (dM _ (by assumption)).mono ?_; rintro e w' ⟨rfl, b⟩; have b' := then_ (w := w4) (by assumption) b; clear b; try dsimp only) | go_skip | go_guarded | go_step | go_upon)
            go_loopg [13] k (fun gg s13 wr => ∃ j : Nat, j ≤ k ∧ k - j ≤ gg ∧ s13 = .int .i64 j ∧ Below w4.heap.size w4 wr ∧ Aside (tk = ((l.take k).drop j).any (fun y : Red => decide (y.frm = x.frm))))
            case atStart => exact ⟨0, Nat.zero_le _, by omega, rfl, by assumption, TK.out⟩
            case round =>
              obtain ⟨j, hj, hgj, rfl, hwr2, T⟩ := hrel
              by_cases hjk : j < k
              · have hjki : (j : Int) < (k : Int) := by omega
                have hjn : (j : Int) < (n : Int) := by omega
                have hj0 : (0 : Int) ≤ (j : Int) := by omega
                obtain ⟨y, hy⟩ := get_some (l := l) (k := j) (by have := N.out; omega)
                have hcy := row_cells (f := eRed) (z := 5) (fun _ => rfl) hc hy
                have GS : Below wr.heap.size wr wr := Below.refl _ _
                have uF0 := fun u : Later wr.heap.size wr => FY0 u.w (then_ hwr2 u.h)
                have uY0 : ∀ u : Later wr.heap.size wr, u.w.cell? ⟨b, off + j * zRedist, none⟩ = some (.int .i64 y.frm) := fun u => by rw [ZD.out]; exact ((then_ HW4.out (then_ hwr2 u.h)).cell (p := ⟨b, off + j * 5, none⟩) hb).trans (hcy 0 _ rfl)
                clear hcy
                by_cases hq : y.frm = x.frm
                · have T2 := hid (T.out.trans (any_hit hy hjk (decide_eq_true hq)))
                  have Q2 := hid (show redE r.maps (mkT into least most) l k x = 4 by rw [Q3.out, T2.out]; rfl)
                  have e1 : (y.frm == x.frm) = true := by simpa using hq
                  repeat' (first | go_skip | go_guarded | go_step | go_upon)
                  refine wp_region_base wr (by assumption) (by first | assumption | kernel_rfl) (by kernel_rfl) ?_
                  repeat (go_big_quiet_step (first | fail))
                  refine wpQuiet_nil ?_
                  rintro _ ⟨u, rfl⟩
                  have bu := u.h
                  repeat' (first | go_skip | go_guarded | go_step | go_upon)
                  (try simp only [Exit.inBlock, Exit.then]); refine bodyPost_ret (results_tmp (by rfl) _ _ _) (by rfl) ?_
                  exact ⟨ret_int (by rw [E.out, D.out]; refine ((firstE_hit (by rw [Q2.out]; simp)).trans ?_).symm; rw [Q2.out]), then_ HX.out (then_ HW4.out (then_ hwr2 (by assumption)))⟩
                · have T2 := hid (T.out.trans (any_next hy hjk (decide_eq_false hq)))
                  have e1 : (y.frm == x.frm) = false := by simpa using hq
                  repeat' (first | go_skip | go_guarded | go_step | go_upon)
                  refine wp_region_base wr (by assumption) (by first | assumption | kernel_rfl) (by kernel_rfl) ?_
                  repeat (go_big_quiet_step (first | fail))
                  refine wpQuiet_nil ?_
                  rintro _ ⟨u, rfl⟩
                  have bu := u.h
                  repeat' (first | go_skip | go_guarded | go_step | go_upon)
                  go_roundg (k - (j + 1))
                  case measure => omega
                  case rel => exact ⟨j + 1, by omega, by omega, by go_num, then_ hwr2 (by assumption), T2.out⟩
              · have hjki : ¬ (j : Int) < (k : Int) := by omega
                have T2 := hid (T.out.trans (any_end (by omega)))
                have Q2 := hid (show redE r.maps (mkT into least most) l k x = 0 by rw [Q3.out, T2.out]; rfl)
                repeat' (first | go_skip | go_guarded | go_step | go_upon)
                go_roundg (n - (k + 1))
                case measure => omega
                case rel => exact ⟨k + 1, by omega, by omega, by go_num, then_ HW4.out (by assumption), by show _ = _; rw [E.out, D.out]; exact firstE_next Q2.out⟩
          | false =>
            by_cases ni : qi < 0
            · have Ti : decide (qi < 0) = true := decide_eq_true ni
              have Q2 := hid (show redE r.maps (mkT into least most) l k x = 5 by rw [FE.out]; simp only [if_pos H3.out]; unfold unk noS wi; simp [HE.out, T1.out, si, ni])
              repeat' (first | (go_at_call 45; with_reducible refine (d1 _).mono ?_; rintro e w' ⟨rfl, rfl⟩; try dsimp only) | (go_at_call 45; with_reducible refine (d2 _).mono ?_; rintro e w' ⟨rfl, rfl⟩; try dsimp only) | (go_at_call 45; with_reducible refine (d3 _).mono ?_; rintro e w' ⟨rfl, rfl⟩; try dsimp only) | (go_at_call 39; with_reducible refine (dM _ (by assumption)).mono ?_; rintro e w' ⟨rfl, b⟩; have b' := then_ (w := w4) (by assumption) b; clear b; try dsimp only) | go_skip | go_guarded | go_step | go_upon)
              (try simp only [Exit.inBlock, Exit.then]); refine bodyPost_ret (results_tmp (by rfl) _ _ _) (by rfl) ?_
              exact ⟨ret_int (by rw [E.out, D.out]; refine ((firstE_hit (by rw [Q2.out]; simp)).trans ?_).symm; rw [Q2.out]), then_ HX.out (then_ HW4.out (by assumption))⟩
            · have Ti : decide (qi < 0) = false := decide_eq_false ni
              have Q3 := hid (show redE r.maps (mkT into least most) l k x = if tk then 4 else 0 by rw [FE.out]; simp only [if_pos H3.out]; unfold unk noS wi; simp [HE.out, T1.out, si, ni])
              repeat' (first | (go_at_call 45; with_reducible refine (d1 _).mono ?_; rintro e w' ⟨rfl, rfl⟩; try dsimp only) | (go_at_call 45; with_reducible refine (d2 _).mono ?_; rintro e w' ⟨rfl, rfl⟩; try dsimp only) | (go_at_call 45; with_reducible refine (d3 _).mono ?_; rintro e w' ⟨rfl, rfl⟩; try dsimp only) | (go_at_call 39; with_reducible refine (dM _ (by assumption)).mono ?_; rintro e w' ⟨rfl, b⟩; have b' := then_ (w := w4) (by assumption) b; clear b; try dsimp only) | go_skip | go_guarded | go_step | go_upon)
              go_loopg [13] k (fun gg s13 wr => ∃ j : Nat, j ≤ k ∧ k - j ≤ gg ∧ s13 = .int .i64 j ∧ Below w4.heap.size w4 wr ∧ Aside (tk = ((l.take k).drop j).any (fun y : Red => decide (y.frm = x.frm))))
              case atStart => exact ⟨0, Nat.zero_le _, by omega, rfl, by assumption, TK.out⟩
              case round =>
                obtain ⟨j, hj, hgj, rfl, hwr2, T⟩ := hrel
                by_cases hjk : j < k
                · have hjki : (j : Int) < (k : Int) := by omega
                  have hjn : (j : Int) < (n : Int) := by omega
                  have hj0 : (0 : Int) ≤ (j : Int) := by omega
                  obtain ⟨y, hy⟩ := get_some (l := l) (k := j) (by have := N.out; omega)
                  have hcy := row_cells (f := eRed) (z := 5) (fun _ => rfl) hc hy
                  have GS : Below wr.heap.size wr wr := Below.refl _ _
                  have uF0 := fun u : Later wr.heap.size wr => FY0 u.w (then_ hwr2 u.h)
                  have uY0 : ∀ u : Later wr.heap.size wr, u.w.cell? ⟨b, off + j * zRedist, none⟩ = some (.int .i64 y.frm) := fun u => by rw [ZD.out]; exact ((then_ HW4.out (then_ hwr2 u.h)).cell (p := ⟨b, off + j * 5, none⟩) hb).trans (hcy 0 _ rfl)
                  clear hcy
                  by_cases hq : y.frm = x.frm
                  · have T2 := hid (T.out.trans (any_hit hy hjk (decide_eq_true hq)))
                    have Q2 := hid (show redE r.maps (mkT into least most) l k x = 4 by rw [Q3.out, T2.out]; rfl)
                    have e1 : (y.frm == x.frm) = true := by simpa using hq
                    repeat' (first | go_skip | go_guarded | go_step | go_upon)
                    refine wp_region_base wr (by assumption) (by first | assumption | kernel_rfl) (by kernel_rfl) ?_
                    repeat (go_big_quiet_step (first | fail))
                    refine wpQuiet_nil ?_
                    rintro _ ⟨u, rfl⟩
                    have bu := u.h
                    repeat' (first | go_skip | go_guarded | go_step | go_upon)
                    (try simp only [Exit.inBlock, Exit.then]); refine bodyPost_ret (results_tmp (by rfl) _ _ _) (by rfl) ?_
                    exact ⟨ret_int (by rw [E.out, D.out]; refine ((firstE_hit (by rw [Q2.out]; simp)).trans ?_).symm; rw [Q2.out]), then_ HX.out (then_ HW4.out (then_ hwr2 (by assumption)))⟩
                  · have T2 := hid (T.out.trans (any_next hy hjk (decide_eq_false hq)))
                    have e1 : (y.frm == x.frm) = false := by simpa using hq
                    repeat' (first | go_skip | go_guarded | go_step | go_upon)
                    refine wp_region_base wr (by assumption) (by first | assumption | kernel_rfl) (by kernel_rfl) ?_
                    repeat (go_big_quiet_step (first | fail))
                    refine wpQuiet_nil ?_
                    rintro _ ⟨u, rfl⟩
                    have bu := u.h
                    repeat' (first | go_skip | go_guarded | go_step | go_upon)
                    go_roundg (k - (j + 1))
                    case measure => omega
                    case rel => exact ⟨j + 1, by omega, by omega, by go_num, then_ hwr2 (by assumption), T2.out⟩
                · have hjki : ¬ (j : Int) < (k : Int) := by omega
                  have T2 := hid (T.out.trans (any_end (by omega)))
                  have Q2 := hid (show redE r.maps (mkT into least most) l k x = 0 by rw [Q3.out, T2.out]; rfl)
                  repeat' (first | go_skip | go_guarded | go_step | go_upon)
                  go_roundg (n - (k + 1))
                  case measure => omega
                  case rel => exact ⟨k + 1, by omega, by omega, by go_num, then_ HW4.out (by assumption), by show _ = _; rw [E.out, D.out]; exact firstE_next Q2.out⟩
        · have t1b : (x.typ != 1) = true := by simpa using t1
          have T1 := hid t1
          clear t1
          by_cases t2 : x.typ = 2
          · have t2b : (x.typ != 2) = false := by simpa using t2
            have T2 := hid t2
            clear t2
            cases si : x.mp.toList.isEmpty with
            | true =>
              have Q3 := hid (show redE r.maps (mkT into least most) l k x = if tk then 4 else 0 by rw [FE.out]; simp only [if_pos H3.out]; unfold unk noS wi; simp [HE.out, T2.out, si])
              repeat' (first | (go_at_call 45; with_reducible refine (d1 _).mono ?_; rintro e w' ⟨rfl, rfl⟩; try dsimp only) | (go_at_call 45; with_reducible refine (d2 _).mono ?_; rintro e w' ⟨rfl, rfl⟩; try dsimp only) | (go_at_call 45; with_reducible refine (d3 _).mono ?_; rintro e w' ⟨rfl, rfl⟩; try dsimp only) | (go_at_call 39; with_reducible refine (dM _ (by assumption)).mono ?_; rintro e w' ⟨rfl, b⟩; have b' := then_ (w := w4) (by assumption) b; clear b; try dsimp only) | go_skip | go_guarded | go_step | go_upon)
              go_loopg [13] k (fun gg s13 wr => ∃ j : Nat, j ≤ k ∧ k - j ≤ gg ∧ s13 = .int .i64 j ∧ Below w4.heap.size w4 wr ∧ Aside (tk = ((l.take k).drop j).any (fun y : Red => decide (y.frm = x.frm))))
              case atStart => exact ⟨0, Nat.zero_le _, by omega, rfl, by assumption, TK.out⟩
              case round =>
                obtain ⟨j, hj, hgj, rfl, hwr2, T⟩ := hrel
                by_cases hjk : j < k
                · have hjki : (j : Int) < (k : Int) := by omega
                  have hjn : (j : Int) < (n : Int) := by omega
                  have hj0 : (0 : Int) ≤ (j : Int) := by omega
                  obtain ⟨y, hy⟩ := get_some (l := l) (k := j) (by have := N.out; omega)
                  have hcy := row_cells (f := eRed) (z := 5) (fun _ => rfl) hc hy
                  have GS : Below wr.heap.size wr wr := Below.refl _ _
                  have uF0 := fun u : Later wr.heap.size wr => FY0 u.w (then_ hwr2 u.h)
                  have uY0 : ∀ u : Later wr.heap.size wr, u.w.cell? ⟨b, off + j * zRedist, none⟩ = some (.int .i64 y.frm) := fun u => by rw [ZD.out]; exact ((then_ HW4.out (then_ hwr2 u.h)).cell (p := ⟨b, off + j * 5, none⟩) hb).trans (hcy 0 _ rfl)
                  clear hcy
                  by_cases hq : y.frm = x.frm
                  · have T2 := hid (T.out.trans (any_hit hy hjk (decide_eq_true hq)))
                    have Q2 := hid (show redE r.maps (mkT into least most) l k x = 4 by rw [Q3.out, T2.out]; rfl)
                    have e1 : (y.frm == x.frm) = true := by simpa using hq
                    repeat' (first | go_skip | go_guarded | go_step | go_upon)
                    refine wp_region_base wr (by assumption) (by first | assumption | kernel_rfl) (by kernel_rfl) ?_
                    repeat (go_big_quiet_step (first | fail))
                    refine wpQuiet_nil ?_
                    rintro _ ⟨u, rfl⟩
                    have bu := u.h
                    repeat' (first | go_skip | go_guarded | go_step | go_upon)
                    (try simp only [Exit.inBlock, Exit.then]); refine bodyPost_ret (results_tmp (by rfl) _ _ _) (by rfl) ?_
                    exact ⟨ret_int (by rw [E.out, D.out]; refine ((firstE_hit (by rw [Q2.out]; simp)).trans ?_).symm; rw [Q2.out]), then_ HX.out (then_ HW4.out (then_ hwr2 (by assumption)))⟩
                  · have T2 := hid (T.out.trans (any_next hy hjk (decide_eq_false hq)))
                    have e1 : (y.frm == x.frm) = false := by simpa using hq
                    repeat' (first | go_skip | go_guarded | go_step | go_upon)
                    refine wp_region_base wr (by assumption) (by first | assumption | kernel_rfl) (by kernel_rfl) ?_
                    repeat (go_big_quiet_step (first | fail))
                    refine wpQuiet_nil ?_
                    rintro _ ⟨u, rfl⟩
                    have bu := u.h
                    repeat' (first | go_skip | go_guarded | go_step | go_upon)
                    go_roundg (k - (j + 1))
                    case measure => omega
                    case rel => exact ⟨j + 1, by omega, by omega, by go_num, then_ hwr2 (by assumption), T2.out⟩
                · have hjki : ¬ (j : Int) < (k : Int) := by omega
                  have T2 := hid (T.out.trans (any_end (by omega)))
                  have Q2 := hid (show redE r.maps (mkT into least most) l k x = 0 by rw [Q3.out, T2.out]; rfl)
                  repeat' (first | go_skip | go_guarded | go_step | go_upon)
                  go_roundg (n - (k + 1))
                  case measure => omega
                  case rel => exact ⟨k + 1, by omega, by omega, by go_num, then_ HW4.out (by assumption), by show _ = _; rw [E.out, D.out]; exact firstE_next Q2.out⟩
            | false =>
              by_cases ni : qi < 0
              · have Ti : decide (qi < 0) = true := decide_eq_true ni
                have Q2 := hid (show redE r.maps (mkT into least most) l k x = 5 by rw [FE.out]; simp only [if_pos H3.out]; unfold unk noS wi; simp [HE.out, T2.out, si, ni])
                repeat' (first | (go_at_call 45; with_reducible refine (d1 _).mono ?_; rintro e w' ⟨rfl, rfl⟩; try dsimp only) | (go_at_call 45; with_reducible refine (d2 _).mono ?_; rintro e w' ⟨rfl, rfl⟩; try dsimp only) | (go_at_call 45; with_reducible refine (d3 _).mono ?_; rintro e w' ⟨rfl, rfl⟩; try dsimp only) | (go_at_call 39; with_reducible refine (dM _ (by assumption)).mono ?_; rintro e w' ⟨rfl, b⟩; have b' := then_ (w := w4) (by assumption) b; clear b; try dsimp only) | go_skip | go_guarded | go_step | go_upon)
                (try simp only [Exit.inBlock, Exit.then]); refine bodyPost_ret (results_tmp (by rfl) _ _ _) (by rfl) ?_
                exact ⟨ret_int (by rw [E.out, D.out]; refine ((firstE_hit (by rw [Q2.out]; simp)).trans ?_).symm; rw [Q2.out]), then_ HX.out (then_ HW4.out (by assumption))⟩
              · have Ti : decide (qi < 0) = false := decide_eq_false ni
                have Q3 := hid (show redE r.maps (mkT into least most) l k x = if tk then 4 else 0 by rw [FE.out]; simp only [if_pos H3.out]; unfold unk noS wi; simp [HE.out, T2.out, si, ni])
                repeat' (first | (go_at_call 45; with_reducible refine (d1 _).mono ?_; rintro e w' ⟨rfl, rfl⟩; try dsimp only) | (go_at_call 45; with_reducible refine (d2 _).mono ?_; rintro e w' ⟨rfl, rfl⟩; try dsimp only) | (go_at_call 45; with_reducible refine (d3 _).mono ?_; rintro e w' ⟨rfl, rfl⟩; try dsimp only) | (go_at_call 39; with_reducible refine (dM _ (by assumption)).mono ?_; rintro e w' ⟨rfl, b⟩; have b' := then_ (w := w4) (by assumption) b; clear b; try dsimp only) | go_skip | go_guarded | go_step | go_upon)
                go_loopg [13] k (fun gg s13 wr => ∃ j : Nat, j ≤ k ∧ k - j ≤ gg ∧ s13 = .int .i64 j ∧ Below w4.heap.size w4 wr ∧ Aside (tk = ((l.take k).drop j).any (fun y : Red => decide (y.frm = x.frm))))
                case atStart => exact ⟨0, Nat.zero_le _, by omega, rfl, by assumption, TK.out⟩
                case round =>
                  obtain ⟨j, hj, hgj, rfl, hwr2, T⟩ := hrel
                  by_cases hjk : j < k
                  · have hjki : (j : Int) < (k : Int) := by omega
                    have hjn : (j : Int) < (n : Int) := by omega
                    have hj0 : (0 : Int) ≤ (j : Int) := by omega
                    obtain ⟨y, hy⟩ := get_some (l := l) (k := j) (by have := N.out; omega)
                    have hcy := row_cells (f := eRed) (z := 5) (fun _ => rfl) hc hy
                    have GS : Below wr.heap.size wr wr := Below.refl _ _
                    have uF0 := fun u : Later wr.heap.size wr => FY0 u.w (then_ hwr2 u.h)
                    have uY0 : ∀ u : Later wr.heap.size wr, u.w.cell? ⟨b, off + j * zRedist, none⟩ = some (.int .i64 y.frm) := fun u => by rw [ZD.out]; exact ((then_ HW4.out (then_ hwr2 u.h)).cell (p := ⟨b, off + j * 5, none⟩) hb).trans (hcy 0 _ rfl)
                    clear hcy
                    by_cases hq : y.frm = x.frm
                    · have T2 := hid (T.out.trans (any_hit hy hjk (decide_eq_true hq)))
                      have Q2 := hid (show redE r.maps (mkT into least most) l k x = 4 by rw [Q3.out, T2.out]; rfl)
                      have e1 : (y.frm == x.frm) = true := by simpa using hq
                      repeat' (first | go_skip | go_guarded | go_step | go_upon)
                      refine wp_region_base wr (by assumption) (by first | assumption | kernel_rfl) (by kernel_rfl) ?_
                      repeat (go_big_quiet_step (first | fail))
                      refine wpQuiet_nil ?_
                      rintro _ ⟨u, rfl⟩
                      have bu := u.h
                      repeat' (first | go_skip | go_guarded | go_step | go_upon)
                      (try simp only [Exit.inBlock, Exit.then]); refine bodyPost_ret (results_tmp (by rfl) _ _ _) (by rfl) ?_
                      exact ⟨ret_int (by rw [E.out, D.out]; refine ((firstE_hit (by rw [Q2.out]; simp)).trans ?_).symm; rw [Q2.out]), then_ HX.out (then_ HW4.out (then_ hwr2 (by assumption)))⟩
                    · have T2 := hid (T.out.trans (any_next hy hjk (decide_eq_false hq)))
                      have e1 : (y.frm == x.frm) = false := by simpa using hq
                      repeat' (first | go_skip | go_guarded | go_step | go_upon)
                      refine wp_region_base wr (by assumption) (by first | assumption | kernel_rfl) (by kernel_rfl) ?_
                      repeat (go_big_quiet_step (first | fail))
                      refine wpQuiet_nil ?_
                      rintro _ ⟨u, rfl⟩
                      have bu := u.h
                      repeat' (first | go_skip | go_guarded | go_step | go_upon)
                      go_roundg (k - (j + 1))
                      case measure => omega
                      case rel => exact ⟨j + 1, by omega, by omega, by go_num, then_ hwr2 (by assumption), T2.out⟩
                  · have hjki : ¬ (j : Int) < (k : Int) := by omega
                    have T2 := hid (T.out.trans (any_end (by omega)))
                    have Q2 := hid (show redE r.maps (mkT into least most) l k x = 0 by rw [Q3.out, T2.out]; rfl)
                    repeat' (first | go_skip | go_guarded | go_step | go_upon)
                    go_roundg (n - (k + 1))
                    case measure => omega
                    case rel => exact ⟨k + 1, by omega, by omega, by go_num, then_ HW4.out (by assumption), by show _ = _; rw [E.out, D.out]; exact firstE_next Q2.out⟩
          · have t2b : (x.typ != 2) = true := by simpa using t2
            have T2 := hid t2
            clear t2
            have Q2 := hid (show redE r.maps (mkT into least most) l k x = 1 by rw [FE.out]; simp only [if_pos H3.out]; have p1 := T1.out; have p2 := T2.out; unfold wi; simp [HE.out]; omega)
            repeat' (first | (go_at_call 45; with_reducible refine (d1 _).mono ?_; rintro e w' ⟨rfl, rfl⟩; try dsimp only) | (go_at_call 45; with_reducible refine (d2 _).mono ?_; rintro e w' ⟨rfl, rfl⟩; try dsimp only) | (go_at_call 45; with_reducible refine (d3 _).mono ?_; rintro e w' ⟨rfl, rfl⟩; try dsimp only) | (go_at_call 39; with_reducible refine (dM _ (by assumption)).mono ?_; rintro e w' ⟨rfl, b⟩; have b' := then_ (w := w4) (by assumption) b; clear b; try dsimp only) | go_skip | go_guarded | go_step | go_upon)
            (try simp only [Exit.inBlock, Exit.then]); refine bodyPost_ret (results_tmp (by rfl) _ _ _) (by rfl) ?_
            exact ⟨ret_int (by rw [E.out, D.out]; refine ((firstE_hit (by rw [Q2.out]; simp)).trans ?_).symm; rw [Q2.out]), then_ HX.out (then_ HW4.out (by assumption))⟩
      · have h3b : (into == 3) = false := by simpa using h3
        have h3c : (into != 3) = true := by simpa using h3
        have H3 := hid h3
        clear h3
        by_cases t0 : x.typ = 0
        · have t0b : (x.typ != 0) = false := by simpa using t0
          have T0 := hid t0
          clear t0
          cases si : x.mp.toList.isEmpty with
          | true =>
            have Q3 := hid (show redE r.maps (mkT into least most) l k x = if tk then 4 else 0 by rw [FE.out]; simp only [if_neg H3.out]; unfold unk noS wi; simp [HE.out, T0.out, si])
            repeat' (first | (go_at_call 45; with_reducible refine (d1 _).mono ?_; rintro e w' ⟨rfl, rfl⟩; try dsimp only) | (go_at_call 45; with_reducible refine (d2 _).mono ?_; rintro e w' ⟨rfl, rfl⟩; try dsimp only) | (go_at_call 45; with_reducible refine (d3 _).mono ?_; rintro e w' ⟨rfl, rfl⟩; try dsimp only) | (go_at_call 39; with_reducible refine (dM _ (by assumption)).mono ?_; rintro e w' ⟨rfl, b⟩; have b' := then_ (w := w4) (by assumption) b; clear b; try dsimp only) | go_skip | go_guarded | go_step | go_upon)
            go_loopg [13] k (fun gg s13 wr => ∃ j : Nat, j ≤ k ∧ k - j ≤ gg ∧ s13 = .int .i64 j ∧ Below w4.heap.size w4 wr ∧ Aside (tk = ((l.take k).drop j).any (fun y : Red => decide (y.frm = x.frm))))
            case atStart => exact ⟨0, Nat.zero_le _, by omega, rfl, by assumption, TK.out⟩
            case round =>
              obtain ⟨j, hj, hgj, rfl, hwr2, T⟩ := hrel
              by_cases hjk : j < k
              · have hjki : (j : Int) < (k : Int) := by omega
                have hjn : (j : Int) < (n : Int) := by omega
                have hj0 : (0 : Int) ≤ (j : Int) := by omega
                obtain ⟨y, hy⟩ := get_some (l := l) (k := j) (by have := N.out; omega)
                have hcy := row_cells (f := eRed) (z := 5) (fun _ => rfl) hc hy
                have GS : Below wr.heap.size wr wr := Below.refl _ _
                have uF0 := fun u : Later wr.heap.size wr => FY0 u.w (then_ hwr2 u.h)
                have uY0 : ∀ u : Later wr.heap.size wr, u.w.cell? ⟨b, off + j * zRedist, none⟩ = some (.int .i64 y.frm) := fun u => by rw [ZD.out]; exact ((then_ HW4.out (then_ hwr2 u.h)).cell (p := ⟨b, off + j * 5, none⟩) hb).trans (hcy 0 _ rfl)
                clear hcy
                by_cases hq : y.frm = x.frm
                · have T2 := hid (T.out.trans (any_hit hy hjk (decide_eq_true hq)))
                  have Q2 := hid (show redE r.maps (mkT into least most) l k x = 4 by rw [Q3.out, T2.out]; rfl)
                  have e1 : (y.frm == x.frm) = true := by simpa using hq
                  repeat' (first | go_skip | go_guarded | go_step | go_upon)
                  refine wp_region_base wr (by assumption) (by first | assumption | kernel_rfl) (by kernel_rfl) ?_
                  repeat (go_big_quiet_step (first | fail))
                  refine wpQuiet_nil ?_
                  rintro _ ⟨u, rfl⟩
                  have bu := u.h
                  repeat' (first | go_skip | go_guarded | go_step | go_upon)
                  (try simp only [Exit.inBlock, Exit.then]); refine bodyPost_ret (results_tmp (by rfl) _ _ _) (by rfl) ?_
                  exact ⟨ret_int (by rw [E.out, D.out]; refine ((firstE_hit (by rw [Q2.out]; simp)).trans ?_).symm; rw [Q2.out]), then_ HX.out (then_ HW4.out (then_ hwr2 (by assumption)))⟩
                · have T2 := hid (T.out.trans (any_next hy hjk (decide_eq_false hq)))
                  have e1 : (y.frm == x.frm) = false := by simpa using hq
                  repeat' (first | go_skip | go_guarded | go_step | go_upon)
                  refine wp_region_base wr (by assumption) (by first | assumption | kernel_rfl) (by kernel_rfl) ?_
                  repeat (go_big_quiet_step (first | fail))
                  refine wpQuiet_nil ?_
                  rintro _ ⟨u, rfl⟩
                  have bu := u.h
                  repeat' (first | go_skip | go_guarded | go_step | go_upon)
                  go_roundg (k - (j + 1))
                  case measure => omega
                  case rel => exact ⟨j + 1, by omega, by omega, by go_num, then_ hwr2 (by assumption), T2.out⟩
              · have hjki : ¬ (j : Int) < (k : Int) := by omega
                have T2 := hid (T.out.trans (any_end (by omega)))
                have Q2 := hid (show redE r.maps (mkT into least most) l k x = 0 by rw [Q3.out, T2.out]; rfl)
                repeat' (first | go_skip | go_guarded | go_step | go_upon)
                go_roundg (n - (k + 1))
                case measure => omega
                case rel => exact ⟨k + 1, by omega, by omega, by go_num, then_ HW4.out (by assumption), by show _ = _; rw [E.out, D.out]; exact firstE_next Q2.out⟩
          | false =>
            by_cases ni : qi < 0
            · have Ti : decide (qi < 0) = true := decide_eq_true ni
              have Q2 := hid (show redE r.maps (mkT into least most) l k x = 5 by rw [FE.out]; simp only [if_neg H3.out]; unfold unk noS wi; simp [HE.out, T0.out, si, ni])
              repeat' (first | (go_at_call 45; with_reducible refine (d1 _).mono ?_; rintro e w' ⟨rfl, rfl⟩; try dsimp only) | (go_at_call 45; with_reducible refine (d2 _).mono ?_; rintro e w' ⟨rfl, rfl⟩; try dsimp only) | (go_at_call 45; with_reducible refine (d3 _).mono ?_; rintro e w' ⟨rfl, rfl⟩; try dsimp only) | (go_at_call 39; with_reducible refine (dM _ (by assumption)).mono ?_; rintro e w' ⟨rfl, b⟩; have b' := then_ (w := w4) (by assumption) b; clear b; try dsimp only) | go_skip | go_guarded | go_step | go_upon)
              (try simp only [Exit.inBlock, Exit.then]); refine bodyPost_ret (results_tmp (by rfl) _ _ _) (by rfl) ?_
              exact ⟨ret_int (by rw [E.out, D.out]; refine ((firstE_hit (by rw [Q2.out]; simp)).trans ?_).symm; rw [Q2.out]), then_ HX.out (then_ HW4.out (by assumption))⟩
            · have Ti : decide (qi < 0) = false := decide_eq_false ni
              have Q3 := hid (show redE r.maps (mkT into least most) l k x = if tk then 4 else 0 by rw [FE.out]; simp only [if_neg H3.out]; unfold unk noS wi; simp [HE.out, T0.out, si, ni])
              repeat' (first | (go_at_call 45; with_reducible refine (d1 _).mono ?_; rintro e w' ⟨rfl, rfl⟩; try dsimp only) | (go_at_call 45; with_reducible refine (d2 _).mono ?_; rintro e w' ⟨rfl, rfl⟩; try dsimp only) | (go_at_call 45; with_reducible refine (d3 _).mono ?_; rintro e w' ⟨rfl, rfl⟩; try dsimp only) | (go_at_call 39; with_reducible refine (dM _ (by assumption)).mono ?_; rintro e w' ⟨rfl, b⟩; have b' := then_ (w := w4) (by assumption) b; clear b; try dsimp only) | go_skip | go_guarded | go_step | go_upon)
              go_loopg [13] k (fun gg s13 wr => ∃ j : Nat, j ≤ k ∧ k - j ≤ gg ∧ s13 = .int .i64 j ∧ Below w4.heap.size w4 wr ∧ Aside (tk = ((l.take k).drop j).any (fun y : Red => decide (y.frm = x.frm))))
              case atStart => exact ⟨0, Nat.zero_le _, by omega, rfl, by assumption, TK.out⟩
              case round =>
                obtain ⟨j, hj, hgj, rfl, hwr2, T⟩ := hrel
                by_cases hjk : j < k
                · have hjki : (j : Int) < (k : Int) := by omega
                  have hjn : (j : Int) < (n : Int) := by omega
                  have hj0 : (0 : Int) ≤ (j : Int) := by omega
                  obtain ⟨y, hy⟩ := get_some (l := l) (k := j) (by have := N.out; omega)
                  have hcy := row_cells (f := eRed) (z := 5) (fun _ => rfl) hc hy
                  have GS : Below wr.heap.size wr wr := Below.refl _ _
                  have uF0 := fun u : Later wr.heap.size wr => FY0 u.w (then_ hwr2 u.h)
                  have uY0 : ∀ u : Later wr.heap.size wr, u.w.cell? ⟨b, off + j * zRedist, none⟩ = some (.int .i64 y.frm) := fun u => by rw [ZD.out]; exact ((then_ HW4.out (then_ hwr2 u.h)).cell (p := ⟨b, off + j * 5, none⟩) hb).trans (hcy 0 _ rfl)
                  clear hcy
                  by_cases hq : y.frm = x.frm
                  · have T2 := hid (T.out.trans (any_hit hy hjk (decide_eq_true hq)))
                    have Q2 := hid (show redE r.maps (mkT into least most) l k x = 4 by rw [Q3.out, T2.out]; rfl)
                    have e1 : (y.frm == x.frm) = true := by simpa using hq
                    repeat' (first | go_skip | go_guarded | go_step | go_upon)
                    refine wp_region_base wr (by assumption) (by first | assumption | kernel_rfl) (by kernel_rfl) ?_
                    repeat (go_big_quiet_step (first | fail))
                    refine wpQuiet_nil ?_
                    rintro _ ⟨u, rfl⟩
                    have bu := u.h
                    repeat' (first | go_skip | go_guarded | go_step | go_upon)
                    (try simp only [Exit.inBlock, Exit.then]); refine bodyPost_ret (results_tmp (by rfl) _ _ _) (by rfl) ?_
                    exact ⟨ret_int (by rw [E.out, D.out]; refine ((firstE_hit (by rw [Q2.out]; simp)).trans ?_).symm; rw [Q2.out]), then_ HX.out (then_ HW4.out (then_ hwr2 (by assumption)))⟩
                  · have T2 := hid (T.out.trans (any_next hy hjk (decide_eq_false hq)))
                    have e1 : (y.frm == x.frm) = false := by simpa using hq
                    repeat' (first | go_skip | go_guarded | go_step | go_upon)
                    refine wp_region_base wr (by assumption) (by first | assumption | kernel_rfl) (by kernel_rfl) ?_
                    repeat (go_big_quiet_step (first | fail))
                    refine wpQuiet_nil ?_
                    rintro _ ⟨u, rfl⟩
                    have bu := u.h
                    repeat' (first | go_skip | go_guarded | go_step | go_upon)
                    go_roundg (k - (j + 1))
                    case measure => omega
                    case rel => exact ⟨j + 1, by omega, by omega, by go_num, then_ hwr2 (by assumption), T2.out⟩
                · have hjki : ¬ (j : Int) < (k : Int) := by omega
                  have T2 := hid (T.out.trans (any_end (by omega)))
                  have Q2 := hid (show redE r.maps (mkT into least most) l k x = 0 by rw [Q3.out, T2.out]; rfl)
                  repeat' (first | go_skip | go_guarded | go_step | go_upon)
                  go_roundg (n - (k + 1))
                  case measure => omega
                  case rel => exact ⟨k + 1, by omega, by omega, by go_num, then_ HW4.out (by assumption), by show _ = _; rw [E.out, D.out]; exact firstE_next Q2.out⟩
        · have t0b : (x.typ != 0) = true := by simpa using t0
          have T0 := hid t0
          clear t0
          have Q2 := hid (show redE r.maps (mkT into least most) l k x = 1 by rw [FE.out]; simp only [if_neg H3.out]; have p1 := T0.out; unfold wi; simp [HE.out]; omega)
          repeat' (first | (go_at_call 45; with_reducible refine (d1 _).mono ?_; rintro e w' ⟨rfl, rfl⟩; try dsimp only) | (go_at_call 45; with_reducible refine (d2 _).mono ?_; rintro e w' ⟨rfl, rfl⟩; try dsimp only) | (go_at_call 45; with_reducible refine (d3 _).mono ?_; rintro e w' ⟨rfl, rfl⟩; try dsimp only) | (go_at_call 39; with_reducible refine (dM _ (by assumption)).mono ?_; rintro e w' ⟨rfl, b⟩; have b' := then_ (w := w4) (by assumption) b; clear b; try dsimp only) | go_skip | go_guarded | go_step | go_upon)
          (try simp only [Exit.inBlock, Exit.then]); refine bodyPost_ret (results_tmp (by rfl) _ _ _) (by rfl) ?_
          exact ⟨ret_int (by rw [E.out, D.out]; refine ((firstE_hit (by rw [Q2.out]; simp)).trans ?_).symm; rw [Q2.out]), then_ HX.out (then_ HW4.out (by assumption))⟩
    · have hlti : ¬ (k : Int) < (n : Int) := by omega
      repeat' (first | go_skip | go_guarded | go_step | go_upon)
      go_ret
      exact ⟨ret_int (by rw [E.out, drop_end (by have := N.out; omega)]; rfl), then_ HX.out (by assumption)⟩
end Go.Proofs.Ytlhbfpapmolohaa.Mw
