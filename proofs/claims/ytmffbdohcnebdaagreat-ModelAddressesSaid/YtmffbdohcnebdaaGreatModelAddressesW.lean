/-
  THE WALK OF THE LAW ModelAddresses.
-/
import Derived.Test.YtmffbdohcnebdaaGreatModelPartsW
import Derived.Test.YtmffbdohcnebdaaGreatModAd
import Derived.Test.YtmffbdohcnebdaaGreatModC
namespace Go.Proofs.YtmffbdohcnebdaaGreat.Mw
set_option linter.unusedSimpArgs false
set_option linter.unusedVariables false
open Go.RowKit Kt Mm Mp Am

set_option maxHeartbeats 16000000 in
set_option maxRecDepth 4000 in
theorem walkModelAddresses (u : Value) (l : List Rtr) (x : Nat) (W : World) (hn : NetIn W u l) (hx : low x) :
    Calls Tryz.prog 10 #[.agg #[u], .int .u32 (x : Int)] W fun e w' => e = .returned (.bool true) ∧ Below W.heap.size W w' := by
  have hSn := fun wx => saneC wx
  have hSl := fun wx (r : Rtr) (h : RtrIn wx r) => smallC r wx h
  have hCk := fun wx (h : NetIn wx u l) => checkN u l wx h
  have hNt := fun wx (y : Ifc) (h : low y.addr) => Ad.refNetwork y.addr y.len wx h
  have hCt := fun wx (a : Nat) (n : Int) => Ad.refContains a n x wx hx
  have hAd := fun wx (r : Rtr) (t : Nat) (h : RtrIn wx r) => lkAdr (eRtr r).toArray r.vIfs r.ifs t wx rfl h.ifs.row h.ifs.len
  obtain ⟨e0, he0⟩ : ∃ e, e = netwE l := ⟨_, rfl⟩
  rw [← he0] at hCk
  have E := hid he0
  obtain ⟨ad, cap, hu, hcap, hcell⟩ := rows_open (z := 25) (by decide) hn.row.row
  obtain ⟨n, hnl⟩ : ∃ n, n = l.length := ⟨_, rfl⟩
  have hlen := hn.row.len
  rw [← hnl] at hu hcap hlen
  have N := hid hnl
  have HN := hid (show NetIn W (.slice ad n cap) l by rw [← hu]; exact hn)
  rw [hu] at hCk ⊢
  obtain ⟨w1, hw1⟩ : ∃ w1, W.alloc (.cells #[.slice ad n cap] 48) = w1 := ⟨_, rfl⟩
  have hhB : w1.heap[W.heap.size]? = some (.cells #[.slice ad n cap] 48 (0, 0)) := by rw [← hw1, heap_new]
  have HB := hid (show Below W.heap.size W w1 by rw [← hw1]; exact new_below _ _)
  have G1 : Below w1.heap.size w1 w1 := Below.refl _ _
  have FB : ∀ v : World, Below w1.heap.size w1 v → v.cell? ⟨W.heap.size, 0, none⟩ = some (.slice ad n cap) := fun v h => box_at (blk_keep hhB h) rfl
  have LB0 : ∀ v : World, Below w1.heap.size w1 v → Sem.run Tryz.prog (loadCellsFrom ⟨W.heap.size, 0, none⟩ 0 1 #[]) v = .ok #[.slice ad n cap] v := fun v h => ld_box _ (blk_keep hhB h) rfl
  have r1 := fun wx (h : Below w1.heap.size w1 wx) => hCk wx (HN.out.keep (then_ HB.out h))
  clear hn hu hnl he0 hcell hCk hhB hx
  obtain ⟨P, hP⟩ : ∃ P, P = Tryz.prog := ⟨_, rfl⟩
  have HP := hid hP
  have mixed : P.follows .mixedOrders = true := by rw [hP]; kernel_rfl
  have FG : P.funcs[10]? = some Tryz.f10 := by rw [hP]; exact Tryz.func10
  obtain ⟨zRouter, hzRouter⟩ : ∃ z, z = 25 := ⟨_, rfl⟩
  have nzRouter : ¬ zRouter = 0 := by omega
  obtain ⟨zInterface, hzInterface⟩ : ∃ z, z = 12 := ⟨_, rfl⟩
  have nzInterface : ¬ zInterface = 0 := by omega
  have ty3 := Tryz.underlying3; have ag3 := Tryz.isAgg3; have sz3 := Tryz.sizeOf3; have ru3 := Tryz.runUnderlying3
  have ty4 := Tryz.underlying4; have ag4 := Tryz.isAgg4; have sz4 := Tryz.sizeOf4; have ru4 := Tryz.runUnderlying4
  have ty22 := Tryz.underlying22; have ag22 := Tryz.isAgg22; have sz22 := Tryz.sizeOf22; have ru22 := Tryz.runUnderlying22
  have ty41 := Tryz.underlying41; have ag41 := Tryz.isAgg41; have sz41 := Tryz.sizeOf41; have ru41 := Tryz.runUnderlying41
  rw [← hzRouter] at sz41
  have ty43 := Tryz.underlying43; have ag43 := Tryz.isAgg43; have sz43 := Tryz.sizeOf43; have ru43 := Tryz.runUnderlying43
  have ty46 := Tryz.underlying46; have ag46 := Tryz.isAgg46; have sz46 := Tryz.sizeOf46; have ru46 := Tryz.runUnderlying46
  have ty48 := Tryz.underlying48; have ag48 := Tryz.isAgg48; have sz48 := Tryz.sizeOf48; have ru48 := Tryz.runUnderlying48
  have ty52 := Tryz.underlying52; have ag52 := Tryz.isAgg52; have sz52 := Tryz.sizeOf52; have ru52 := Tryz.runUnderlying52
  have ty54 := Tryz.underlying54; have ag54 := Tryz.isAgg54; have sz54 := Tryz.sizeOf54; have ru54 := Tryz.runUnderlying54
  rw [← hzInterface] at sz54
  have zeInterface := Tryz.zeroValue54
  have ty57 := Tryz.underlying57; have ag57 := Tryz.isAgg57; have sz57 := Tryz.sizeOf57; have ru57 := Tryz.runUnderlying57
  have en0 : ∀ args w, (callFunc 30 args).run Tryz.prog w = .ok (.enter 30 args) w := enters_of Tryz.func30 (by kernel_rfl) rfl
  have en1 : ∀ args w, (callFunc 15 args).run Tryz.prog w = .ok (.enter 15 args) w := enters_of Tryz.func15 (by kernel_rfl) rfl
  have en2 : ∀ args w, (callFunc 11 args).run Tryz.prog w = .ok (.enter 11 args) w := enters_of Tryz.func11 (by kernel_rfl) rfl
  have en3 : ∀ args w, (callFunc 14 args).run Tryz.prog w = .ok (.enter 14 args) w := enters_of Tryz.func14 (by kernel_rfl) rfl
  have en4 : ∀ args w, (callFunc 32 args).run Tryz.prog w = .ok (.enter 32 args) w := enters_of Tryz.func32 (by kernel_rfl) rfl
  have en5 : ∀ args w, (callFunc 33 args).run Tryz.prog w = .ok (.enter 33 args) w := enters_of Tryz.func33 (by kernel_rfl) rfl
  rw [← hP] at ty3 ag3 sz3 ru3 ty4 ag4 sz4 ru4 ty22 ag22 sz22 ru22 ty41 ag41 sz41 ru41 ty43 ag43 sz43 ru43 ty46 ag46 sz46 ru46 ty48 ag48 sz48 ru48 ty52 ag52 sz52 ru52 ty54 ag54 sz54 ru54 zeInterface ty57 ag57 sz57 ru57 en0 en1 en2 en3 en4 en5 hSn hSl r1 hNt hCt hAd LB0 ⊢
  clear hP
  have ZR := hid hzRouter
  have ZI := hid hzInterface
  clear hzRouter hzInterface
  by_cases h8 : 8 < n
  · have h8i : (8 : Int) < (n : Int) := by omega
    go_enter FG, Tryz.ntmps10
    repeat' (first | go_skip | go_guarded | go_step | go_upon)
    go_ret
    exact ⟨rfl, HB.out⟩
  have h8i : ¬ (8 : Int) < (n : Int) := by omega
  go_enter FG, Tryz.ntmps10
  repeat' (first | go_skip | go_guarded | go_step | go_upon)
  clear h8 h8i
  go_loopg [5] n (fun gg s5 wr => ∃ i : Nat, i ≤ n ∧ n - i ≤ gg ∧ s5 = .int .i64 i ∧ Below w1.heap.size w1 wr)
  case atStart => exact ⟨0, Nat.zero_le _, by omega, rfl, by assumption⟩
  case round =>
    obtain ⟨i, hi, hg, rfl, hwr⟩ := hrel
    have fb := FB wr hwr
    by_cases hlt : i < n
    · have hlti : (i : Int) < (n : Int) := by omega
      have hk0 : (0 : Int) ≤ (i : Int) := by omega
      obtain ⟨r, hx⟩ := get_some (l := l) (k := i) (by have := N.out; omega)
      have HR := (HN.out.each r (get_mem hx)).keep (then_ HB.out hwr)
      obtain ⟨b, off, cap', hv, -, -, -⟩ := row_addr (z := 25) (by decide) HN.out.row.row hx
      injection hv with e1 e2 e3
      subst e1
      clear e2 e3
      have LR : Sem.run P (loadCellsFrom ⟨b, off + i * zRouter, none⟩ 0 zRouter #[]) wr = .ok (eRtr r).toArray wr := by
        rw [ZR.out]; exact ld_at (f := eRtr) (z := 25) P (fun _ => rfl) (HN.out.keep (then_ HB.out hwr)).row.row rfl hx
      have cS := hSl wr r HR
      obtain ⟨X, hX⟩ : ∃ X, X = (eRtr r).toArray := ⟨_, rfl⟩
      obtain ⟨sb, hsb⟩ : ∃ b, b = smallB r := ⟨_, rfl⟩
      rw [← hX] at LR cS
      rw [← hsb] at cS
      have SB := hid hsb
      clear hx hX HR hsb
      cases sb
      case false =>
        repeat' (first | (go_at_call 11; with_reducible refine (cS).mono ?_; rintro e w' ⟨rfl, b⟩; have b' := then_ (w := w1) (by assumption) b; clear b; try dsimp only) | go_skip | go_guarded | go_step | go_upon)
        go_ret
        exact ⟨rfl, then_ HB.out (by assumption)⟩
      case true =>
        repeat' (first | (go_at_call 11; with_reducible refine (cS).mono ?_; rintro e w' ⟨rfl, b⟩; have b' := then_ (w := w1) (by assumption) b; clear b; try dsimp only) | go_skip | go_guarded | go_step | go_upon)
        go_roundg (n - (i + 1))
        case measure => omega
        case rel => exact ⟨i + 1, by omega, by omega, by go_num, by assumption⟩
    · have hlti : ¬ (i : Int) < (n : Int) := by omega
      by_cases h0 : e0 = 0
      · subst h0
        repeat' (first | (go_at_call 15; with_reducible refine (r1 _ (by assumption)).mono ?_; rintro e w' ⟨rfl, b⟩; have b' := then_ (w := w1) (by assumption) b; clear b; try dsimp only) | go_skip | go_guarded | go_step | go_upon)
        clear r1
        go_loopg [6] n (fun gg s6 wr => ∃ i : Nat, i ≤ n ∧ n - i ≤ gg ∧ s6 = .int .i64 i ∧ Below w1.heap.size w1 wr)
        case atStart => exact ⟨0, Nat.zero_le _, by omega, rfl, by assumption⟩
        case round =>
          obtain ⟨i, hi, hg, rfl, hwr⟩ := hrel
          have fb := FB wr hwr
          by_cases hlt : i < n
          · have hlti : (i : Int) < (n : Int) := by omega
            have hi0 : (0 : Int) ≤ (i : Int) := by omega
            obtain ⟨r, hr⟩ := get_some (l := l) (k := i) (by have := N.out; omega)
            have HRR := hid hr
            have HR := hid ((HN.out.each r (get_mem hr)).keep (then_ HB.out hwr))
            obtain ⟨b, off, cap', hv, -, hbW, hcl⟩ := row_addr (z := 25) (by decide) HN.out.row.row hr
            injection hv with e1 e2 e3
            subst e1
            clear e2 e3
            obtain ⟨a2, c2, hv2, hc2, -⟩ := rows_open (z := 12) (by decide) HR.out.ifs.row
            obtain ⟨m, hm⟩ : ∃ m, m = r.ifs.length := ⟨_, rfl⟩
            rw [← hm] at hv2 hc2
            have M := hid hm
            have hlm := HR.out.ifs.len
            rw [← hm] at hlm
            have FV : ∀ v : World, Below w1.heap.size w1 v → v.cell? ⟨b, off + i * zRouter + 2, none⟩ = some (.slice a2 m c2) := fun v h => by
              have h2 := row_cells (f := eRtr) (z := 25) (fun _ => rfl) hcl hr 2 _ rfl
              rw [ZR.out, ← hv2]
              exact ((then_ HB.out h).cell (p := ⟨b, off + i * 25 + 2, none⟩) hbW).trans h2
            have V2 := hid hv2
            clear hr hcl hm hv2
            have fv := FV wr hwr
            repeat' (first | go_skip | go_guarded | go_step | go_upon)
            go_loopg [7, 8] m (fun gg s7 s8 wr => ∃ k c : Nat, k ≤ m ∧ m - k ≤ gg ∧ s8 = .int .i64 k ∧ s7 = .int .i64 c ∧ Aside (c ≤ 1 ∧ (c = 1 → ∃ (p : Nat) (z : Ifc), p < k ∧ r.ifs[p]? = some z ∧ ¬ z.len = 0 ∧ holdsP z x = true)) ∧ Below w1.heap.size w1 wr)
            case atStart => exact ⟨0, 0, Nat.zero_le _, by omega, rfl, rfl, ⟨by omega, fun h => by omega⟩, by assumption⟩
            case round =>
              obtain ⟨k, c, hk, hg2, rfl, rfl, hc, hwr⟩ := hrel
              have fb := FB wr hwr
              have fv := FV wr hwr
              by_cases hkm : k < m
              · have hkmi : (k : Int) < (m : Int) := by omega
                have hk0 : (0 : Int) ≤ (k : Int) := by omega
                obtain ⟨y, hy⟩ := get_some (l := r.ifs) (k := k) (by have := M.out; omega)
                have HY := hid hy
                have hlow := hid (HR.out.ifsA y (get_mem hy))
                have HRw := hid (((HN.out.each r (get_mem HRR.out)).keep (then_ HB.out hwr)))
                obtain ⟨b2, off2, cap2, hv, -, -, -⟩ := row_addr (z := 12) (by decide) HR.out.ifs.row hy
                rw [V2.out] at hv
                injection hv with e1 e2 e3
                subst e1
                clear e2 e3
                have LI : Sem.run P (loadCellsFrom ⟨b2, off2 + k * zInterface, none⟩ 0 zInterface #[]) wr = .ok (eIfc y).toArray wr := by
                  rw [ZI.out]; exact ld_at (f := eIfc) (z := 12) P (fun _ => rfl) HRw.out.ifs.row V2.out hy
                obtain ⟨Y, hY⟩ : ∃ Y, Y = (eIfc y).toArray := ⟨_, rfl⟩
                have hYs : Y.size = 12 := by rw [hY]; rfl
                have hY1 := hid (show Y.all (·.oneCell') = true by rw [hY]; simp [eIfc, one_str, one_int, one_bool])
                have hY2 : Y[1]? = some (.int .u32 (y.addr : Int)) := by rw [hY]; rfl
                have hY3 : Y[2]? = some (.int .i64 y.len) := by rw [hY]; rfl
                rw [← hY] at LI
                clear hy hY
                repeat' ((fail_if_success with_reducible show Hid _); (first | ((with_reducible show Oper.wp _ ⟨_, .store 54 _ _, _, _, _, _⟩ _ _ _ _); refine stopHere ?_) | go_skip | go_guarded | go_step | go_upon))
                refine wp_store_box (w := wr.alloc (.cells zeroI 54)) 54 _ _ (by rfl) (g := wr.heap.size) (cur := zeroI) (X := Y) (by rfl) (by rfl) (by intro v; rw [hYs, ← ZI.out]; first | exact sz54 v | assumption) (heap_new _ _) (by rw [hYs]; rfl) hY1.out ?_
                intro w4 h1 h2 h3
                have HB4 := hid (show Below wr.heap.size wr w4 from (al1 wr _).trans (h3 _ (Nat.le_refl _)))
                have HW4 := hid (then_ (show Below w1.heap.size w1 wr from hwr) HB4.out)
                have G4 : Below w4.heap.size w4 w4 := Below.refl _ _
                have FY1 : ∀ v : World, Below w4.heap.size w4 v → v.cell? ⟨wr.heap.size, 1, none⟩ = some (.int .u32 (y.addr : Int)) := fun v h => box_at (blk_keep h1 h) hY2
                have FY2 : ∀ v : World, Below w4.heap.size w4 v → v.cell? ⟨wr.heap.size, 2, none⟩ = some (.int .i64 y.len) := fun v h => box_at (blk_keep h1 h) hY3
                have FB4 := fun (v : World) (h : Below w4.heap.size w4 v) => FB v (then_ HW4.out h)
                clear h1 h2 h3 LI hYs hY2 hY3 fb fv
                by_cases hz : y.len = 0
                · have hzb : (y.len == 0) = true := by simpa using hz
                  repeat' (first | go_skip | go_guarded | go_step | go_upon)
                  go_roundg (m - (k + 1))
                  case measure => omega
                  case rel => exact ⟨k + 1, c, by omega, by omega, by go_num, rfl, ⟨hc.out.1, fun h => by obtain ⟨p, z, h1, h2⟩ := hc.out.2 h; exact ⟨p, z, by omega, h2⟩⟩, then_ HW4.out (by assumption)⟩
                · have hzb : (y.len == 0) = false := by simpa using hz
                  have dN := fun wx => hNt wx y hlow.out
                  have dC := fun wx => hCt wx (net y.addr y.len) (cl y.len : Nat)
                  obtain ⟨hp, hhp⟩ : ∃ q, q = holdsP y x := ⟨_, rfl⟩
                  have HP2 := hid hhp
                  have hcb : contB (net y.addr y.len) ((cl y.len : Nat) : Int) x = hp := hhp.symm
                  rw [hcb] at dC
                  obtain ⟨PX, hPX⟩ : ∃ q, q = Ad.px (net y.addr y.len) ((cl y.len : Nat) : Int) := ⟨_, rfl⟩
                  rw [← hPX] at dN dC
                  clear hhp hcb hPX
                  cases hp
                  case true =>
                    have hc0 : c = 0 := by
                      rcases Nat.eq_zero_or_pos c with h | h
                      · exact h
                      · obtain ⟨p, z, h1, h2, h3, h4⟩ := hc.out.2 (by have := hc.out.1; omega)
                        exact absurd (apart_of (router_ok E.out.symm HRR.out).1 HY.out h2 h1 hz h3 x HP2.out.symm h4) id
                    subst hc0
                    repeat' (first | (go_at_call 33; with_reducible refine (dN _).mono ?_; rintro e w' ⟨rfl, b⟩; have b' := then_ (w := w4) (by assumption) b; clear b; try dsimp only) | (go_at_call 32; with_reducible refine (dC _).mono ?_; rintro e w' ⟨rfl, b⟩; have b' := then_ (w := w4) (by assumption) b; clear b; try dsimp only) | go_skip | go_guarded | go_step | go_upon)
                    have YL := hid hlow
                    go_loopg [10] n (fun gg s10 wr => ∃ j : Nat, j ≤ n ∧ n - j ≤ gg ∧ s10 = .int .i64 j ∧ Below w4.heap.size w4 wr)
                    case atStart => exact ⟨0, Nat.zero_le _, by omega, rfl, by assumption⟩
                    case round =>
                      obtain ⟨j, hj, hg3, rfl, hwr4⟩ := hrel
                      have fb := FB4 wr hwr4
                      by_cases hjn : j < n
                      · have hjni : (j : Int) < (n : Int) := by omega
                        have hj0 : (0 : Int) ≤ (j : Int) := by omega
                        obtain ⟨q, hq⟩ := get_some (l := l) (k := j) (by have := N.out; omega)
                        have HW5 := hid (then_ HW4.out hwr4)
                        have HQ := hid ((HN.out.each q (get_mem hq)).keep (then_ HB.out HW5.out))
                        have GR : Below wr.heap.size wr wr := Below.refl _ _
                        have uLS : ∀ u : Later wr.heap.size wr, Sem.run P (loadCellsFrom ⟨b, off + j * zRouter, none⟩ 0 zRouter #[]) u.w = .ok (eRtr q).toArray u.w := fun u => by
                          rw [ZR.out]; exact ld_at (f := eRtr) (z := 25) P (fun _ => rfl) (HN.out.keep (then_ HB.out (then_ HW5.out u.h))).row.row rfl hq
                        have uFB5 := fun u : Later wr.heap.size wr => FB u.w (then_ HW5.out u.h)
                        have uFY5 := fun u : Later wr.heap.size wr => FY1 u.w (then_ hwr4 u.h)
                        have dA := fun wx (h : Below wr.heap.size wr wx) => hAd wx q y.addr (HQ.out.keep h)
                        obtain ⟨Z, hZ⟩ : ∃ Z, Z = (eRtr q).toArray := ⟨_, rfl⟩
                        rw [← hZ] at uLS dA
                        by_cases hji : j = i
                        · subst hji
                          have hqr : q = r := Option.some.inj (hq.symm.trans HRR.out)
                          subst hqr
                          rw [addr_own (router_ok E.out.symm hq).1 HY.out hz] at dA
                          clear hq hZ
                          repeat' (first | go_skip | go_guarded | go_step | go_upon)
                          refine wp_region_base wr (by assumption) (by first | assumption | kernel_rfl) (by kernel_rfl) ?_
                          repeat (go_big_quiet_step (first | (go_at_call 30; with_reducible exact later_of (Nat.le_refl _) (dA _ (Later.h _)))))
                          refine wpQuiet_nil ?_
                          rintro _ ⟨u, rfl⟩
                          have bu := u.h
                          repeat' (first | go_skip | go_guarded | go_step | go_upon)
                          go_roundg (n - (j + 1))
                          case measure => omega
                          case rel => exact ⟨j + 1, by omega, by omega, by go_num, then_ hwr4 (by assumption)⟩
                        · obtain ⟨at_, hat⟩ : ∃ v, v = adIx q.ifs y.addr := ⟨_, rfl⟩
                          have hneg : at_ < 0 := by rw [hat]; exact addr_other E.out.symm HRR.out hq hji HY.out hz
                          rw [← hat] at dA
                          have e1 : ((j : Int) == (i : Int)) = false := by simp; omega
                          have e2 : ¬ (0 : Int) ≤ at_ := by omega
                          clear hq hZ hat
                          repeat' (first | go_skip | go_guarded | go_step | go_upon)
                          refine wp_region_base wr (by assumption) (by first | assumption | kernel_rfl) (by kernel_rfl) ?_
                          repeat (go_big_quiet_step (first | (go_at_call 30; with_reducible exact later_of (Nat.le_refl _) (dA _ (Later.h _)))))
                          refine wpQuiet_nil ?_
                          rintro _ ⟨u, rfl⟩
                          have bu := u.h
                          repeat' (first | go_skip | go_guarded | go_step | go_upon)
                          go_roundg (n - (j + 1))
                          case measure => omega
                          case rel => exact ⟨j + 1, by omega, by omega, by go_num, then_ hwr4 (by assumption)⟩
                      · have hjni : ¬ (j : Int) < (n : Int) := by omega
                        repeat' (first | go_skip | go_guarded | go_step | go_upon)
                        go_roundg (m - (k + 1))
                        case measure => omega
                        case rel => exact ⟨k + 1, 1, by omega, by omega, by go_num, rfl, ⟨by omega, fun _ => ⟨k, y, by omega, HY.out, hz, HP2.out.symm⟩⟩, then_ HW4.out (by assumption)⟩
                  case false =>
                    repeat' (first | (go_at_call 33; with_reducible refine (dN _).mono ?_; rintro e w' ⟨rfl, b⟩; have b' := then_ (w := w4) (by assumption) b; clear b; try dsimp only) | (go_at_call 32; with_reducible refine (dC _).mono ?_; rintro e w' ⟨rfl, b⟩; have b' := then_ (w := w4) (by assumption) b; clear b; try dsimp only) | go_skip | go_guarded | go_step | go_upon)
                    have YL := hid hlow
                    go_loopg [10] n (fun gg s10 wr => ∃ j : Nat, j ≤ n ∧ n - j ≤ gg ∧ s10 = .int .i64 j ∧ Below w4.heap.size w4 wr)
                    case atStart => exact ⟨0, Nat.zero_le _, by omega, rfl, by assumption⟩
                    case round =>
                      obtain ⟨j, hj, hg3, rfl, hwr4⟩ := hrel
                      have fb := FB4 wr hwr4
                      by_cases hjn : j < n
                      · have hjni : (j : Int) < (n : Int) := by omega
                        have hj0 : (0 : Int) ≤ (j : Int) := by omega
                        obtain ⟨q, hq⟩ := get_some (l := l) (k := j) (by have := N.out; omega)
                        have HW5 := hid (then_ HW4.out hwr4)
                        have HQ := hid ((HN.out.each q (get_mem hq)).keep (then_ HB.out HW5.out))
                        have GR : Below wr.heap.size wr wr := Below.refl _ _
                        have uLS : ∀ u : Later wr.heap.size wr, Sem.run P (loadCellsFrom ⟨b, off + j * zRouter, none⟩ 0 zRouter #[]) u.w = .ok (eRtr q).toArray u.w := fun u => by
                          rw [ZR.out]; exact ld_at (f := eRtr) (z := 25) P (fun _ => rfl) (HN.out.keep (then_ HB.out (then_ HW5.out u.h))).row.row rfl hq
                        have uFB5 := fun u : Later wr.heap.size wr => FB u.w (then_ HW5.out u.h)
                        have uFY5 := fun u : Later wr.heap.size wr => FY1 u.w (then_ hwr4 u.h)
                        have dA := fun wx (h : Below wr.heap.size wr wx) => hAd wx q y.addr (HQ.out.keep h)
                        obtain ⟨Z, hZ⟩ : ∃ Z, Z = (eRtr q).toArray := ⟨_, rfl⟩
                        rw [← hZ] at uLS dA
                        by_cases hji : j = i
                        · subst hji
                          have hqr : q = r := Option.some.inj (hq.symm.trans HRR.out)
                          subst hqr
                          rw [addr_own (router_ok E.out.symm hq).1 HY.out hz] at dA
                          clear hq hZ
                          repeat' (first | go_skip | go_guarded | go_step | go_upon)
                          refine wp_region_base wr (by assumption) (by first | assumption | kernel_rfl) (by kernel_rfl) ?_
                          repeat (go_big_quiet_step (first | (go_at_call 30; with_reducible exact later_of (Nat.le_refl _) (dA _ (Later.h _)))))
                          refine wpQuiet_nil ?_
                          rintro _ ⟨u, rfl⟩
                          have bu := u.h
                          repeat' (first | go_skip | go_guarded | go_step | go_upon)
                          go_roundg (n - (j + 1))
                          case measure => omega
                          case rel => exact ⟨j + 1, by omega, by omega, by go_num, then_ hwr4 (by assumption)⟩
                        · obtain ⟨at_, hat⟩ : ∃ v, v = adIx q.ifs y.addr := ⟨_, rfl⟩
                          have hneg : at_ < 0 := by rw [hat]; exact addr_other E.out.symm HRR.out hq hji HY.out hz
                          rw [← hat] at dA
                          have e1 : ((j : Int) == (i : Int)) = false := by simp; omega
                          have e2 : ¬ (0 : Int) ≤ at_ := by omega
                          clear hq hZ hat
                          repeat' (first | go_skip | go_guarded | go_step | go_upon)
                          refine wp_region_base wr (by assumption) (by first | assumption | kernel_rfl) (by kernel_rfl) ?_
                          repeat (go_big_quiet_step (first | (go_at_call 30; with_reducible exact later_of (Nat.le_refl _) (dA _ (Later.h _)))))
                          refine wpQuiet_nil ?_
                          rintro _ ⟨u, rfl⟩
                          have bu := u.h
                          repeat' (first | go_skip | go_guarded | go_step | go_upon)
                          go_roundg (n - (j + 1))
                          case measure => omega
                          case rel => exact ⟨j + 1, by omega, by omega, by go_num, then_ hwr4 (by assumption)⟩
                      · have hjni : ¬ (j : Int) < (n : Int) := by omega
                        repeat' (first | go_skip | go_guarded | go_step | go_upon)
                        go_roundg (m - (k + 1))
                        case measure => omega
                        case rel => exact ⟨k + 1, c, by omega, by omega, by go_num, rfl, ⟨hc.out.1, fun h => by obtain ⟨p, z, h1, h2⟩ := hc.out.2 h; exact ⟨p, z, by omega, h2⟩⟩, then_ HW4.out (by assumption)⟩
              · have hkmi : ¬ (k : Int) < (m : Int) := by omega
                have hc1 : ¬ (1 : Int) < (c : Int) := by have := hc.out.1; omega
                repeat' (first | go_skip | go_guarded | go_step | go_upon)
                go_roundg (n - (i + 1))
                case measure => omega
                case rel => exact ⟨i + 1, by omega, by omega, by go_num, by assumption⟩
          · have hlti : ¬ (i : Int) < (n : Int) := by omega
            repeat' (first | (go_at_call 14; with_reducible refine (hSn _).mono ?_; rintro e w' ⟨rfl, b⟩; have b' := then_ (w := w1) (by assumption) b; clear b; try dsimp only) | go_skip | go_guarded | go_step | go_upon)
            go_ret
            exact ⟨rfl, then_ HB.out (by assumption)⟩
      · have h0b : (e0 != 0) = true := by simpa using h0
        repeat' (first | (go_at_call 15; with_reducible refine (r1 _ (by assumption)).mono ?_; rintro e w' ⟨rfl, b⟩; have b' := then_ (w := w1) (by assumption) b; clear b; try dsimp only) | (go_at_call 14; with_reducible refine (hSn _).mono ?_; rintro e w' ⟨rfl, b⟩; have b' := then_ (w := w1) (by assumption) b; clear b; try dsimp only) | go_skip | go_guarded | go_step | go_upon)
        go_ret
        exact ⟨rfl, then_ HB.out (by assumption)⟩
end Go.Proofs.YtmffbdohcnebdaaGreat.Mw
