/-
  THE CONTRACT OF netverifyref8.statics.
-/
import Derived.Test.YtlhbfpapmolohaaModRt
namespace Go.Proofs.Ytlhbfpapmolohaa.Mw
set_option linter.unusedSimpArgs false
set_option linter.unusedVariables false
open Go.RowKit Kt Mm Mp Am

def zeroSt : Array Value := #[.int .u32 0, .int .i64 0, .int .u32 0, .string ⟨#[]⟩, .bool false, .int .i64 0, .int .i64 0]
theorem ix_cases {α : Type} (p : α → Bool) (l : List α) : (ixB p l = -1) ∨ ∃ (j : Nat) (x : α), ixB p l = (j : Int) ∧ l[j]? = some x ∧ j < l.length := by
  have aux : ∀ (l : List α) (i : Nat), (ixF p i l = -1) ∨ ∃ (j : Nat) (x : α), ixF p i l = ((i + j : Nat) : Int) ∧ l[j]? = some x ∧ j < l.length := by
    intro l
    induction l with
    | nil => exact fun i => .inl rfl
    | cons y l ih =>
      intro i
      unfold ixF
      cases h : p y with
      | true => exact .inr ⟨0, y, by simp, rfl, by simp⟩
      | false =>
        rcases ih (i + 1) with h1 | ⟨j, x, h1, h2, h3⟩
        · exact .inl (by simpa using h1)
        · exact .inr ⟨j + 1, x, by simp [h1]; omega, by simpa using h2, by simp; omega⟩
  rcases aux l 0 with h | ⟨j, x, h1, h2, h3⟩
  · exact .inl h
  · exact .inr ⟨j, x, by unfold ixB; rw [h1, Nat.zero_add], h2, h3⟩
/-- The errors of static routes as the reference has them: an interface without an address is no next hop. -/
def statF (ifs : List Ifc) (l : List Stc) (i : Nat) (x : Stc) : Int :=
  if !statOk x || (!decide (x.next = 0) && decide (0 ≤ adIx ifs x.next)) then 1 else if unk x.ifc (ifIx ifs x.ifc) then 5 else if !noS x.ifc && decide (lenAt ifs x.ifc = 0) then 1
  else if (l.take i).any (fun y => decide (y.pfx = x.pfx) && decide (y.admin = x.admin)) then 6 else 0
def statsF (ifs : List Ifc) (l : List Stc) : Int := eachE 16 (statF ifs l) l

set_option maxHeartbeats 16000000 in
set_option maxRecDepth 4000 in
theorem rSts (r : Rtr) (w : World) (hr : RtrIn w r) :
    Calls Try.prog 52 #[.agg (eRtr r).toArray] w fun e w' => e = .returned (.int .i64 (statsF r.ifs r.sts)) ∧ Below w.heap.size w w' := by
  obtain ⟨l, hll⟩ : ∃ l, l = r.sts := ⟨_, rfl⟩
  have hWi := fun (p q t : Int) wx => rWithin p q t wx
  have hV := fun (p : Pfx) wx (h : low p.addr) => Ad.refValid p.addr p.len wx h
  have hEq := fun (p q : Pfx) wx => eqInPfx 9998 p q wx
  simp only [Nat.reduceAdd] at hEq
  have hGd : ∀ (op : BinOp) (s t : Operand) (p q : Array Value) wx, (eqGuard op 27 s t (.agg p) (.agg q)).run Try.prog wx = .ok () wx := fun op s t p q wx => run_eqGuard_agg wx op _ s t p q (by kernel_rfl)
  obtain ⟨X, hX⟩ : ∃ X, X = (eRtr r).toArray := ⟨_, rfl⟩
  obtain ⟨w1, hw1⟩ : ∃ w1, w.alloc (.cells X 55) = w1 := ⟨_, rfl⟩
  have hhX : w1.heap[w.heap.size]? = some (.cells X 55 (0, 0)) := by rw [← hw1, heap_new]
  have FX2 : ∀ v : World, Below w1.heap.size w1 v → v.cell? ⟨w.heap.size, 2, none⟩ = some (r.vIfs) := fun v h => box_at (blk_keep hhX h) (by rw [hX]; rfl)
  have FX7 : ∀ v : World, Below w1.heap.size w1 v → v.cell? ⟨w.heap.size, 7, none⟩ = some (r.vSts) := fun v h => box_at (blk_keep hhX h) (by rw [hX]; rfl)
  have KX : ∀ v : World, Below w1.heap.size w1 v → v.heap[w.heap.size]? = some (.cells X 55 (0, 0)) := fun v h => blk_keep hhX h
  have GX : Below w1.heap.size w1 w1 := Below.refl _ _
  have HX := hid (show Below w.heap.size w w1 by rw [← hw1]; exact new_below _ _)
  have hX' := hid hX
  try rw [← hX]
  clear hX hhX
  have hAd := fun wx (s : Nat) (h : Below w1.heap.size w1 wx) => rkAdr X r.vIfs r.ifs s wx (by rw [hX'.out]; rfl) (hr.keep (then_ HX.out h)).ifs.row hr.ifs.len
  have hIf := fun wx (s : ByteArray) (h : Below w1.heap.size w1 wx) => rkIfc X r.vIfs r.ifs s wx (by rw [hX'.out]; rfl) (hr.keep (then_ HX.out h)).ifs.row hr.ifs.len
  have hXs : X.size = 25 := by rw [hX'.out]; rfl
  have HR := hid (hr.keep HX.out)
  have RA := hid hr.stsA
  have hrow : IsRow eStc 7 w1 r.vSts l := by rw [hll]; exact HR.out.sts.row
  have hl : l.length ≤ 9223372036854775807 := by rw [hll]; exact hr.sts.len
  rw [← hll] at RA
  obtain ⟨ifs, hif⟩ : ∃ l, l = r.ifs := ⟨_, rfl⟩
  have hrowI : IsRow eIfc 12 w1 r.vIfs ifs := by rw [hif]; exact HR.out.ifs.row
  have hlI : ifs.length ≤ 9223372036854775807 := by rw [hif]; exact hr.ifs.len
  rw [← hif] at hAd hIf
  rw [← hll, ← hif]
  have R0 := hid (show statsF ifs l = if 16 < l.length then 7 else firstE (statF ifs l) 0 l from rfl)
  obtain ⟨a, cap, hv, hcap, hcell⟩ := rows_open (z := 7) (by decide) hrow
  obtain ⟨n, hn⟩ : ∃ n, n = l.length := ⟨_, rfl⟩
  rw [← hn] at hl hcap hcell hv R0
  rw [hv] at FX7
  have N := hid hn
  have HC := hid hcell
  obtain ⟨aI, capI, hvI, hcapI, hcellI⟩ := rows_open (z := 12) (by decide) hrowI
  obtain ⟨nI, hnI⟩ : ∃ n, n = ifs.length := ⟨_, rfl⟩
  rw [← hnI] at hlI hcapI hcellI hvI
  rw [hvI] at FX2
  have NI := hid hnI
  have HCI := hid hcellI
  clear hn hrow hcell hr hll hv hif hrowI hvI hcellI hnI
  obtain ⟨P, hP⟩ : ∃ P, P = Try.prog := ⟨_, rfl⟩
  have HP := hid hP
  have mixed : P.follows .mixedOrders = true := by rw [hP]; kernel_rfl
  have FG : P.funcs[52]? = some Try.f52 := by rw [hP]; exact Try.func52
  obtain ⟨zRouter, hzRouter⟩ : ∃ z, z = 25 := ⟨_, rfl⟩
  have nzRouter : ¬ zRouter = 0 := by omega
  obtain ⟨zStaticRoute, hzStaticRoute⟩ : ∃ z, z = 7 := ⟨_, rfl⟩
  have nzStaticRoute : ¬ zStaticRoute = 0 := by omega
  obtain ⟨zInterface, hzInterface⟩ : ∃ z, z = 12 := ⟨_, rfl⟩
  have nzInterface : ¬ zInterface = 0 := by omega
  have ty3 := Try.underlying3; have ag3 := Try.isAgg3; have sz3 := Try.sizeOf3; have ru3 := Try.runUnderlying3
  have ty4 := Try.underlying4; have ag4 := Try.isAgg4; have sz4 := Try.sizeOf4; have ru4 := Try.runUnderlying4
  have ty9 := Try.underlying9; have ag9 := Try.isAgg9; have sz9 := Try.sizeOf9; have ru9 := Try.runUnderlying9
  have ty36 := Try.underlying36; have ag36 := Try.isAgg36; have sz36 := Try.sizeOf36; have ru36 := Try.runUnderlying36
  have ty41 := Try.underlying41; have ag41 := Try.isAgg41; have sz41 := Try.sizeOf41; have ru41 := Try.runUnderlying41
  have ty55 := Try.underlying55; have ag55 := Try.isAgg55; have sz55 := Try.sizeOf55; have ru55 := Try.runUnderlying55
  rw [← hzRouter] at sz55
  have ty25 := Try.underlying25; have ag25 := Try.isAgg25; have sz25 := Try.sizeOf25; have ru25 := Try.runUnderlying25
  have ty106 := Try.underlying106; have ag106 := Try.isAgg106; have sz106 := Try.sizeOf106; have ru106 := Try.runUnderlying106
  rw [← hzInterface] at sz106
  have ty27 := Try.underlying27; have ag27 := Try.isAgg27; have sz27 := Try.sizeOf27; have ru27 := Try.runUnderlying27
  have ty120 := Try.underlying120; have ag120 := Try.isAgg120; have sz120 := Try.sizeOf120; have ru120 := Try.runUnderlying120
  rw [← hzStaticRoute] at sz120
  have zeStaticRoute := Try.zeroValue120
  have en0 : ∀ args w, (callFunc 9 args).run Try.prog w = .ok (.enter 9 args) w := enters_of Try.func9 (by kernel_rfl) rfl
  have en1 : ∀ args w, (callFunc 66 args).run Try.prog w = .ok (.enter 66 args) w := enters_of Try.func66 (by kernel_rfl) rfl
  have en2 : ∀ args w, (callFunc 67 args).run Try.prog w = .ok (.enter 67 args) w := enters_of Try.func67 (by kernel_rfl) rfl
  have en3 : ∀ args w, (callFunc 45 args).run Try.prog w = .ok (.enter 45 args) w := enters_of Try.func45 (by kernel_rfl) rfl
  rw [← hP] at ty3 ag3 sz3 ru3 ty4 ag4 sz4 ru4 ty9 ag9 sz9 ru9 ty36 ag36 sz36 ru36 ty41 ag41 sz41 ru41 ty55 ag55 sz55 ru55 ty25 ag25 sz25 ru25 ty106 ag106 sz106 ru106 ty27 ag27 sz27 ru27 ty120 ag120 sz120 ru120 zeStaticRoute en0 en1 en2 en3 hWi hV hEq hGd hAd hIf ⊢
  clear hP
  have LX : ∀ v : World, Below w1.heap.size w1 v → Sem.run P (loadCellsFrom ⟨w.heap.size, 0, none⟩ 0 zRouter #[]) v = .ok X v := fun v h => ld_box P (KX v h) (by rw [hzRouter]; exact hXs)
  have ZR := hid hzRouter
  have ZT := hid hzStaticRoute
  have ZI := hid hzInterface
  clear hzRouter hzStaticRoute hzInterface KX
  by_cases h16 : 16 < n
  · have h16i : (16 : Int) < (n : Int) := by omega
    go_enter FG, Try.ntmps52
    repeat' (first | go_skip | go_guarded | go_step | go_upon)
    go_ret
    exact ⟨ret_int (by rw [R0.out, if_pos h16]), HX.out⟩
  have h16i : ¬ (16 : Int) < (n : Int) := by omega
  have R1 := hid (R0.out.trans (if_neg h16))
  go_enter FG, Try.ntmps52
  repeat' (first | go_skip | go_guarded | go_step | go_upon)
  clear R0 h16 h16i
  go_loopg [3] n (fun gg s3 wr => ∃ k : Nat, k ≤ n ∧ n - k ≤ gg ∧ s3 = .int .i64 k ∧ Below w1.heap.size w1 wr ∧ Aside (statsF ifs l = firstE (statF ifs l) k (l.drop k)))
  case atStart => exact ⟨0, Nat.zero_le _, by omega, rfl, by assumption, R1.out⟩
  case round =>
    obtain ⟨k, hk, hg, rfl, hwr, E⟩ := hrel
    have x7 := FX7 wr hwr
    by_cases hlt : k < n
    · have hlti : (k : Int) < (n : Int) := by omega
      have hk0 : (0 : Int) ≤ (k : Int) := by omega
      obtain ⟨x, hx⟩ := get_some (l := l) (k := k) (by have := N.out; omega)
      have hm := get_mem hx
      obtain ⟨b, off, rfl, hb, hc⟩ := HC.out (by omega)
      have LY0 : Sem.run P (loadCellsFrom ⟨b, off + k * zStaticRoute, none⟩ 0 zStaticRoute #[]) wr = .ok (eStc x).toArray wr := by
        rw [ZT.out]; exact ld_row (f := eStc) (z := 7) P (fun _ => rfl) (fun j u hj => (hwr.cell (p := ⟨b, off + j, none⟩) hb).trans (hc j u hj)) hx
      obtain ⟨Y, hY⟩ : ∃ Y, Y = (eStc x).toArray := ⟨_, rfl⟩
      have hYs : Y.size = 7 := by rw [hY]; rfl
      have hY1 := hid (show Y.all (·.oneCell') = true by rw [hY]; simp [eStc, one_str, one_int, one_bool])
      obtain ⟨dd, hdd⟩ : ∃ q, q = x.discard := ⟨_, rfl⟩
      have y0 : Y[0]? = some (.int .u32 (x.pfx.addr : Int)) := by rw [hY]; rfl
      have y1 : Y[1]? = some (.int .i64 x.pfx.len) := by rw [hY]; rfl
      have y2 : Y[2]? = some (.int .u32 (x.next : Int)) := by rw [hY]; rfl
      have y3 : Y[3]? = some (.string x.ifc) := by rw [hY]; rfl
      have y4 : Y[4]? = some (.bool dd) := by rw [hY, hdd]; rfl
      have y5 : Y[5]? = some (.int .i64 x.admin) := by rw [hY]; rfl
      have y6 : Y[6]? = some (.int .i64 x.tag) := by rw [hY]; rfl
      rw [← hY] at LY0
      have D := hid (drop_get hx)
      have HDD := hid hdd
      clear hY hx hdd
      repeat' ((fail_if_success (with_reducible show Hid _)); (first | ((with_reducible show Oper.wp _ ⟨_, .store 120 _ _, _, _, _, _⟩ _ _ _ _); refine stopT ?_) | go_skip | go_guarded | go_step | go_upon))
      refine hid ?_
      refine wp_store_box (w := wr.alloc (.cells zeroSt 120)) 120 _ _ (by rfl) (g := wr.heap.size) (cur := zeroSt) (X := Y) (by rfl) (by rfl) (by intro v; rw [hYs, ← ZT.out]; first | exact sz120 v | assumption) (heap_new _ _) (by rw [hYs]; rfl) hY1.out ?_
      intro w4 h1 h2 h3
      have HB4 := hid (show Below wr.heap.size wr w4 from (al1 wr _).trans (h3 _ (Nat.le_refl _)))
      have HW4 := hid (then_ (show Below w1.heap.size w1 wr from hwr) HB4.out)
      have G4 : Below w4.heap.size w4 w4 := Below.refl _ _
      have FY0 : ∀ v : World, Below w4.heap.size w4 v → v.cell? ⟨wr.heap.size, 0, none⟩ = some (.int .u32 (x.pfx.addr : Int)) := fun v h => box_at (blk_keep h1 h) y0
      have FY1 : ∀ v : World, Below w4.heap.size w4 v → v.cell? ⟨wr.heap.size, 1, none⟩ = some (.int .i64 x.pfx.len) := fun v h => box_at (blk_keep h1 h) y1
      have FY2 : ∀ v : World, Below w4.heap.size w4 v → v.cell? ⟨wr.heap.size, 2, none⟩ = some (.int .u32 (x.next : Int)) := fun v h => box_at (blk_keep h1 h) y2
      have FY3 : ∀ v : World, Below w4.heap.size w4 v → v.cell? ⟨wr.heap.size, 3, none⟩ = some (.string x.ifc) := fun v h => box_at (blk_keep h1 h) y3
      have FY4 : ∀ v : World, Below w4.heap.size w4 v → v.cell? ⟨wr.heap.size, 4, none⟩ = some (.bool dd) := fun v h => box_at (blk_keep h1 h) y4
      have FY5 : ∀ v : World, Below w4.heap.size w4 v → v.cell? ⟨wr.heap.size, 5, none⟩ = some (.int .i64 x.admin) := fun v h => box_at (blk_keep h1 h) y5
      have FY6 : ∀ v : World, Below w4.heap.size w4 v → v.cell? ⟨wr.heap.size, 6, none⟩ = some (.int .i64 x.tag) := fun v h => box_at (blk_keep h1 h) y6
      have LY : ∀ v : World, Below w4.heap.size w4 v → Sem.run P (loadCellsFrom ⟨wr.heap.size, 0, none⟩ 0 zStaticRoute #[]) v = .ok Y v := fun v h => ld_box P (blk_keep h1 h) (by rw [ZT.out]; exact hYs)
      obtain ⟨g, hgb⟩ : ∃ g, g = wr.heap.size := ⟨_, rfl⟩
      rw [← hgb] at FY0 FY1 FY2 FY3 FY4 FY5 FY6 LY ⊢
      clear h1 h2 h3 hYs hgb
      clear y0 y1 y2 y3 y4 y5 y6 LY0
      have dV := fun wx => hV x.pfx wx (RA.out x hm).1
      unfold Ad.px at dV
      have dA := fun wx (h : Below w4.heap.size w4 wx) => hAd wx x.next (then_ HW4.out h)
      have dI := fun wx (h : Below w4.heap.size w4 wx) => hIf wx x.ifc (then_ HW4.out h)
      obtain ⟨vp, hvp⟩ : ∃ q, q = vPf x.pfx := ⟨_, rfl⟩
      have hvp2 : validB x.pfx.addr x.pfx.len = vp := hvp.symm
      rw [hvp2] at dV
      have HVP := hid hvp
      obtain ⟨ad, had⟩ : ∃ q, q = adIx ifs x.next := ⟨_, rfl⟩
      rw [← had] at dA
      have HAD := hid had
      have d1 := fun wx => hWi x.admin 1 255 wx
      have d2 := fun wx => hWi x.tag 0 65535 wx
      obtain ⟨a1, ha1⟩ : ∃ q, q = wi x.admin 1 255 := ⟨_, rfl⟩
      obtain ⟨a2, ha2⟩ : ∃ q, q = wi x.tag 0 65535 := ⟨_, rfl⟩
      have HA1 := hid ha1
      have HA2 := hid ha2
      rw [← ha1] at d1
      rw [← ha2] at d2
      obtain ⟨tk, htk⟩ : ∃ q, q = (l.take k).any (fun y : Stc => decide (y.pfx = x.pfx) && decide (y.admin = x.admin)) := ⟨_, rfl⟩
      have TK := hid htk
      have SE := hid (show statF ifs l k x = if !statOk x || (!decide (x.next = 0) && decide (0 ≤ ad)) then 1 else if unk x.ifc (ifIx ifs x.ifc) then 5 else if !noS x.ifc && decide (lenAt ifs x.ifc = 0) then 1 else if tk then 6 else 0 by rw [had, htk]; rfl)
      have LX4 := fun (v : World) (h : Below w4.heap.size w4 v) => LX v (then_ HW4.out h)
      have FX4 := fun (v : World) (h : Below w4.heap.size w4 v) => FX7 v (then_ HW4.out h)
      have FI4 := fun (v : World) (h : Below w4.heap.size w4 v) => FX2 v (then_ HW4.out h)
      clear had htk ha1 ha2 hvp hvp2 hWi hV hAd hIf LX FX7 FX2 x7
      obtain ⟨nx, hnx⟩ : ∃ q, ((x.next : Int) != 0) = q := ⟨_, rfl⟩
      have Hnx := hid hnx
      obtain ⟨g1, hg1⟩ : ∃ q, (decide (0 ≤ ad)) = q := ⟨_, rfl⟩
      have Hg1 := hid hg1
      have NX := hid (show decide (x.next = 0) = !nx by rw [← Hnx.out]; rw [Bool.eq_iff_iff]; simp)
      have hg1' : decide (ad ≥ 0) = g1 := hg1
      cases hs : x.ifc.toList.isEmpty with
      | true =>
        have TE2 := hid (show statF ifs l k x = if !(vp && (nx != dd) && a1 && a2) || (nx && g1) then 1 else if tk then 6 else 0 by
          have hw : decide (waysN x = 1) = (nx != dd) := by
            unfold waysN noS; rw [hs, ← HDD.out]
            have h := NX.out
            cases nx <;> cases dd <;> simp at h ⊢ <;> simp [h]
          rw [SE.out, NX.out, show unk x.ifc (ifIx ifs x.ifc) = false by unfold unk noS; rw [hs]; rfl, Hg1.out]
          unfold statOk noS; rw [hw, hs, ← HVP.out, ← HA1.out, ← HA2.out]; simp)
        clear dI
        repeat' (first | (go_at_call 9; with_reducible refine (dV _).mono ?_; rintro e w' ⟨rfl, b⟩; have b' := then_ (w := w4) (by assumption) b; clear b; try dsimp only) | (go_at_call 45; with_reducible refine (d1 _).mono ?_; rintro e w' ⟨rfl, rfl⟩; try dsimp only) | (go_at_call 45; with_reducible refine (d2 _).mono ?_; rintro e w' ⟨rfl, rfl⟩; try dsimp only) | (go_at_call 66; with_reducible refine (dA _ (by assumption)).mono ?_; rintro e w' ⟨rfl, b⟩; have b' := then_ (w := w4) (by assumption) b; clear b; try dsimp only) | (go_at_call 67; with_reducible refine (dI _ (by assumption)).mono ?_; rintro e w' ⟨rfl, b⟩; have b' := then_ (w := w4) (by assumption) b; clear b; try dsimp only) | go_skip | go_big_skip | go_big_want | go_big_guard | go_step | go_upon)
        all_goals first | ((try simp only [Exit.inBlock, Exit.then]); refine bodyPost_ret (results_tmp (by rfl) _ _ _) (by rfl) ?_; refine ⟨ret_int (a := 1) ?_, then_ HX.out (then_ HW4.out (by assumption))⟩; have Q2 : statF ifs l k x = 1 := (by rw [TE2.out]; first | (simp [(show vp = false by first | assumption | exact bnf (by assumption))]; done) | (simp [(show nx = true by first | assumption | exact bnt (by assumption)), (show dd = true by first | assumption | exact bnt (by assumption))]; done) | (simp [(show nx = false by first | assumption | exact bnf (by assumption)), (show dd = false by first | assumption | exact bnf (by assumption))]; done) | (simp [(show nx = true by first | assumption | exact bnt (by assumption)), (show g1 = true by first | assumption | exact bnt (by assumption))]; done) | (simp [(show a1 = false by first | assumption | exact bnf (by assumption))]; done) | (simp [(show a2 = false by first | assumption | exact bnf (by assumption))]; done)); rw [E.out, D.out]; refine ((firstE_hit (by rw [Q2]; simp)).trans ?_).symm; rw [Q2]) | skip
        all_goals
          have TE3 := hid (show statF ifs l k x = if tk then 6 else 0 by rw [TE2.out]; first | (simp [(show vp = true by first | assumption | exact bnt (by assumption)), (show a1 = true by first | assumption | exact bnt (by assumption)), (show a2 = true by first | assumption | exact bnt (by assumption)), (show nx = true by first | assumption | exact bnt (by assumption)), (show dd = false by first | assumption | exact bnf (by assumption)), (show g1 = false by first | assumption | exact bnf (by assumption))]; done) | (simp [(show vp = true by first | assumption | exact bnt (by assumption)), (show a1 = true by first | assumption | exact bnt (by assumption)), (show a2 = true by first | assumption | exact bnt (by assumption)), (show nx = false by first | assumption | exact bnf (by assumption)), (show dd = true by first | assumption | exact bnt (by assumption))]; done))
          have H5 := hid (show Below w4.heap.size w4 _ by assumption)
          go_loopg [7] k (fun gg s7 wr => ∃ j : Nat, j ≤ k ∧ k - j ≤ gg ∧ s7 = .int .i64 j ∧ Below w4.heap.size w4 wr ∧ Aside (tk = ((l.take k).drop j).any (fun y : Stc => decide (y.pfx = x.pfx) && decide (y.admin = x.admin))))
          case atStart => exact ⟨0, Nat.zero_le _, by omega, rfl, by assumption, TK.out⟩
          case round =>
            obtain ⟨j, hj, hgj, rfl, hwr2, T⟩ := hrel
            by_cases hjk : j < k
            · have hjki : (j : Int) < (k : Int) := by omega
              have hjn : (j : Int) < (n : Int) := by omega
              have hj0 : (0 : Int) ≤ (j : Int) := by omega
              obtain ⟨y, hy⟩ := get_some (l := l) (k := j) (by have := N.out; omega)
              have hcy := row_cells (f := eStc) (z := 7) (fun _ => rfl) hc hy
              have GR : Below wr.heap.size wr wr := Below.refl _ _
              have uX := fun u : Later wr.heap.size wr => FX4 u.w (then_ hwr2 u.h)
              have uF0 := fun u : Later wr.heap.size wr => FY0 u.w (then_ hwr2 u.h)
              have uF1 := fun u : Later wr.heap.size wr => FY1 u.w (then_ hwr2 u.h)
              have uF5 := fun u : Later wr.heap.size wr => FY5 u.w (then_ hwr2 u.h)
              have uY0 : ∀ u : Later wr.heap.size wr, u.w.cell? ⟨b, off + j * zStaticRoute, none⟩ = some (.int .u32 (y.pfx.addr : Int)) := fun u => by rw [ZT.out]; exact ((then_ HW4.out (then_ hwr2 u.h)).cell (p := ⟨b, off + j * 7, none⟩) hb).trans (hcy 0 _ rfl)
              have uY1 : ∀ u : Later wr.heap.size wr, u.w.cell? ⟨b, off + j * zStaticRoute + 1, none⟩ = some (.int .i64 y.pfx.len) := fun u => by rw [ZT.out]; exact ((then_ HW4.out (then_ hwr2 u.h)).cell (p := ⟨b, off + j * 7 + 1, none⟩) hb).trans (hcy 1 _ rfl)
              have uY5 : ∀ u : Later wr.heap.size wr, u.w.cell? ⟨b, off + j * zStaticRoute + 5, none⟩ = some (.int .i64 y.admin) := fun u => by rw [ZT.out]; exact ((then_ HW4.out (then_ hwr2 u.h)).cell (p := ⟨b, off + j * 7 + 5, none⟩) hb).trans (hcy 5 _ rfl)
              have dE := fun wx => hEq y.pfx x.pfx wx
              simp only [ePfx] at dE
              clear hcy
              by_cases hq : y.pfx = x.pfx
              · rw [decide_eq_true hq] at dE
                by_cases hz : y.admin = x.admin
                · have T2 := hid (T.out.trans (any_hit hy hjk (by rw [decide_eq_true hq, decide_eq_true hz]; rfl)))
                  have Q2 := hid (show statF ifs l k x = 6 by rw [TE3.out, T2.out]; rfl)
                  have hzb : (y.admin == x.admin) = true := by simpa using hz
                  clear hq hz
                  repeat' (first | go_skip | go_guarded | go_step | go_upon)
                  refine wp_region_base wr (by assumption) (by first | assumption | kernel_rfl) (by kernel_rfl) ?_
                  repeat (go_big_quiet_step (first | fail))
                  refine wpQuiet_nil ?_
                  rintro _ ⟨u, rfl⟩
                  have bu := u.h
                  repeat' (first | go_skip | go_guarded | go_step | go_upon)
                  (try simp only [Exit.inBlock, Exit.then]); refine bodyPost_ret (results_tmp (by rfl) _ _ _) (by rfl) ?_
                  exact ⟨ret_int (by rw [E.out, D.out]; refine ((firstE_hit (by rw [Q2.out]; simp)).trans ?_).symm; rw [Q2.out]), then_ HX.out (then_ HW4.out (then_ hwr2 (by assumption)))⟩
                · have T2 := hid (T.out.trans (any_next hy hjk (by rw [decide_eq_true hq, decide_eq_false hz]; rfl)))
                  have hzb : (y.admin == x.admin) = false := by simpa using hz
                  clear hq hz
                  repeat' (first | go_skip | go_guarded | go_step | go_upon)
                  refine wp_region_base wr (by assumption) (by first | assumption | kernel_rfl) (by kernel_rfl) ?_
                  repeat (go_big_quiet_step (first | fail))
                  refine wpQuiet_nil ?_
                  rintro _ ⟨u, rfl⟩
                  have bu := u.h
                  repeat' (first | go_skip | go_guarded | go_step | go_upon)
                  go_roundg (k - (j + 1))
                  case measure => omega
                  case rel => exact ⟨j + 1, by omega, by omega, by go_num, then_ hwr2 (by assumption), T2.out⟩
              · rw [decide_eq_false hq] at dE
                have T2 := hid (T.out.trans (any_next hy hjk (by rw [decide_eq_false hq]; rfl)))
                clear hq
                repeat' (first | go_skip | go_guarded | go_step | go_upon)
                refine wp_region_base wr (by assumption) (by first | assumption | kernel_rfl) (by kernel_rfl) ?_
                repeat (go_big_quiet_step (first | fail))
                refine wpQuiet_nil ?_
                rintro _ ⟨u, rfl⟩
                have bu := u.h
                repeat' (first | go_skip | go_guarded | go_step | go_upon)
                go_roundg (k - (j + 1))
                case measure => omega
                case rel => exact ⟨j + 1, by omega, by omega, by go_num, then_ hwr2 (by assumption), T2.out⟩
            · have hjki : ¬ (j : Int) < (k : Int) := by omega
              have T2 := hid (T.out.trans (any_end (by omega)))
              have Q2 := hid (show statF ifs l k x = 0 by rw [TE3.out, T2.out]; rfl)
              repeat' (first | go_skip | go_guarded | go_step | go_upon)
              go_roundg (n - (k + 1))
              case measure => omega
              case rel => exact ⟨k + 1, by omega, by omega, by go_num, then_ HW4.out (by assumption), by show _ = _; rw [E.out, D.out]; exact firstE_next Q2.out⟩
      | false =>
        have hw : decide (waysN x = 1) = (!nx && !dd) := by
          unfold waysN noS; rw [hs, ← HDD.out]
          have h := NX.out
          cases nx <;> cases dd <;> simp at h ⊢ <;> simp [h]
        have SE2 := hid (show statF ifs l k x = if !(vp && (!nx && !dd) && a1 && a2) || (nx && g1) then 1 else if decide (ifIx ifs x.ifc < 0) then 5 else if decide (lenAt ifs x.ifc = 0) then 1 else if tk then 6 else 0 by
          rw [SE.out, NX.out, Hg1.out]
          unfold statOk noS unk noS; rw [hw, hs, ← HVP.out, ← HA1.out, ← HA2.out]; simp)
        clear hw
        rcases ix_cases (fun y : Ifc => y.name.toList == x.ifc.toList) ifs with hi | ⟨ji, z, hi, hzi, hji⟩
        · rw [hi] at dI
          have TE2 := hid (show statF ifs l k x = if !(vp && (!nx && !dd) && a1 && a2) || (nx && g1) then 1 else 5 by rw [SE2.out]; unfold ifIx; rw [hi]; rfl)
          clear hi
          repeat' (first | (go_at_call 9; with_reducible refine (dV _).mono ?_; rintro e w' ⟨rfl, b⟩; have b' := then_ (w := w4) (by assumption) b; clear b; try dsimp only) | (go_at_call 45; with_reducible refine (d1 _).mono ?_; rintro e w' ⟨rfl, rfl⟩; try dsimp only) | (go_at_call 45; with_reducible refine (d2 _).mono ?_; rintro e w' ⟨rfl, rfl⟩; try dsimp only) | (go_at_call 66; with_reducible refine (dA _ (by assumption)).mono ?_; rintro e w' ⟨rfl, b⟩; have b' := then_ (w := w4) (by assumption) b; clear b; try dsimp only) | (go_at_call 67; with_reducible refine (dI _ (by assumption)).mono ?_; rintro e w' ⟨rfl, b⟩; have b' := then_ (w := w4) (by assumption) b; clear b; try dsimp only) | go_skip | go_big_skip | go_big_want | go_big_guard | go_step | go_upon)
          all_goals first | ((try simp only [Exit.inBlock, Exit.then]); refine bodyPost_ret (results_tmp (by rfl) _ _ _) (by rfl) ?_; refine ⟨ret_int (a := 1) ?_, then_ HX.out (then_ HW4.out (by assumption))⟩; have Q2 : statF ifs l k x = 1 := (by rw [TE2.out]; first | (simp [(show vp = false by first | assumption | exact bnf (by assumption))]; done) | (simp [(show nx = true by first | assumption | exact bnt (by assumption))]; done) | (simp [(show dd = true by first | assumption | exact bnt (by assumption))]; done) | (simp [(show a1 = false by first | assumption | exact bnf (by assumption))]; done) | (simp [(show a2 = false by first | assumption | exact bnf (by assumption))]; done) | (simp [(show vp = true by first | assumption | exact bnt (by assumption)), (show a1 = true by first | assumption | exact bnt (by assumption)), (show a2 = true by first | assumption | exact bnt (by assumption)), (show nx = false by first | assumption | exact bnf (by assumption)), (show dd = false by first | assumption | exact bnf (by assumption))]; done)); rw [E.out, D.out]; refine ((firstE_hit (by rw [Q2]; simp)).trans ?_).symm; rw [Q2]) | ((try simp only [Exit.inBlock, Exit.then]); refine bodyPost_ret (results_tmp (by rfl) _ _ _) (by rfl) ?_; refine ⟨ret_int (a := 5) ?_, then_ HX.out (then_ HW4.out (by assumption))⟩; have Q2 : statF ifs l k x = 5 := (by rw [TE2.out]; first | (simp [(show vp = false by first | assumption | exact bnf (by assumption))]; done) | (simp [(show nx = true by first | assumption | exact bnt (by assumption))]; done) | (simp [(show dd = true by first | assumption | exact bnt (by assumption))]; done) | (simp [(show a1 = false by first | assumption | exact bnf (by assumption))]; done) | (simp [(show a2 = false by first | assumption | exact bnf (by assumption))]; done) | (simp [(show vp = true by first | assumption | exact bnt (by assumption)), (show a1 = true by first | assumption | exact bnt (by assumption)), (show a2 = true by first | assumption | exact bnt (by assumption)), (show nx = false by first | assumption | exact bnf (by assumption)), (show dd = false by first | assumption | exact bnf (by assumption))]; done)); rw [E.out, D.out]; refine ((firstE_hit (by rw [Q2]; simp)).trans ?_).symm; rw [Q2]) | skip
        · rw [hi] at dI
          have hji2 : (ji : Int) < (nI : Int) := by have := NI.out; omega
          have hji0 : (0 : Int) ≤ (ji : Int) := by omega
          have hji3 : ¬ (ji : Int) < 0 := by omega
          obtain ⟨bI, offI, rfl, hbI, hcI⟩ := HCI.out (by omega)
          have FZ : ∀ v : World, Below w4.heap.size w4 v → v.cell? ⟨bI, offI + ji * zInterface + 2, none⟩ = some (.int .i64 z.len) := fun v h => by rw [ZI.out]; exact ((then_ HW4.out h).cell (p := ⟨bI, offI + ji * 12 + 2, none⟩) hbI).trans (row_cells (f := eIfc) (z := 12) (fun _ => rfl) hcI hzi 2 _ rfl)
          obtain ⟨z1, hz1⟩ : ∃ q, (z.len == 0) = q := ⟨_, rfl⟩
          have Hz1 := hid hz1
          have TE2 := hid (show statF ifs l k x = if !(vp && (!nx && !dd) && a1 && a2) || (nx && g1) then 1 else if z1 then 1 else if tk then 6 else 0 by
            rw [SE2.out]; unfold ifIx lenAt ifIx; rw [hi, ← Hz1.out]; simp [hzi, hji3])
          clear hi hzi hcI hji
          repeat' (first | (go_at_call 9; with_reducible refine (dV _).mono ?_; rintro e w' ⟨rfl, b⟩; have b' := then_ (w := w4) (by assumption) b; clear b; try dsimp only) | (go_at_call 45; with_reducible refine (d1 _).mono ?_; rintro e w' ⟨rfl, rfl⟩; try dsimp only) | (go_at_call 45; with_reducible refine (d2 _).mono ?_; rintro e w' ⟨rfl, rfl⟩; try dsimp only) | (go_at_call 66; with_reducible refine (dA _ (by assumption)).mono ?_; rintro e w' ⟨rfl, b⟩; have b' := then_ (w := w4) (by assumption) b; clear b; try dsimp only) | (go_at_call 67; with_reducible refine (dI _ (by assumption)).mono ?_; rintro e w' ⟨rfl, b⟩; have b' := then_ (w := w4) (by assumption) b; clear b; try dsimp only) | go_skip | go_big_skip | go_big_want | go_big_guard | go_step | go_upon)
          all_goals first | ((try simp only [Exit.inBlock, Exit.then]); refine bodyPost_ret (results_tmp (by rfl) _ _ _) (by rfl) ?_; refine ⟨ret_int (a := 1) ?_, then_ HX.out (then_ HW4.out (by assumption))⟩; have Q2 : statF ifs l k x = 1 := (by rw [TE2.out]; first | (simp [(show vp = false by first | assumption | exact bnf (by assumption))]; done) | (simp [(show nx = true by first | assumption | exact bnt (by assumption))]; done) | (simp [(show dd = true by first | assumption | exact bnt (by assumption))]; done) | (simp [(show a1 = false by first | assumption | exact bnf (by assumption))]; done) | (simp [(show a2 = false by first | assumption | exact bnf (by assumption))]; done) | (simp [(show vp = true by first | assumption | exact bnt (by assumption)), (show a1 = true by first | assumption | exact bnt (by assumption)), (show a2 = true by first | assumption | exact bnt (by assumption)), (show nx = false by first | assumption | exact bnf (by assumption)), (show dd = false by first | assumption | exact bnf (by assumption)), (show z1 = true by first | assumption | exact bnt (by assumption))]; done)); rw [E.out, D.out]; refine ((firstE_hit (by rw [Q2]; simp)).trans ?_).symm; rw [Q2]) | skip
          all_goals
            have TE3 := hid (show statF ifs l k x = if tk then 6 else 0 by rw [TE2.out]; first | (simp [(show vp = true by first | assumption | exact bnt (by assumption)), (show a1 = true by first | assumption | exact bnt (by assumption)), (show a2 = true by first | assumption | exact bnt (by assumption)), (show nx = false by first | assumption | exact bnf (by assumption)), (show dd = false by first | assumption | exact bnf (by assumption)), (show z1 = false by first | assumption | exact bnf (by assumption))]; done))
            have H5 := hid (show Below w4.heap.size w4 _ by assumption)
            go_loopg [7] k (fun gg s7 wr => ∃ j : Nat, j ≤ k ∧ k - j ≤ gg ∧ s7 = .int .i64 j ∧ Below w4.heap.size w4 wr ∧ Aside (tk = ((l.take k).drop j).any (fun y : Stc => decide (y.pfx = x.pfx) && decide (y.admin = x.admin))))
            case atStart => exact ⟨0, Nat.zero_le _, by omega, rfl, by assumption, TK.out⟩
            case round =>
              obtain ⟨j, hj, hgj, rfl, hwr2, T⟩ := hrel
              by_cases hjk : j < k
              · have hjki : (j : Int) < (k : Int) := by omega
                have hjn : (j : Int) < (n : Int) := by omega
                have hj0 : (0 : Int) ≤ (j : Int) := by omega
                obtain ⟨y, hy⟩ := get_some (l := l) (k := j) (by have := N.out; omega)
                have hcy := row_cells (f := eStc) (z := 7) (fun _ => rfl) hc hy
                have GR : Below wr.heap.size wr wr := Below.refl _ _
                have uX := fun u : Later wr.heap.size wr => FX4 u.w (then_ hwr2 u.h)
                have uF0 := fun u : Later wr.heap.size wr => FY0 u.w (then_ hwr2 u.h)
                have uF1 := fun u : Later wr.heap.size wr => FY1 u.w (then_ hwr2 u.h)
                have uF5 := fun u : Later wr.heap.size wr => FY5 u.w (then_ hwr2 u.h)
                have uY0 : ∀ u : Later wr.heap.size wr, u.w.cell? ⟨b, off + j * zStaticRoute, none⟩ = some (.int .u32 (y.pfx.addr : Int)) := fun u => by rw [ZT.out]; exact ((then_ HW4.out (then_ hwr2 u.h)).cell (p := ⟨b, off + j * 7, none⟩) hb).trans (hcy 0 _ rfl)
                have uY1 : ∀ u : Later wr.heap.size wr, u.w.cell? ⟨b, off + j * zStaticRoute + 1, none⟩ = some (.int .i64 y.pfx.len) := fun u => by rw [ZT.out]; exact ((then_ HW4.out (then_ hwr2 u.h)).cell (p := ⟨b, off + j * 7 + 1, none⟩) hb).trans (hcy 1 _ rfl)
                have uY5 : ∀ u : Later wr.heap.size wr, u.w.cell? ⟨b, off + j * zStaticRoute + 5, none⟩ = some (.int .i64 y.admin) := fun u => by rw [ZT.out]; exact ((then_ HW4.out (then_ hwr2 u.h)).cell (p := ⟨b, off + j * 7 + 5, none⟩) hb).trans (hcy 5 _ rfl)
                have dE := fun wx => hEq y.pfx x.pfx wx
                simp only [ePfx] at dE
                clear hcy
                by_cases hq : y.pfx = x.pfx
                · rw [decide_eq_true hq] at dE
                  by_cases hz : y.admin = x.admin
                  · have T2 := hid (T.out.trans (any_hit hy hjk (by rw [decide_eq_true hq, decide_eq_true hz]; rfl)))
                    have Q2 := hid (show statF ifs l k x = 6 by rw [TE3.out, T2.out]; rfl)
                    have hzb : (y.admin == x.admin) = true := by simpa using hz
                    clear hq hz
                    repeat' (first | go_skip | go_guarded | go_step | go_upon)
                    refine wp_region_base wr (by assumption) (by first | assumption | kernel_rfl) (by kernel_rfl) ?_
                    repeat (go_big_quiet_step (first | fail))
                    refine wpQuiet_nil ?_
                    rintro _ ⟨u, rfl⟩
                    have bu := u.h
                    repeat' (first | go_skip | go_guarded | go_step | go_upon)
                    (try simp only [Exit.inBlock, Exit.then]); refine bodyPost_ret (results_tmp (by rfl) _ _ _) (by rfl) ?_
                    exact ⟨ret_int (by rw [E.out, D.out]; refine ((firstE_hit (by rw [Q2.out]; simp)).trans ?_).symm; rw [Q2.out]), then_ HX.out (then_ HW4.out (then_ hwr2 (by assumption)))⟩
                  · have T2 := hid (T.out.trans (any_next hy hjk (by rw [decide_eq_true hq, decide_eq_false hz]; rfl)))
                    have hzb : (y.admin == x.admin) = false := by simpa using hz
                    clear hq hz
                    repeat' (first | go_skip | go_guarded | go_step | go_upon)
                    refine wp_region_base wr (by assumption) (by first | assumption | kernel_rfl) (by kernel_rfl) ?_
                    repeat (go_big_quiet_step (first | fail))
                    refine wpQuiet_nil ?_
                    rintro _ ⟨u, rfl⟩
                    have bu := u.h
                    repeat' (first | go_skip | go_guarded | go_step | go_upon)
                    go_roundg (k - (j + 1))
                    case measure => omega
                    case rel => exact ⟨j + 1, by omega, by omega, by go_num, then_ hwr2 (by assumption), T2.out⟩
                · rw [decide_eq_false hq] at dE
                  have T2 := hid (T.out.trans (any_next hy hjk (by rw [decide_eq_false hq]; rfl)))
                  clear hq
                  repeat' (first | go_skip | go_guarded | go_step | go_upon)
                  refine wp_region_base wr (by assumption) (by first | assumption | kernel_rfl) (by kernel_rfl) ?_
                  repeat (go_big_quiet_step (first | fail))
                  refine wpQuiet_nil ?_
                  rintro _ ⟨u, rfl⟩
                  have bu := u.h
                  repeat' (first | go_skip | go_guarded | go_step | go_upon)
                  go_roundg (k - (j + 1))
                  case measure => omega
                  case rel => exact ⟨j + 1, by omega, by omega, by go_num, then_ hwr2 (by assumption), T2.out⟩
              · have hjki : ¬ (j : Int) < (k : Int) := by omega
                have T2 := hid (T.out.trans (any_end (by omega)))
                have Q2 := hid (show statF ifs l k x = 0 by rw [TE3.out, T2.out]; rfl)
                repeat' (first | go_skip | go_guarded | go_step | go_upon)
                go_roundg (n - (k + 1))
                case measure => omega
                case rel => exact ⟨k + 1, by omega, by omega, by go_num, then_ HW4.out (by assumption), by show _ = _; rw [E.out, D.out]; exact firstE_next Q2.out⟩
    · have hlti : ¬ (k : Int) < (n : Int) := by omega
      repeat' (first | go_skip | go_guarded | go_step | go_upon)
      go_ret
      exact ⟨ret_int (by rw [E.out, drop_end (by have := N.out; omega)]; rfl), then_ HX.out (by assumption)⟩
end Go.Proofs.Ytlhbfpapmolohaa.Mw
