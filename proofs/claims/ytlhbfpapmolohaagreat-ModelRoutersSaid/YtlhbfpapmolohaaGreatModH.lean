/-
  THE CONTRACT OF model's CHECK OF THE STATIC ROUTES.
-/
import Derived.Test.YtlhbfpapmolohaaGreatModY
namespace Go.Proofs.YtlhbfpapmolohaaGreat.Mp
theorem ixF_found {α : Type} {p : α → Bool} : ∀ {l : List α} {i : Nat}, 0 ≤ ixF p i l → ∃ k x, l[k]? = some x ∧ ixF p i l = ((i + k : Nat) : Int)
  | [], i, h => by simp [ixF] at h
  | x :: l, i, h => by
    cases hp : p x with
    | true => exact ⟨0, x, rfl, by rw [ixF_hit hp]; rfl⟩
    | false =>
      rw [ixF_next hp] at h ⊢
      obtain ⟨k, y, hy, e⟩ := ixF_found h
      exact ⟨k + 1, y, by simpa using hy, by rw [e, show i + 1 + k = i + (k + 1) by omega]⟩
theorem ixB_found {α : Type} {p : α → Bool} {l : List α} (h : 0 ≤ ixB p l) : ∃ (k : Nat) (x : α), l[k]? = some x ∧ ixB p l = (k : Int) := by
  obtain ⟨k, x, hx, e⟩ := ixF_found h
  exact ⟨k, x, hx, by unfold ixB; rw [e, Nat.zero_add]⟩
end Go.Proofs.YtlhbfpapmolohaaGreat.Mp
namespace Go.Proofs.YtlhbfpapmolohaaGreat.Mw
set_option linter.unusedSimpArgs false
set_option linter.unusedVariables false
open Go.RowKit Kt Mm Mp

set_option maxHeartbeats 8000000 in
theorem clSts (r : Rtr) (i : Nat) (x : Stc) (B : Nat) (w : World) (hr : RtrIn w r) (hB : w.heap[B]? = some (.cells (eRtr r).toArray 41 (0, 0))) (hx : r.sts[i]? = some x) :
    Calls Tryz.prog 94 #[.int .i64 (i : Int), .agg (eStc x).toArray, .pointer (some ⟨B, 0, none⟩)] w fun e w' => e = .returned (.int .i64 (statE r.ifs r.sts i x)) ∧ Below w.heap.size w w' := by
  have hm := get_mem hx
  have hF := fun wx => fitsStat x wx (hr.stsA x hm).1
  obtain ⟨b, off, cap, hv, hcap, hb, hcell⟩ := row_addr (z := 7) (by decide) hr.sts.row hx
  have hlt : i < r.sts.length := (List.getElem?_eq_some_iff.1 hx).1
  obtain ⟨A, hA⟩ : ∃ A, A = (eRtr r).toArray := ⟨_, rfl⟩
  have hA2 : A[2]? = some r.vIfs := by rw [hA]; rfl
  have hA7 : A[7]? = some (.slice (some ⟨b, off, none⟩) r.sts.length cap) := by rw [hA, ← hv]; rfl
  have hAs : A.size = 25 := by rw [hA]; rfl
  rw [← hA] at hB
  obtain ⟨X, hX⟩ : ∃ X, X = (eStc x).toArray := ⟨_, rfl⟩
  obtain ⟨w1, hw1⟩ : ∃ w1, w.alloc (.cells X 58) = w1 := ⟨_, rfl⟩
  have hhX : w1.heap[w.heap.size]? = some (.cells X 58 (0, 0)) := by rw [← hw1, heap_new]
  have FX2 : ∀ v : World, Below w1.heap.size w1 v → v.cell? ⟨w.heap.size, 2, none⟩ = some (.int .u32 (x.next : Int)) := fun v h => box_at (blk_keep hhX h) (by rw [hX]; rfl)
  have FX3 : ∀ v : World, Below w1.heap.size w1 v → v.cell? ⟨w.heap.size, 3, none⟩ = some (.string x.ifc) := fun v h => box_at (blk_keep hhX h) (by rw [hX]; rfl)
  have KX : ∀ v : World, Below w1.heap.size w1 v → v.heap[w.heap.size]? = some (.cells X 58 (0, 0)) := fun v h => blk_keep hhX h
  have GX : Below w1.heap.size w1 w1 := Below.refl _ _
  have HX := hid (show Below w.heap.size w w1 by rw [← hw1]; exact new_below _ _)
  have hX' := hid hX
  try rw [← hX]
  clear hX hhX
  have KS : ∀ v : World, Below w1.heap.size w1 v → v.heap[B]? = some (.cells A 41 (0, 0)) := fun v h => by rw [← hB]; exact (Below.block h _ (Nat.lt_of_lt_of_le (blk_lt hB) HX.out.size)).trans (HX.out.block _ (blk_lt hB))
  have S2 : ∀ v : World, Below w1.heap.size w1 v → v.cell? ⟨B, 2, none⟩ = some (r.vIfs) := fun v h => box_at (KS v h) (by first | exact hA2 | exact hA7)
  have S7 : ∀ v : World, Below w1.heap.size w1 v → v.cell? ⟨B, 7, none⟩ = some (.slice (some ⟨b, off, none⟩) r.sts.length cap) := fun v h => box_at (KS v h) (by first | exact hA2 | exact hA7)
  have hrow := hr.ifs.row
  have hlen := hr.ifs.len
  have hAd := fun wx (h : Below w1.heap.size w1 wx) => lkAdr A r.vIfs r.ifs x.next wx hA2 (rows_keep hrow (then_ HX.out h)) hlen
  have hQ := fun wx (h : Below w1.heap.size w1 wx) => lkIfc A r.vIfs r.ifs x.ifc wx hA2 (rows_keep hrow (then_ HX.out h)) hlen
  have hU := fun wx (h : Below w1.heap.size w1 wx) => isUnk A x.ifc (ifIx r.ifs x.ifc) 41 (enters_of Tryz.func41 (by kernel_rfl) rfl) wx hAs (fun W hb => lkIfc A r.vIfs r.ifs x.ifc W hA2 (rows_keep hrow (then_ (then_ HX.out h) hb)) hlen)
  have hRp := fun wx (h : Below w1.heap.size w1 wx) => isRepeated (.slice (some ⟨b, off, none⟩) i cap) (r.sts.take i) x wx (rows_keep (row_take (f := eStc) (z := 7) (fun _ => rfl) (by rw [← hv]; exact hr.sts.row) rfl (Nat.le_of_lt hlt)) (then_ HX.out h)) (by have := hr.sts.len; rw [List.length_take]; omega)
  rw [← hX'.out] at hF hRp
  obtain ⟨f1, hf1⟩ : ∃ f1, f1 = statOk x := ⟨_, rfl⟩
  obtain ⟨ad, had⟩ : ∃ ad, ad = adIx r.ifs x.next := ⟨_, rfl⟩
  obtain ⟨q, hq⟩ : ∃ q, q = ixB (fun y : Ifc => y.name.toList == x.ifc.toList) r.ifs := ⟨_, rfl⟩
  obtain ⟨u1, hu1⟩ : ∃ u1, u1 = unk x.ifc (ifIx r.ifs x.ifc) := ⟨_, rfl⟩
  obtain ⟨o, ho⟩ : ∃ o, o = (r.sts.take i).any (fun y => decide (y.pfx = x.pfx) && decide (y.admin = x.admin)) := ⟨_, rfl⟩
  have R := hid (show statE r.ifs r.sts i x = if !f1 || decide (0 ≤ ad) then 1 else if u1 then 5 else if !noS x.ifc && decide (lenAt r.ifs x.ifc = 0) then 1 else if o then 6 else 0 by rw [hf1, had, hu1, ho]; rfl)
  have hu2 : u1 = (!noS x.ifc && decide (q < 0)) := by rw [hu1, hq]; rfl
  have hfnd := fun h : 0 ≤ q => ixB_found (p := fun y : Ifc => y.name.toList == x.ifc.toList) (l := r.ifs) (by rw [← hq]; exact h)
  rw [← hf1] at hF
  rw [← had] at hAd
  rw [← hq] at hQ hfnd
  rw [← hu1] at hU
  rw [← ho] at hRp
  have hlat : ∀ (k : Nat) (y : Ifc), r.ifs[k]? = some y → q = (k : Int) → lenAt r.ifs x.ifc = y.len := by
    intro k y hy e
    unfold lenAt ifIx
    rw [← hq, e, Int.toNat_natCast, hy]
  have hlen2 := hr.sts.len
  obtain ⟨m, hmm⟩ : ∃ m, m = r.sts.length := ⟨_, rfl⟩
  rw [← hmm] at S7 hcap hlt hlen2
  have hli : (i : Int) ≤ (cap : Int) := by omega
  have hl0 : (0 : Int) ≤ (i : Int) := by omega
  have hrowI := hr.ifs.row
  clear hf1 had hq hu1 ho hA hA2 hA7 hrow hr hB hcell hx hm hmm hv
  obtain ⟨P, hP⟩ : ∃ P, P = Tryz.prog := ⟨_, rfl⟩
  have HP := hid hP
  have mixed : P.follows .mixedOrders = true := by rw [hP]; kernel_rfl
  have FG : P.funcs[94]? = some Tryz.f94 := by rw [hP]; exact Tryz.func94
  obtain ⟨zRouter, hzRouter⟩ : ∃ z, z = 25 := ⟨_, rfl⟩
  have nzRouter : ¬ zRouter = 0 := by omega
  obtain ⟨zStaticRoute, hzStaticRoute⟩ : ∃ z, z = 7 := ⟨_, rfl⟩
  have nzStaticRoute : ¬ zStaticRoute = 0 := by omega
  have ty3 := Tryz.underlying3; have ag3 := Tryz.isAgg3; have sz3 := Tryz.sizeOf3; have ru3 := Tryz.runUnderlying3
  have ty4 := Tryz.underlying4; have ag4 := Tryz.isAgg4; have sz4 := Tryz.sizeOf4; have ru4 := Tryz.runUnderlying4
  have ty9 := Tryz.underlying9; have ag9 := Tryz.isAgg9; have sz9 := Tryz.sizeOf9; have ru9 := Tryz.runUnderlying9
  have ty22 := Tryz.underlying22; have ag22 := Tryz.isAgg22; have sz22 := Tryz.sizeOf22; have ru22 := Tryz.runUnderlying22
  have ty27 := Tryz.underlying27; have ag27 := Tryz.isAgg27; have sz27 := Tryz.sizeOf27; have ru27 := Tryz.runUnderlying27
  have ty41 := Tryz.underlying41; have ag41 := Tryz.isAgg41; have sz41 := Tryz.sizeOf41; have ru41 := Tryz.runUnderlying41
  rw [← hzRouter] at sz41
  have ty52 := Tryz.underlying51; have ag52 := Tryz.isAgg51; have sz52 := Tryz.sizeOf51; have ru52 := Tryz.runUnderlying51
  have ty54 := Tryz.underlying53; have ag54 := Tryz.isAgg53; have sz54 := Tryz.sizeOf53; have ru54 := Tryz.runUnderlying53
  have ty55 := Tryz.underlying54; have ag55 := Tryz.isAgg54; have sz55 := Tryz.sizeOf54; have ru55 := Tryz.runUnderlying54
  have ty59 := Tryz.underlying58; have ag59 := Tryz.isAgg58; have sz59 := Tryz.sizeOf58; have ru59 := Tryz.runUnderlying58
  rw [← hzStaticRoute] at sz59
  have en0 : ∀ args w, (callFunc 42 args).run Tryz.prog w = .ok (.enter 42 args) w := enters_of Tryz.func42 (by kernel_rfl) rfl
  have en1 : ∀ args w, (callFunc 41 args).run Tryz.prog w = .ok (.enter 41 args) w := enters_of Tryz.func41 (by kernel_rfl) rfl
  have en2 : ∀ args w, (callFunc 95 args).run Tryz.prog w = .ok (.enter 95 args) w := enters_of Tryz.func95 (by kernel_rfl) rfl
  have en3 : ∀ args w, (callFunc 96 args).run Tryz.prog w = .ok (.enter 96 args) w := enters_of Tryz.func96 (by kernel_rfl) rfl
  have en4 : ∀ args w, (callFunc 81 args).run Tryz.prog w = .ok (.enter 81 args) w := enters_of Tryz.func81 (by kernel_rfl) rfl
  rw [← hP] at ty3 ag3 sz3 ru3 ty4 ag4 sz4 ru4 ty9 ag9 sz9 ru9 ty22 ag22 sz22 ru22 ty27 ag27 sz27 ru27 ty41 ag41 sz41 ru41 ty52 ag52 sz52 ru52 ty54 ag54 sz54 ru54 ty55 ag55 sz55 ru55 ty59 ag59 sz59 ru59 en0 en1 en2 en3 en4 hF hAd hQ hU hRp ⊢
  clear hP
  have LX : ∀ v : World, Below w1.heap.size w1 v → Sem.run P (loadCellsFrom ⟨w.heap.size, 0, none⟩ 0 zStaticRoute #[]) v = .ok X v := fun v h => ld_box P (KX v h) (by rw [hzStaticRoute]; exact (by rw [hX'.out]; rfl))
  have LS : ∀ v : World, Below w1.heap.size w1 v → Sem.run P (loadCellsFrom ⟨B, 0, none⟩ 0 zRouter #[]) v = .ok A v := fun v h => ld_box P (KS v h) (by rw [hzRouter]; exact hAs)
  clear KX KS hzRouter hzStaticRoute
  cases hs : x.ifc.toList.isEmpty with
  | true =>
    have hu3 : u1 = false := by rw [hu2]; unfold noS; rw [hs]; rfl
    have R2 := hid (show statE r.ifs r.sts i x = if !f1 || decide (0 ≤ ad) then 1 else if o then 6 else 0 by rw [R.out, hu3]; unfold noS; rw [hs]; rfl)
    rw [hu3] at hU
    have hse : x.ifc.toList = [] := by simpa using hs
    clear R hu2 hu3 hfnd hlat hrowI
    have uFX2 := fun u : Later w1.heap.size w1 => FX2 u.w u.h
    have uFX3 := fun u : Later w1.heap.size w1 => FX3 u.w u.h
    have uLX := fun u : Later w1.heap.size w1 => LX u.w u.h
    have uS2 := fun u : Later w1.heap.size w1 => S2 u.w u.h
    have uS7 := fun u : Later w1.heap.size w1 => S7 u.w u.h
    have uLS := fun u : Later w1.heap.size w1 => LS u.w u.h
    go_enter FG, Tryz.ntmps94
    repeat' (first | (go_at_call 95; with_reducible refine (hF _).mono ?_; rintro e w' ⟨rfl, b⟩; have b' := then_ (w := w1) (by assumption) b; clear b; try dsimp only) | (go_at_call 42; with_reducible refine (hAd _ (by assumption)).mono ?_; rintro e w' ⟨rfl, b⟩; have b' := then_ (w := w1) (by assumption) b; clear b; try dsimp only) | (go_at_call 81; with_reducible refine (hU _ (by assumption)).mono ?_; rintro e w' ⟨rfl, b⟩; have b' := then_ (w := w1) (by assumption) b; clear b; try dsimp only) | go_skip | go_guarded | go_step | go_upon)
    all_goals try (go_ret; exact ⟨ret_int (by rw [R2.out]; simp_all), then_ HX.out (by assumption)⟩)
    all_goals
      refine wp_region_base w1 (by assumption) (by first | assumption | kernel_rfl) (by kernel_rfl) ?_
      repeat (go_big_quiet_step (first | fail))
      refine wpQuiet_nil ?_
      rintro _ ⟨u, rfl⟩
      have bu := u.h
      repeat' (first | go_skip | go_guarded | go_step | go_upon)
      refine wp_region_base w1 (by assumption) (by first | assumption | kernel_rfl) (by kernel_rfl) ?_
      repeat (go_big_quiet_step (first | (go_at_call 96; with_reducible exact later_of (Nat.le_refl _) (hRp _ (Later.h _)))))
      refine wpQuiet_nil ?_
      rintro _ ⟨u, rfl⟩
      have bu := u.h
      repeat' (first | go_skip | go_guarded | go_step | go_upon)
      all_goals go_ret
      all_goals exact ⟨ret_int (by rw [R2.out]; simp_all), then_ HX.out (by assumption)⟩
  | false =>
    have hse : ¬ x.ifc.toList = [] := by intro h; rw [h] at hs; cases hs
    by_cases hq0 : q < 0
    · have hu3 : u1 = true := by rw [hu2, decide_eq_true hq0]; unfold noS; rw [hs]; rfl
      have R2 := hid (show statE r.ifs r.sts i x = if !f1 || decide (0 ≤ ad) then 1 else 5 by rw [R.out, hu3]; rfl)
      rw [hu3] at hU
      clear R hu2 hu3 hfnd hlat hrowI
      go_enter FG, Tryz.ntmps94
      repeat' (first | (go_at_call 95; with_reducible refine (hF _).mono ?_; rintro e w' ⟨rfl, b⟩; have b' := then_ (w := w1) (by assumption) b; clear b; try dsimp only) | (go_at_call 42; with_reducible refine (hAd _ (by assumption)).mono ?_; rintro e w' ⟨rfl, b⟩; have b' := then_ (w := w1) (by assumption) b; clear b; try dsimp only) | (go_at_call 81; with_reducible refine (hU _ (by assumption)).mono ?_; rintro e w' ⟨rfl, b⟩; have b' := then_ (w := w1) (by assumption) b; clear b; try dsimp only) | go_skip | go_guarded | go_step | go_upon)
      all_goals go_ret
      all_goals exact ⟨ret_int (by rw [R2.out]; simp_all), then_ HX.out (by assumption)⟩
    · obtain ⟨k, y, hy, e⟩ := hfnd (by omega)
      have hu3 : u1 = false := by rw [hu2, decide_eq_false hq0, Bool.and_false]
      have R2 := hid (show statE r.ifs r.sts i x = if !f1 || decide (0 ≤ ad) then 1 else if decide (y.len = 0) then 1 else if o then 6 else 0 by rw [R.out, hu3, hlat k y hy e]; unfold noS; rw [hs]; rfl)
      rw [hu3] at hU
      obtain ⟨b2, off2, cap2, hv2, hcap2, hb2, hcell2⟩ := row_addr (z := 12) (by decide) hrowI hy
      have hk2 : k < r.ifs.length := (List.getElem?_eq_some_iff.1 hy).1
      have Y2 : ∀ v : World, Below w1.heap.size w1 v → v.cell? ⟨b2, off2 + k * 12 + 2, none⟩ = some (.int .i64 y.len) := fun v h =>
        ((then_ HX.out h).cell (p := ⟨b2, off2 + k * 12 + 2, none⟩) hb2).trans (row_cells (f := eIfc) (z := 12) (fun _ => rfl) hcell2 hy 2 _ rfl)
      rw [hv2] at S2
      rw [e] at hQ
      obtain ⟨m2, hm2⟩ : ∃ m2, m2 = r.ifs.length := ⟨_, rfl⟩
      rw [← hm2] at S2 hk2 hcap2
      have hk3 : (k : Int) < (m2 : Int) := by omega
      clear R hu2 hu3 hfnd hlat hrowI hy e hv2 hcell2 hm2 hq0
      have uFX2 := fun u : Later w1.heap.size w1 => FX2 u.w u.h
      have uFX3 := fun u : Later w1.heap.size w1 => FX3 u.w u.h
      have uLX := fun u : Later w1.heap.size w1 => LX u.w u.h
      have uS2 := fun u : Later w1.heap.size w1 => S2 u.w u.h
      have uS7 := fun u : Later w1.heap.size w1 => S7 u.w u.h
      have uLS := fun u : Later w1.heap.size w1 => LS u.w u.h
      have uY2 := fun u : Later w1.heap.size w1 => Y2 u.w u.h
      go_enter FG, Tryz.ntmps94
      repeat' (first | (go_at_call 95; with_reducible refine (hF _).mono ?_; rintro e w' ⟨rfl, b⟩; have b' := then_ (w := w1) (by assumption) b; clear b; try dsimp only) | (go_at_call 42; with_reducible refine (hAd _ (by assumption)).mono ?_; rintro e w' ⟨rfl, b⟩; have b' := then_ (w := w1) (by assumption) b; clear b; try dsimp only) | (go_at_call 81; with_reducible refine (hU _ (by assumption)).mono ?_; rintro e w' ⟨rfl, b⟩; have b' := then_ (w := w1) (by assumption) b; clear b; try dsimp only) | go_skip | go_guarded | go_step | go_upon)
      all_goals try (go_ret; exact ⟨ret_int (by rw [R2.out]; simp_all), then_ HX.out (by assumption)⟩)
      all_goals
        refine wp_region_base w1 (by assumption) (by first | assumption | kernel_rfl) (by kernel_rfl) ?_
        repeat (go_big_quiet_step (first | (go_at_call 41; with_reducible exact later_of (Nat.le_refl _) (hQ _ (Later.h _)))))
        refine wpQuiet_nil ?_
        rintro _ ⟨u, rfl⟩
        have bu := u.h
        repeat' (first | go_skip | go_guarded | go_step | go_upon)
        all_goals try (go_ret; exact ⟨ret_int (by rw [R2.out]; simp_all), then_ HX.out (by assumption)⟩)
        all_goals
          refine wp_region_base w1 (by assumption) (by first | assumption | kernel_rfl) (by kernel_rfl) ?_
          repeat (go_big_quiet_step (first | (go_at_call 96; with_reducible exact later_of (Nat.le_refl _) (hRp _ (Later.h _)))))
          refine wpQuiet_nil ?_
          rintro _ ⟨u, rfl⟩
          have bu := u.h
          repeat' (first | go_skip | go_guarded | go_step | go_upon)
          all_goals go_ret
          all_goals exact ⟨ret_int (by rw [R2.out]; simp_all), then_ HX.out (by assumption)⟩
end Go.Proofs.YtlhbfpapmolohaaGreat.Mw
