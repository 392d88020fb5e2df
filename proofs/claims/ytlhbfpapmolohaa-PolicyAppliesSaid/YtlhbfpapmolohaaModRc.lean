/-
  THE CONTRACT OF netverifyref8.CheckRouter.
-/
import Derived.Test.YtlhbfpapmolohaaModRi
import Derived.Test.YtlhbfpapmolohaaModRs
import Derived.Test.YtlhbfpapmolohaaModRk
import Derived.Test.YtlhbfpapmolohaaQTail
import Derived.Deep.RegionHeld3
namespace Go.Proofs.Ytlhbfpapmolohaa.Mw
set_option linter.unusedSimpArgs false
set_option linter.unusedVariables false
open Go.RowKit Kt Mm Mp Am

/-! ### The sections as the reference has them say the same -/
theorem ifs_addr {l : List Ifc} (h : ifsE l = 0) : ∀ x ∈ l, ¬ x.len = 0 → ¬ x.addr = 0 := by
  intro x hx h0 ha
  obtain ⟨j, hj⟩ := List.getElem?_of_mem hx
  have h1 := (eachE_ok.1 h).2 j x hj
  unfold ifcE at h1
  split at h1
  · cases h1
  · split at h1
    · cases h1
    · split at h1
      · cases h1
      · rename_i _ _ h3
        unfold ifcOk at h3
        rw [if_neg h0] at h3
        simp [ha] at h3
theorem filt_eq {l : List Ifc} {ac : List Acl} (h : ifsE l = 0) : firstE (fun _ x => filtE ac x) 0 l = filtsE ac l := by
  have h1 := (eachE_ok.1 h).1
  unfold filtsE eachE
  rw [if_neg (by omega)]
theorem stat_eq {ifs : List Ifc} {l : List Stc} (h : ifsE ifs = 0) : statsF ifs l = statsE ifs l := by
  unfold statsF statsE
  refine eachE_congr fun j x _ => ?_
  have e : (!decide (x.next = 0) && decide (0 ≤ adIx ifs x.next)) = decide (0 ≤ adIx ifs x.next) := by
    cases hb : decide (0 ≤ adIx ifs x.next) with
    | false => simp
    | true =>
      have hp := hb
      unfold adIx at hp
      rw [ixB_pos] at hp
      obtain ⟨y, hy, hz⟩ := List.any_eq_true.1 hp
      simp at hz
      have := ifs_addr h y hy hz.1
      simp; omega
  unfold statF statE
  rw [e]
def refL (r : Rtr) : List Int := [ifsE r.ifs, listsE r.lists, mapsE r.lists r.maps, aclsE r.acls, natE r.acls r.nat, firstE (fun _ x => filtE r.acls x) 0 r.ifs, statsF r.ifs r.sts, lsE r, dvE r, pvE r]
theorem ref_eq (r : Rtr) : rtrE r = if nmB r.name then (if wi r.asn 0 65535 then orE (refL r) else 1) else 3 := by
  have h0 : rtrE r = if idE r = 0 then orE [ifsE r.ifs, listsE r.lists, mapsE r.lists r.maps, aclsE r.acls, natE r.acls r.nat, filtsE r.acls r.ifs, statsE r.ifs r.sts, lsE r, dvE r, pvE r] else idE r := rfl
  have h1 : orE [ifsE r.ifs, listsE r.lists, mapsE r.lists r.maps, aclsE r.acls, natE r.acls r.nat, filtsE r.acls r.ifs, statsE r.ifs r.sts, lsE r, dvE r, pvE r] = orE (refL r) := by
    unfold refL
    by_cases h : ifsE r.ifs = 0
    · rw [filt_eq h, stat_eq h]
    · have e : ∀ l : List Int, orE (ifsE r.ifs :: l) = ifsE r.ifs := fun l => by unfold orE; rw [if_neg h]
      rw [e, e]
  rw [h0, h1]
  unfold idE
  cases nmB r.name <;> cases wi r.asn 0 65535 <;> simp

set_option maxHeartbeats 16000000 in
set_option maxRecDepth 4000 in
theorem rCheck (r : Rtr) (w : World) (hr : RtrIn w r) (hb : PvLens r) :
    Calls Try.prog 33 #[.agg (eRtr r).toArray] w fun e w' => e = .returned (.int .i64 (rtrE r)) ∧ Below w.heap.size w w' := by
  obtain ⟨X, hX⟩ : ∃ X, X = (eRtr r).toArray := ⟨_, rfl⟩
  obtain ⟨w1, hw1⟩ : ∃ w1, w.alloc (.cells X 55) = w1 := ⟨_, rfl⟩
  have hhX : w1.heap[w.heap.size]? = some (.cells X 55 (0, 0)) := by rw [← hw1, heap_new]
  have FX0 : ∀ v : World, Below w1.heap.size w1 v → v.cell? ⟨w.heap.size, 0, none⟩ = some (.string r.name) := fun v h => box_at (blk_keep hhX h) (by rw [hX]; rfl)
  have FX1 : ∀ v : World, Below w1.heap.size w1 v → v.cell? ⟨w.heap.size, 1, none⟩ = some (.int .i64 r.asn) := fun v h => box_at (blk_keep hhX h) (by rw [hX]; rfl)
  have FX2 : ∀ v : World, Below w1.heap.size w1 v → v.cell? ⟨w.heap.size, 2, none⟩ = some (r.vIfs) := fun v h => box_at (blk_keep hhX h) (by rw [hX]; rfl)
  have FX3 : ∀ v : World, Below w1.heap.size w1 v → v.cell? ⟨w.heap.size, 3, none⟩ = some (r.vLists) := fun v h => box_at (blk_keep hhX h) (by rw [hX]; rfl)
  have FX5 : ∀ v : World, Below w1.heap.size w1 v → v.cell? ⟨w.heap.size, 5, none⟩ = some (r.vAcls) := fun v h => box_at (blk_keep hhX h) (by rw [hX]; rfl)
  have KX : ∀ v : World, Below w1.heap.size w1 v → v.heap[w.heap.size]? = some (.cells X 55 (0, 0)) := fun v h => blk_keep hhX h
  have GX : Below w1.heap.size w1 w1 := Below.refl _ _
  have HX := hid (show Below w.heap.size w w1 by rw [← hw1]; exact new_below _ _)
  have hX' := hid hX
  try rw [← hX]
  clear hX hhX
  have hXs : X.size = 25 := by rw [hX'.out]; rfl
  have kp := fun (u : Later w1.heap.size w1) => hr.keep (then_ HX.out u.h)
  have c0 := fun (u : Later w1.heap.size w1) => rIfs r.vIfs r.ifs u.w (kp u).ifs.row (kp u).ifs.len (kp u).ifsN (kp u).ifsA
  have c1 := fun (u : Later w1.heap.size w1) => rLists r.vLists r.lists u.w (kp u).lists.row (kp u).lists.len (kp u).listsN (kp u).listsR (kp u).listsA
  have c2 := fun (u : Later w1.heap.size w1) => rMaps r u.w (kp u)
  have c3 := fun (u : Later w1.heap.size w1) => rAcls r.vAcls r.acls u.w (kp u).acls.row (kp u).acls.len (kp u).aclsN (kp u).aclsR (kp u).aclsA
  have c4 := fun (u : Later w1.heap.size w1) => rNat r u.w (kp u)
  have c5 := fun (u : Later w1.heap.size w1) => rFilts r u.w (kp u)
  have c6 := fun (u : Later w1.heap.size w1) => rSts r u.w (kp u)
  have c7 := fun (u : Later w1.heap.size w1) => rLink r u.w (kp u)
  have c8 := fun (u : Later w1.heap.size w1) => rDist r u.w (kp u)
  have c9 := fun (u : Later w1.heap.size w1) => rPV r u.w (kp u) hb
  rw [← hX'.out] at c2 c4 c5 c6 c7 c8 c9
  have hNm : ∀ wx, Calls Try.prog 44 #[.string r.name] wx fun e w' => e = .returned (.bool (nmB r.name)) ∧ wx = w' := fun wx => Sc.refName r.name wx hr.name
  have hWi := fun wx => rWithin r.asn 0 65535 wx
  obtain ⟨es, hes⟩ : ∃ es, es = refL r := ⟨_, rfl⟩
  have R := ref_eq r
  rw [← hes] at R
  unfold refL at hes
  obtain ⟨nb, hnb⟩ : ∃ q, q = nmB r.name := ⟨_, rfl⟩
  obtain ⟨wb, hwb⟩ : ∃ q, q = wi r.asn 0 65535 := ⟨_, rfl⟩
  rw [← hnb] at hNm R
  rw [← hwb] at hWi R
  obtain ⟨e0, he0⟩ : ∃ q, q = ifsE r.ifs := ⟨_, rfl⟩
  obtain ⟨e1, he1⟩ : ∃ q, q = listsE r.lists := ⟨_, rfl⟩
  obtain ⟨e2, he2⟩ : ∃ q, q = mapsE r.lists r.maps := ⟨_, rfl⟩
  obtain ⟨e3, he3⟩ : ∃ q, q = aclsE r.acls := ⟨_, rfl⟩
  obtain ⟨e4, he4⟩ : ∃ q, q = natE r.acls r.nat := ⟨_, rfl⟩
  obtain ⟨e5, he5⟩ : ∃ q, q = firstE (fun _ x => filtE r.acls x) 0 r.ifs := ⟨_, rfl⟩
  obtain ⟨e6, he6⟩ : ∃ q, q = statsF r.ifs r.sts := ⟨_, rfl⟩
  obtain ⟨e7, he7⟩ : ∃ q, q = lsE r := ⟨_, rfl⟩
  obtain ⟨e8, he8⟩ : ∃ q, q = dvE r := ⟨_, rfl⟩
  obtain ⟨e9, he9⟩ : ∃ q, q = pvE r := ⟨_, rfl⟩
  rw [← he0] at c0 hes
  rw [← he1] at c1 hes
  rw [← he2] at c2 hes
  rw [← he3] at c3 hes
  rw [← he4] at c4 hes
  rw [← he5] at c5 hes
  rw [← he6] at c6 hes
  rw [← he7] at c7 hes
  rw [← he8] at c8 hes
  rw [← he9] at c9 hes
  have RR := hid R
  have ES := hid hes
  clear he0 he1 he2 he3 he4 he5 he6 he7 he8 he9 hnb hwb hr hb kp R hes
  obtain ⟨vI, hvI⟩ : ∃ v, v = r.vIfs := ⟨_, rfl⟩
  obtain ⟨vL, hvL⟩ : ∃ v, v = r.vLists := ⟨_, rfl⟩
  obtain ⟨vA, hvA⟩ : ∃ v, v = r.vAcls := ⟨_, rfl⟩
  rw [← hvI] at FX2 c0
  rw [← hvL] at FX3 c1
  rw [← hvA] at FX5 c3
  clear hvI hvL hvA
  obtain ⟨P, hP⟩ : ∃ P, P = Try.prog := ⟨_, rfl⟩
  have HP := hid hP
  have mixed : P.follows .mixedOrders = true := by rw [hP]; kernel_rfl
  have FG : P.funcs[33]? = some Try.f33 := by rw [hP]; exact Try.func33
  obtain ⟨zRouter, hzRouter⟩ : ∃ z, z = 25 := ⟨_, rfl⟩
  have nzRouter : ¬ zRouter = 0 := by omega
  have ty3 := Try.underlying3; have ag3 := Try.isAgg3; have sz3 := Try.sizeOf3; have ru3 := Try.runUnderlying3
  have ty4 := Try.underlying4; have ag4 := Try.isAgg4; have sz4 := Try.sizeOf4; have ru4 := Try.runUnderlying4
  have ty9 := Try.underlying9; have ag9 := Try.isAgg9; have sz9 := Try.sizeOf9; have ru9 := Try.runUnderlying9
  have ty36 := Try.underlying36; have ag36 := Try.isAgg36; have sz36 := Try.sizeOf36; have ru36 := Try.runUnderlying36
  have ty37 := Try.underlying37; have ag37 := Try.isAgg37; have sz37 := Try.sizeOf37; have ru37 := Try.runUnderlying37
  have ty39 := Try.underlying39; have ag39 := Try.isAgg39; have sz39 := Try.sizeOf39; have ru39 := Try.runUnderlying39
  have ty55 := Try.underlying55; have ag55 := Try.isAgg55; have sz55 := Try.sizeOf55; have ru55 := Try.runUnderlying55
  rw [← hzRouter] at sz55
  have ty81 := Try.underlying81; have ag81 := Try.isAgg81; have sz81 := Try.sizeOf81; have ru81 := Try.runUnderlying81
  have zeErrno := Try.zeroValue81
  have ty99 := Try.underlying99; have ag99 := Try.isAgg99; have sz99 := Try.sizeOf99; have ru99 := Try.runUnderlying99
  have zeSErrno := Try.zeroValue99
  have en0 : ∀ args w, (callFunc 44 args).run Try.prog w = .ok (.enter 44 args) w := enters_of Try.func44 (by kernel_rfl) rfl
  have en1 : ∀ args w, (callFunc 49 args).run Try.prog w = .ok (.enter 49 args) w := enters_of Try.func49 (by kernel_rfl) rfl
  have en2 : ∀ args w, (callFunc 54 args).run Try.prog w = .ok (.enter 54 args) w := enters_of Try.func54 (by kernel_rfl) rfl
  have en3 : ∀ args w, (callFunc 51 args).run Try.prog w = .ok (.enter 51 args) w := enters_of Try.func51 (by kernel_rfl) rfl
  have en4 : ∀ args w, (callFunc 46 args).run Try.prog w = .ok (.enter 46 args) w := enters_of Try.func46 (by kernel_rfl) rfl
  have en5 : ∀ args w, (callFunc 53 args).run Try.prog w = .ok (.enter 53 args) w := enters_of Try.func53 (by kernel_rfl) rfl
  have en6 : ∀ args w, (callFunc 55 args).run Try.prog w = .ok (.enter 55 args) w := enters_of Try.func55 (by kernel_rfl) rfl
  have en7 : ∀ args w, (callFunc 47 args).run Try.prog w = .ok (.enter 47 args) w := enters_of Try.func47 (by kernel_rfl) rfl
  have en8 : ∀ args w, (callFunc 48 args).run Try.prog w = .ok (.enter 48 args) w := enters_of Try.func48 (by kernel_rfl) rfl
  have en9 : ∀ args w, (callFunc 52 args).run Try.prog w = .ok (.enter 52 args) w := enters_of Try.func52 (by kernel_rfl) rfl
  have en10 : ∀ args w, (callFunc 50 args).run Try.prog w = .ok (.enter 50 args) w := enters_of Try.func50 (by kernel_rfl) rfl
  have en11 : ∀ args w, (callFunc 45 args).run Try.prog w = .ok (.enter 45 args) w := enters_of Try.func45 (by kernel_rfl) rfl
  rw [← hP] at ty3 ag3 sz3 ru3 ty4 ag4 sz4 ru4 ty9 ag9 sz9 ru9 ty36 ag36 sz36 ru36 ty37 ag37 sz37 ru37 ty39 ag39 sz39 ru39 ty55 ag55 sz55 ru55 ty81 ag81 sz81 ru81 zeErrno ty99 ag99 sz99 ru99 zeSErrno en0 en1 en2 en3 en4 en5 en6 en7 en8 en9 en10 en11 hNm hWi c0 c1 c2 c3 c4 c5 c6 c7 c8 c9 ⊢
  clear hP
  have LX : ∀ v : World, Below w1.heap.size w1 v → Sem.run P (loadCellsFrom ⟨w.heap.size, 0, none⟩ 0 zRouter #[]) v = .ok X v := fun v h => ld_box P (KX v h) (by rw [hzRouter]; exact hXs)
  have ZR := hid hzRouter
  clear hzRouter KX hXs
  have uFX2 := fun u : Later w1.heap.size w1 => FX2 u.w u.h
  have uFX3 := fun u : Later w1.heap.size w1 => FX3 u.w u.h
  have uFX5 := fun u : Later w1.heap.size w1 => FX5 u.w u.h
  have uLX := fun u : Later w1.heap.size w1 => LX u.w u.h
  have G1 : Below w1.heap.size w1 w1 := GX
  go_enter FG, Try.ntmps33
  cases nb
  case false =>
    repeat' (first | (go_at_call 44; with_reducible refine (hNm _).mono ?_; rintro e w' ⟨rfl, rfl⟩; try dsimp only) | (go_at_call 45; with_reducible refine (hWi _).mono ?_; rintro e w' ⟨rfl, rfl⟩; try dsimp only) | go_skip | go_guarded | go_step | go_upon)
    go_ret
    exact ⟨ret_int (by rw [RR.out]; rfl), HX.out⟩
  cases wb
  case false =>
    repeat' (first | (go_at_call 44; with_reducible refine (hNm _).mono ?_; rintro e w' ⟨rfl, rfl⟩; try dsimp only) | (go_at_call 45; with_reducible refine (hWi _).mono ?_; rintro e w' ⟨rfl, rfl⟩; try dsimp only) | go_skip | go_guarded | go_step | go_upon)
    go_ret
    exact ⟨ret_int (by rw [RR.out]; rfl), HX.out⟩
  repeat' (first | (go_at_call 44; with_reducible refine (hNm _).mono ?_; rintro e w' ⟨rfl, rfl⟩; try dsimp only) | (go_at_call 45; with_reducible refine (hWi _).mono ?_; rintro e w' ⟨rfl, rfl⟩; try dsimp only) | go_skip | go_guarded | go_step | go_upon)
  refine wp_region_qtail 23 w1 G1 mixed (by kernel_rfl) ?_
  simp only [List.take_succ_cons, List.take_zero, List.drop_succ_cons, List.drop_zero]
  repeat (go_big_quiet_step (first | (go_at_call 46; with_reducible exact later_of (Nat.le_refl _) (c0 _)) | (go_at_call 47; with_reducible exact later_of (Nat.le_refl _) (c1 _)) | (go_at_call 48; with_reducible exact later_of (Nat.le_refl _) (c2 _)) | (go_at_call 49; with_reducible exact later_of (Nat.le_refl _) (c3 _)) | (go_at_call 50; with_reducible exact later_of (Nat.le_refl _) (c4 _)) | (go_at_call 51; with_reducible exact later_of (Nat.le_refl _) (c5 _)) | (go_at_call 52; with_reducible exact later_of (Nat.le_refl _) (c6 _)) | (go_at_call 53; with_reducible exact later_of (Nat.le_refl _) (c7 _)) | (go_at_call 54; with_reducible exact later_of (Nat.le_refl _) (c8 _)) | (go_at_call 55; with_reducible exact later_of (Nat.le_refl _) (c9 _))))
  refine wpQuiet_nil ?_
  rintro _ ⟨u, rfl⟩
  have bu := u.h
  clear c0 c1 c2 c3 c4 c5 c6 c7 c8 c9 uFX2 uFX3 uFX5 uLX FX0 FX1 FX2 FX3 FX5 LX hNm hWi
  repeat' (first | go_skip | go_guarded | go_step | go_upon)
  obtain ⟨W, hW⟩ : ∃ W, W = u.w.alloc (.cells #[.int .i64 e0, .int .i64 e1, .int .i64 e2, .int .i64 e3, .int .i64 e4, .int .i64 e5, .int .i64 e6, .int .i64 e7, .int .i64 e8, .int .i64 e9] 81) := ⟨_, rfl⟩
  have cE : ∀ (k : Nat) (e : Int), es[k]? = some e → W.cell? ⟨u.w.heap.size, k, none⟩ = some (.int .i64 e) := fun k e h => by
    rw [hW]
    refine box_at (heap_new _ _) ?_
    rw [ES.out] at h
    have : ([e0, e1, e2, e3, e4, e5, e6, e7, e8, e9].map (fun x => Value.int .i64 x))[k]? = some (.int .i64 e) := by rw [List.getElem?_map, h]; rfl
    rw [List.getElem?_toArray]; exact this
  have HW := hid (show Below w.heap.size w W by rw [hW]; exact then_ (then_ HX.out bu) (al1 _ _))
  have EL : es.length = 10 := by rw [ES.out]; rfl
  rw [← hW]
  obtain ⟨g, hgb⟩ : ∃ g, g = u.w.heap.size := ⟨_, rfl⟩
  rw [← hgb] at cE ⊢
  have EL := hid EL
  clear hW bu hgb
  have R2 := hid (show rtrE r = orE es by rw [RR.out]; rfl)
  go_loopg [4] 10 (fun gg s4 wr => ∃ k : Nat, k ≤ 10 ∧ 10 - k ≤ gg ∧ s4 = .int .i64 k ∧ wr = W ∧ Aside (rtrE r = orE (es.drop k)))
  case atStart => exact ⟨0, by omega, by omega, rfl, rfl, R2.out⟩
  case round =>
    obtain ⟨k, hk, hg, rfl, rfl, E⟩ := hrel
    by_cases hlt : k < 10
    · have hlti : (k : Int) < 10 := by omega
      obtain ⟨e, hx⟩ := get_some (l := es) (k := k) (by rw [EL.out]; exact hlt)
      have c1 := cE k e hx
      have D : Aside (es.drop k = e :: es.drop (k + 1)) := drop_get hx
      clear cE hx
      by_cases h0 : e = 0
      · subst h0
        repeat' (first | go_skip | go_guarded | go_step | go_upon)
        go_roundg (10 - (k + 1))
        case measure => omega
        case rel =>
          refine ⟨k + 1, by omega, by omega, by go_num, rfl, ?_⟩
          show _ = _
          rw [E.out, D.out]; rfl
      · have h0b : (e != 0) = true := by simpa using h0
        have Q := hid (show rtrE r = e by rw [E.out, D.out]; unfold orE; rw [if_neg h0])
        clear h0
        repeat' (first | go_skip | go_guarded | go_step | go_upon)
        go_ret
        exact ⟨ret_int Q.out.symm, HW.out⟩
    · have hlti : ¬ (k : Int) < 10 := by omega
      have Q := hid (show rtrE r = 0 by rw [E.out, drop_end (by rw [EL.out]; omega)]; rfl)
      clear cE
      repeat' (first | go_skip | go_guarded | go_step | go_upon)
      go_ret
      exact ⟨ret_int Q.out.symm, HW.out⟩
end Go.Proofs.Ytlhbfpapmolohaa.Mw
