/-
  THE CONTRACT OF model.CheckRouter.
-/
import Derived.Test.YtlhbfpapmolohaaGreatModH
import Derived.Test.YtlhbfpapmolohaaGreatModD1
import Derived.Test.YtlhbfpapmolohaaGreatModD2
namespace Go.Proofs.YtlhbfpapmolohaaGreat.Mw
set_option linter.unusedSimpArgs false
set_option linter.unusedVariables false
open Go.RowKit Kt Mm Mp


set_option maxHeartbeats 1000000 in
theorem chkSts (r : Rtr) (w : World) (hr : RtrIn w r) :
    Calls Tryz.prog 24 #[.agg (eRtr r).toArray] w fun e w' => e = .returned (.int .i64 (statsE r.ifs r.sts)) ∧ Below w.heap.size w w' := by
  have hB : (w.alloc (.cells (eRtr r).toArray 41)).heap[w.heap.size]? = some (.cells (eRtr r).toArray 41 (0, 0)) := heap_new _ _
  have hc := eachStc r.vSts r.sts 16 (statE r.ifs r.sts) 94 #[.pointer (some ⟨w.heap.size, 0, none⟩)] (enters_of Tryz.func94 (by kernel_rfl) rfl) (w.alloc (.cells (eRtr r).toArray 41)) (rows_keep hr.sts.row (new_below _ _)) hr.sts.len
    (fun x _ => by simp [eStc, one_str, one_int, one_bool]) (fun W i x hx hbw => clSts r i x _ W (hr.keep (then_ (new_below _ _) hbw)) (blk_keep hB hbw) hx)
  have R := hid (show statsE r.ifs r.sts = eachE 16 (statE r.ifs r.sts) r.sts from rfl)
  obtain ⟨e0, he⟩ : ∃ e0, e0 = eachE 16 (statE r.ifs r.sts) r.sts := ⟨_, rfl⟩
  rw [← he] at hc R
  obtain ⟨v0, hv⟩ : ∃ v0, v0 = r.vSts := ⟨_, rfl⟩
  obtain ⟨X, hX⟩ : ∃ X, X = (eRtr r).toArray := ⟨_, rfl⟩
  obtain ⟨w1, hw1⟩ : ∃ w1, w.alloc (.cells X 41) = w1 := ⟨_, rfl⟩
  have hhX : w1.heap[w.heap.size]? = some (.cells X 41 (0, 0)) := by rw [← hw1, heap_new]
  have FX7 : ∀ v : World, Below w1.heap.size w1 v → v.cell? ⟨w.heap.size, 7, none⟩ = some (r.vSts) := fun v h => box_at (blk_keep hhX h) (by rw [hX]; rfl)
  have GX : Below w1.heap.size w1 w1 := Below.refl _ _
  have HX := hid (show Below w.heap.size w w1 by rw [← hw1]; exact new_below _ _)
  have hX' := hid hX
  try rw [← hX]
  clear hX hhX
  rw [← hX'.out, hw1] at hc
  rw [← hv, show ((16 : Nat) : Int) = 16 from rfl] at hc
  rw [← hv] at FX7
  clear hB hr he hv
  go_enter Tryz.func24, Tryz.ntmps24
  repeat' (first | (go_at_call 93; with_reducible refine (hc).mono ?_; rintro e w' ⟨rfl, b⟩; have b' := then_ (w := w1) (by assumption) b; clear b; try dsimp only) | go_skip | go_guarded | go_step | go_upon)
  go_ret
  exact ⟨ret_int R.out.symm, then_ HX.out (by assumption)⟩

def fnsR : List Nat := [17, 18, 19, 20, 21, 22, 23, 24, 25, 26, 27]
def fV (g : Nat) : Value := .func (.func g) #[] #[]
/-- The check number k. -/
theorem fnsR_at (r : Rtr) {k g : Nat} (h : fnsR[k]? = some g) : ∃ e, (checks r)[k]? = some e ∧ (∀ args w, (callFunc g args).run Tryz.prog w = .ok (.enter g args) w) ∧
    ∀ W, RtrIn W r → Calls Tryz.prog g #[.agg (eRtr r).toArray] W fun e' w' => e' = .returned (.int .i64 e) ∧ Below W.heap.size W w' := by
  match k, h with
  | 0, h =>
    obtain rfl : 17 = g := by simpa [fnsR] using h
    exact ⟨_, rfl, enters_of Tryz.func17 (by kernel_rfl) rfl, fun W hr => chkId r W hr⟩
  | 1, h =>
    obtain rfl : 18 = g := by simpa [fnsR] using h
    exact ⟨_, rfl, enters_of Tryz.func18 (by kernel_rfl) rfl, fun W hr => chkIfs r W hr⟩
  | 2, h =>
    obtain rfl : 19 = g := by simpa [fnsR] using h
    exact ⟨_, rfl, enters_of Tryz.func19 (by kernel_rfl) rfl, fun W hr => chkLists r W hr⟩
  | 3, h =>
    obtain rfl : 20 = g := by simpa [fnsR] using h
    exact ⟨_, rfl, enters_of Tryz.func20 (by kernel_rfl) rfl, fun W hr => chkMaps r W hr⟩
  | 4, h =>
    obtain rfl : 21 = g := by simpa [fnsR] using h
    exact ⟨_, rfl, enters_of Tryz.func21 (by kernel_rfl) rfl, fun W hr => chkAcls r W hr⟩
  | 5, h =>
    obtain rfl : 22 = g := by simpa [fnsR] using h
    exact ⟨_, rfl, enters_of Tryz.func22 (by kernel_rfl) rfl, fun W hr => chkNat r W hr⟩
  | 6, h =>
    obtain rfl : 23 = g := by simpa [fnsR] using h
    exact ⟨_, rfl, enters_of Tryz.func23 (by kernel_rfl) rfl, fun W hr => chkFilt r W hr⟩
  | 7, h =>
    obtain rfl : 24 = g := by simpa [fnsR] using h
    exact ⟨_, rfl, enters_of Tryz.func24 (by kernel_rfl) rfl, fun W hr => chkSts r W hr⟩
  | 8, h =>
    obtain rfl : 25 = g := by simpa [fnsR] using h
    exact ⟨_, rfl, enters_of Tryz.func25 (by kernel_rfl) rfl, fun W hr => chkLS r W hr⟩
  | 9, h =>
    obtain rfl : 26 = g := by simpa [fnsR] using h
    exact ⟨_, rfl, enters_of Tryz.func26 (by kernel_rfl) rfl, fun W hr => chkDV r W hr⟩
  | 10, h =>
    obtain rfl : 27 = g := by simpa [fnsR] using h
    exact ⟨_, rfl, enters_of Tryz.func27 (by kernel_rfl) rfl, fun W hr => chkPV r W hr⟩
  | (k + 11), h => simp [fnsR] at h

set_option maxHeartbeats 4000000 in
theorem checkR (r : Rtr) (w : World) (hr : RtrIn w r) :
    Calls Tryz.prog 8 #[.agg (eRtr r).toArray] w fun e w' => e = .returned (.int .i64 (rtrE r)) ∧ Below w.heap.size w w' := by
  obtain ⟨A, hA⟩ : ∃ A, A = (eRtr r).toArray := ⟨_, rfl⟩
  have hAs : A.size = 25 := by rw [hA]; rfl
  have hF := fun (k g : Nat) (h : fnsR[k]? = some g) => fnsR_at r h
  rw [← hA] at hF ⊢
  obtain ⟨w1, hw1⟩ : ∃ w1, w.alloc (.cells A 41) = w1 := ⟨_, rfl⟩
  have s1 : w1.heap.size = w.heap.size + 1 := by rw [← hw1, new_size]
  obtain ⟨w2, hw2⟩ : ∃ w2, w1.alloc (.cells #[.func (.func 17) #[] #[], .func (.func 18) #[] #[], .func (.func 19) #[] #[], .func (.func 20) #[] #[], .func (.func 21) #[] #[], .func (.func 22) #[] #[], .func (.func 23) #[] #[], .func (.func 24) #[] #[], .func (.func 25) #[] #[], .func (.func 26) #[] #[], .func (.func 27) #[] #[]] 44) = w2 := ⟨_, rfl⟩
  have h1 : w2.heap[w.heap.size]? = some (.cells A 41 (0, 0)) := by rw [← hw2, Below.heap_alloc _ _ _ (by omega), ← hw1, heap_new]
  have h2 : w2.heap[w.heap.size + 1]? = some (.cells (fnsR.map fV).toArray 44 (0, 0)) := by rw [← s1, ← hw2, heap_new]; rfl
  have H0 : Below w.heap.size w w1 := by rw [← hw1]; exact al1 _ _
  have H2 : Below w1.heap.size w1 w2 := by rw [← hw2]; exact al1 _ _
  have H := hid (then_ H0 H2)
  have R := hid (show rtrE r = orE (checks r) from rfl)
  have hcl : (checks r).length = 11 := rfl
  obtain ⟨P, hP⟩ : ∃ P, P = Tryz.prog := ⟨_, rfl⟩
  have HP := hid hP
  have mixed : P.follows .mixedOrders = true := by rw [hP]; kernel_rfl
  have FG : P.funcs[8]? = some Tryz.f8 := by rw [hP]; exact Tryz.func8
  obtain ⟨zRouter, hzRouter⟩ : ∃ z, z = 25 := ⟨_, rfl⟩
  have nzRouter : ¬ zRouter = 0 := by omega
  have ty3 := Tryz.underlying3; have ag3 := Tryz.isAgg3; have sz3 := Tryz.sizeOf3; have ru3 := Tryz.runUnderlying3
  have ty41 := Tryz.underlying41; have ag41 := Tryz.isAgg41; have sz41 := Tryz.sizeOf41; have ru41 := Tryz.runUnderlying41
  rw [← hzRouter] at sz41
  have ty43 := Tryz.underlying43; have ag43 := Tryz.isAgg43; have sz43 := Tryz.sizeOf43; have ru43 := Tryz.runUnderlying43
  have ty44 := Tryz.underlying44; have ag44 := Tryz.isAgg44; have sz44 := Tryz.sizeOf44; have ru44 := Tryz.runUnderlying44
  have zeFn44 := Tryz.zeroValue44
  have ty83 := Tryz.underlying71; have ag83 := Tryz.isAgg71; have sz83 := Tryz.sizeOf71; have ru83 := Tryz.runUnderlying71
  have zeSErrno := Tryz.zeroValue71
  rw [← hP] at ty3 ag3 sz3 ru3 ty41 ag41 sz41 ru41 ty43 ag43 sz43 ru43 ty44 ag44 sz44 ru44 zeFn44 ty83 ag83 sz83 ru83 zeSErrno hF ⊢
  clear hP
  have LA : ∀ v : World, Below w2.heap.size w2 v → Sem.run P (loadCellsFrom ⟨w.heap.size, 0, none⟩ 0 zRouter #[]) v = .ok A v := fun v h => ld_box P (blk_keep h1 h) (by rw [hzRouter]; exact hAs)
  clear h1 H0 H2 hzRouter hAs hA
  go_enter FG, Tryz.ntmps8
  repeat' (first | go_skip | go_guarded | go_step | go_upon)
  go_loopg [10] 11 (fun gg s10 wr => ∃ k : Nat, k ≤ 11 ∧ 11 - k ≤ gg ∧ s10 = .int .i64 k ∧ Aside (Below w2.heap.size w2 wr) ∧ Aside (orE (checks r) = orE ((checks r).drop k)))
  case atStart => exact ⟨0, by omega, by omega, rfl, Below.refl _ _, rfl⟩
  case round =>
    obtain ⟨k, hk, hg, rfl, BW, E⟩ := hrel
    have bw := BW.out
    by_cases hlt : k < 11
    · have hlti : (k : Int) < 11 := by omega
      obtain ⟨g, hgk⟩ := get_some (l := fnsR) (k := k) hlt
      obtain ⟨e, he, hen, hc⟩ := hF k g hgk
      have cg : wr.cell? ⟨w.heap.size + 1, k, none⟩ = some (.func (.func g) #[] #[]) := box_at (blk_keep h2 bw) (by
        have : (fnsR.map fV)[k]? = some (fV g) := by rw [List.getElem?_map, hgk]; rfl
        rw [List.getElem?_toArray]; exact this)
      have hc := hc wr (hr.keep (then_ H.out bw))
      have D := drop_get he
      have LA2 := LA wr bw
      clear hF hgk he hr h2 LA hcl
      by_cases h0 : e = 0
      · subst h0
        have Q : Aside (orE (checks r) = orE ((checks r).drop (k + 1))) := by show _ = _; rw [E.out, D]; rfl
        clear D
        repeat (first | go_skip | go_guarded | go_step | go_upon)
        refine hc.mono ?_; rintro e' w' ⟨rfl, hb'⟩; dsimp only
        have B2 : Aside (Below w2.heap.size w2 w') := then_ bw hb'
        clear hc LA2 hb' bw
        repeat' (first | go_skip | go_guarded | go_step | go_upon)
        go_roundg (11 - (k + 1))
        case measure => omega
        case rel => exact ⟨k + 1, by omega, by omega, by go_num, B2, Q⟩
      · have Q : Aside (orE (checks r) = e) := by show _ = _; rw [E.out, D, orE_hit h0]
        have h0b : (e != 0) = true := by simpa using h0
        clear D
        repeat (first | go_skip | go_guarded | go_step | go_upon)
        refine hc.mono ?_; rintro e' w' ⟨rfl, hb'⟩; dsimp only
        have B2 : Aside (Below w2.heap.size w2 w') := then_ bw hb'
        clear hc LA2 hb' bw
        repeat' (first | go_skip | go_guarded | go_step | go_upon)
        all_goals try go_quiet (fail)
        repeat' (first | go_skip | go_guarded | go_step | go_upon)
        go_ret
        exact ⟨ret_int (by rw [R.out, Q.out]), then_ H.out B2.out⟩
    · have hlti : ¬ (k : Int) < 11 := by omega
      obtain rfl : k = 11 := by omega
      clear hF hr h2 LA
      repeat' (first | go_skip | go_guarded | go_step | go_upon)
      go_ret
      refine ⟨ret_int ?_, then_ H.out bw⟩
      rw [R.out, E.out, drop_end (by omega)]
      rfl
end Go.Proofs.YtlhbfpapmolohaaGreat.Mw
