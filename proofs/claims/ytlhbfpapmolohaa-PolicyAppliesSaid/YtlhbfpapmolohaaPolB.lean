/-
  THE CONTRACTS OF policy.First AND OF THE REFERENCE's FirstPrefix.
-/
import Derived.Test.YtlhbfpapmolohaaPolA
import Derived.Test.YtlhbfpapmolohaaStoreBox
import Derived.Deep.LoopGhost
import Derived.BigQuiet
import Derived.Deep.QuietTactic
namespace Go.Proofs.Ytlhbfpapmolohaa.Mw
set_option linter.unusedSimpArgs false
set_option linter.unusedVariables false
open Go.RowKit Kt Mm Mp Am

theorem stopP {p : Prop} (h : Hid p) : p := h
def zeroPR : Array Value := #[.bool false, .int .u32 0, .int .i64 0, .int .i64 0, .int .i64 0]

set_option maxHeartbeats 4000000 in
theorem plFirst (x : PList) (p : Pfx) (w : World) (hx : InRow ePRule 5 w x.v x.rules) (ha : low p.addr) :
    Calls Try.prog 13 #[.agg (ePList x).toArray, .agg (ePfx p).toArray] w fun e w' => e = .returned (.int .i64 (fpI x.rules p)) ∧ Below w.heap.size w w' := by
  have hM := fun (y : PRule) wx => plMatches y p wx ha
  simp only [ePfx] at hM
  obtain ⟨a, cap, hv, hcap, hcell⟩ := rows_open (z := 5) (by decide) hx.row
  obtain ⟨l, hl⟩ : ∃ l, l = x.rules := ⟨_, rfl⟩
  have hlen := hx.len
  rw [← hl] at hv hcap hcell hlen ⊢
  obtain ⟨n, hn⟩ : ∃ n, n = l.length := ⟨_, rfl⟩
  rw [← hn] at hv hcap hcell hlen
  have N := hid hn
  have HC := hid hcell
  clear hcell hn hl hx
  obtain ⟨X, hX⟩ : ∃ X, X = (ePList x).toArray := ⟨_, rfl⟩
  obtain ⟨Y, hY⟩ : ∃ Y, Y = (ePfx p).toArray := ⟨_, rfl⟩
  obtain ⟨w2, hw2⟩ : ∃ w2, (w.alloc (.cells X 24)).alloc (.cells Y 27) = w2 := ⟨_, rfl⟩
  have hhX : w2.heap[w.heap.size]? = some (.cells X 24 (0, 0)) := by rw [← hw2, Below.heap_alloc _ _ _ (by simp), heap_new]
  have hhY : w2.heap[w.heap.size + 1]? = some (.cells Y 27 (0, 0)) := by rw [← hw2]; have h := heap_new (w.alloc (.cells X 24)) (.cells Y 27 (0, 0)); rwa [new_size] at h
  have FX1 : ∀ v : World, Below w2.heap.size w2 v → v.cell? ⟨w.heap.size, 1, none⟩ = some (x.v) := fun v h => box_at (blk_keep hhX h) (by rw [hX]; rfl)
  have FY0 : ∀ v : World, Below w2.heap.size w2 v → v.cell? ⟨w.heap.size + 1, 0, none⟩ = some (.int .u32 (p.addr : Int)) := fun v h => box_at (blk_keep hhY h) (by rw [hY]; rfl)
  have FY1 : ∀ v : World, Below w2.heap.size w2 v → v.cell? ⟨w.heap.size + 1, 1, none⟩ = some (.int .i64 p.len) := fun v h => box_at (blk_keep hhY h) (by rw [hY]; rfl)
  have Gw2 : Below w2.heap.size w2 w2 := Below.refl _ _
  have Hw2 := hid (show Below w.heap.size w w2 by rw [← hw2]; exact al2 _ _ _)
  have hX' := hid hX
  have hY' := hid hY
  try rw [← hX]
  try rw [← hY]
  clear hX hY hhX hhY
  rw [hv] at FX1
  have E0 := hid (show fpI l p = ixF (fun y => mtB y p) 0 (l.drop 0) from rfl)
  clear hv
  obtain ⟨P, hP⟩ : ∃ P, P = Try.prog := ⟨_, rfl⟩
  have HP := hid hP
  have mixed : P.follows .mixedOrders = true := by rw [hP]; kernel_rfl
  have FG : P.funcs[13]? = some Try.f13 := by rw [hP]; exact Try.func13
  obtain ⟨zPrefixRule, hzPrefixRule⟩ : ∃ z, z = 5 := ⟨_, rfl⟩
  have nzPrefixRule : ¬ zPrefixRule = 0 := by omega
  have ty3 := Try.underlying3; have ag3 := Try.isAgg3; have sz3 := Try.sizeOf3; have ru3 := Try.runUnderlying3
  have ty22 := Try.underlying22; have ag22 := Try.isAgg22; have sz22 := Try.sizeOf22; have ru22 := Try.runUnderlying22
  have ty24 := Try.underlying24; have ag24 := Try.isAgg24; have sz24 := Try.sizeOf24; have ru24 := Try.runUnderlying24
  have ty27 := Try.underlying27; have ag27 := Try.isAgg27; have sz27 := Try.sizeOf27; have ru27 := Try.runUnderlying27
  have ty31 := Try.underlying31; have ag31 := Try.isAgg31; have sz31 := Try.sizeOf31; have ru31 := Try.runUnderlying31
  rw [← hzPrefixRule] at sz31
  have zePrefixRule := Try.zeroValue31
  have en0 : ∀ args w, (callFunc 11 args).run Try.prog w = .ok (.enter 11 args) w := enters_of Try.func11 (by kernel_rfl) rfl
  rw [← hP] at ty3 ag3 sz3 ru3 ty22 ag22 sz22 ru22 ty24 ag24 sz24 ru24 ty27 ag27 sz27 ru27 ty31 ag31 sz31 ru31 zePrefixRule en0 hM ⊢
  clear hP
  have ZP := hid hzPrefixRule
  clear hzPrefixRule
  go_enter FG, Try.ntmps13
  repeat' (first | go_skip | go_guarded | go_step | go_upon)
  go_loopg [10] n (fun gg s10 wr => ∃ k : Nat, k ≤ n ∧ n - k ≤ gg ∧ s10 = .int .i64 k ∧ Below w2.heap.size w2 wr ∧ Aside (fpI l p = ixF (fun y => mtB y p) k (l.drop k)))
  case atStart => exact ⟨0, Nat.zero_le _, by omega, rfl, by assumption, E0.out⟩
  case round =>
    obtain ⟨k, hk, hg, rfl, hwr, E⟩ := hrel
    by_cases hlt : k < n
    · have hlti : (k : Int) < (n : Int) := by omega
      have hk0 : (0 : Int) ≤ (k : Int) := by omega
      obtain ⟨y, hy⟩ := get_some (l := l) (k := k) (by have := N.out; omega)
      obtain ⟨b, off, rfl, hb, hc⟩ := HC.out (by omega)
      have LY : Sem.run P (loadCellsFrom ⟨b, off + k * zPrefixRule, none⟩ 0 zPrefixRule #[]) wr = .ok (ePRule y).toArray wr := by
        rw [ZP.out]; exact ld_row (f := ePRule) (z := 5) P (fun _ => rfl) (fun j u hj => ((then_ Hw2.out hwr).cell (p := ⟨b, off + j, none⟩) hb).trans (hc j u hj)) hy
      have cM := fun wx => hM y wx
      obtain ⟨V, hV⟩ : ∃ V, V = (ePRule y).toArray := ⟨_, rfl⟩
      have hVs : V.size = 5 := by rw [hV]; rfl
      have hV1 := hid (show V.all (·.oneCell') = true by rw [hV]; simp [ePRule, one_str, one_int, one_bool])
      rw [← hV] at LY cM
      obtain ⟨o, ho⟩ : ∃ o, o = mtB y p := ⟨_, rfl⟩
      rw [← ho] at cM
      have D := hid (drop_get hy)
      have HO := hid ho
      clear hV hy hc ho
      repeat' ((fail_if_success (with_reducible show Hid _)); (first | ((with_reducible show Oper.wp _ ⟨_, .store 31 _ _, _, _, _, _⟩ _ _ _ _); refine stopP ?_) | go_skip | go_guarded | go_step | go_upon))
      refine hid ?_
      refine wp_store_box (w := wr.alloc (.cells zeroPR 31)) 31 _ _ (by rfl) (g := wr.heap.size) (cur := zeroPR) (X := V) (by rfl) (by rfl) (by intro v; rw [hVs, ← ZP.out]; first | exact sz31 v | assumption) (heap_new _ _) (by rw [hVs]; rfl) hV1.out ?_
      intro w4 h1 h2 h3
      have HB4 := hid (show Below wr.heap.size wr w4 from (al1 wr _).trans (h3 _ (Nat.le_refl _)))
      have HW4 := hid (then_ (show Below w2.heap.size w2 wr from hwr) HB4.out)
      have G4 : Below w4.heap.size w4 w4 := Below.refl _ _
      have LV : ∀ v : World, Below w4.heap.size w4 v → Sem.run P (loadCellsFrom ⟨wr.heap.size, 0, none⟩ 0 zPrefixRule #[]) v = .ok V v := fun v h => ld_box P (blk_keep h1 h) (by rw [ZP.out]; exact hVs)
      have LV4 := LV w4 G4
      have f0 := FY0 w4 (then_ hwr HB4.out)
      have f1 := FY1 w4 (then_ hwr HB4.out)
      clear LY LV h1 h2 h3 hVs
      cases o
      case true =>
        have Q := hid (show fpI l p = k by rw [E.out, D.out]; exact ixF_hit HO.out.symm)
        repeat' (first | (go_at_call 11; with_reducible refine (cM _).mono ?_; rintro e w' ⟨rfl, b⟩; have b' := then_ (w := w4) (by assumption) b; clear b; try dsimp only) | go_skip | go_guarded | go_step | go_upon)
        go_ret
        exact ⟨ret_int Q.out.symm, then_ Hw2.out (then_ HW4.out (by assumption))⟩
      case false =>
        have Q := hid (show fpI l p = ixF (fun y => mtB y p) (k + 1) (l.drop (k + 1)) by rw [E.out, D.out]; exact ixF_next HO.out.symm)
        repeat' (first | (go_at_call 11; with_reducible refine (cM _).mono ?_; rintro e w' ⟨rfl, b⟩; have b' := then_ (w := w4) (by assumption) b; clear b; try dsimp only) | go_skip | go_guarded | go_step | go_upon)
        go_roundg (n - (k + 1))
        case measure => omega
        case rel => exact ⟨k + 1, by omega, by omega, by go_num, then_ HW4.out (by assumption), Q.out⟩
    · have hlti : ¬ (k : Int) < (n : Int) := by omega
      have Q := hid (show fpI l p = -1 by rw [E.out, drop_end (by have := N.out; omega)]; rfl)
      repeat' (first | go_skip | go_guarded | go_step | go_upon)
      go_ret
      exact ⟨ret_int Q.out.symm, then_ Hw2.out (by assumption)⟩

set_option maxHeartbeats 4000000 in
theorem rfFirst (x : PList) (p : Pfx) (w : World) (hx : InRow ePRule 5 w x.v x.rules) (ha : low p.addr) :
    Calls Try.prog 14 #[.agg (ePList x).toArray, .agg (ePfx p).toArray] w fun e w' => e = .returned (.int .i64 (fpI x.rules p)) ∧ Below w.heap.size w w' := by
  have hM := fun (y : PRule) wx => rfMatches y p wx ha
  simp only [ePfx] at hM
  obtain ⟨a, cap, hv, hcap, hcell⟩ := rows_open (z := 5) (by decide) hx.row
  obtain ⟨l, hl⟩ : ∃ l, l = x.rules := ⟨_, rfl⟩
  have hlen := hx.len
  rw [← hl] at hv hcap hcell hlen ⊢
  obtain ⟨n, hn⟩ : ∃ n, n = l.length := ⟨_, rfl⟩
  rw [← hn] at hv hcap hcell hlen
  have N := hid hn
  have HC := hid hcell
  clear hcell hn hl hx
  obtain ⟨X, hX⟩ : ∃ X, X = (ePList x).toArray := ⟨_, rfl⟩
  obtain ⟨Y, hY⟩ : ∃ Y, Y = (ePfx p).toArray := ⟨_, rfl⟩
  obtain ⟨w2, hw2⟩ : ∃ w2, (w.alloc (.cells X 24)).alloc (.cells Y 27) = w2 := ⟨_, rfl⟩
  have hhX : w2.heap[w.heap.size]? = some (.cells X 24 (0, 0)) := by rw [← hw2, Below.heap_alloc _ _ _ (by simp), heap_new]
  have hhY : w2.heap[w.heap.size + 1]? = some (.cells Y 27 (0, 0)) := by rw [← hw2]; have h := heap_new (w.alloc (.cells X 24)) (.cells Y 27 (0, 0)); rwa [new_size] at h
  have FX1 : ∀ v : World, Below w2.heap.size w2 v → v.cell? ⟨w.heap.size, 1, none⟩ = some (x.v) := fun v h => box_at (blk_keep hhX h) (by rw [hX]; rfl)
  have FY0 : ∀ v : World, Below w2.heap.size w2 v → v.cell? ⟨w.heap.size + 1, 0, none⟩ = some (.int .u32 (p.addr : Int)) := fun v h => box_at (blk_keep hhY h) (by rw [hY]; rfl)
  have FY1 : ∀ v : World, Below w2.heap.size w2 v → v.cell? ⟨w.heap.size + 1, 1, none⟩ = some (.int .i64 p.len) := fun v h => box_at (blk_keep hhY h) (by rw [hY]; rfl)
  have Gw2 : Below w2.heap.size w2 w2 := Below.refl _ _
  have Hw2 := hid (show Below w.heap.size w w2 by rw [← hw2]; exact al2 _ _ _)
  have hX' := hid hX
  have hY' := hid hY
  try rw [← hX]
  try rw [← hY]
  clear hX hY hhX hhY
  rw [hv] at FX1
  have E0 := hid (show fpI l p = ixF (fun y => mtB y p) 0 (l.drop 0) from rfl)
  clear hv
  obtain ⟨P, hP⟩ : ∃ P, P = Try.prog := ⟨_, rfl⟩
  have HP := hid hP
  have mixed : P.follows .mixedOrders = true := by rw [hP]; kernel_rfl
  have FG : P.funcs[14]? = some Try.f14 := by rw [hP]; exact Try.func14
  obtain ⟨zPrefixRule, hzPrefixRule⟩ : ∃ z, z = 5 := ⟨_, rfl⟩
  have nzPrefixRule : ¬ zPrefixRule = 0 := by omega
  have ty3 := Try.underlying3; have ag3 := Try.isAgg3; have sz3 := Try.sizeOf3; have ru3 := Try.runUnderlying3
  have ty22 := Try.underlying22; have ag22 := Try.isAgg22; have sz22 := Try.sizeOf22; have ru22 := Try.runUnderlying22
  have ty24 := Try.underlying24; have ag24 := Try.isAgg24; have sz24 := Try.sizeOf24; have ru24 := Try.runUnderlying24
  have ty27 := Try.underlying27; have ag27 := Try.isAgg27; have sz27 := Try.sizeOf27; have ru27 := Try.runUnderlying27
  have ty31 := Try.underlying31; have ag31 := Try.isAgg31; have sz31 := Try.sizeOf31; have ru31 := Try.runUnderlying31
  rw [← hzPrefixRule] at sz31
  have en0 : ∀ args w, (callFunc 12 args).run Try.prog w = .ok (.enter 12 args) w := enters_of Try.func12 (by kernel_rfl) rfl
  rw [← hP] at ty3 ag3 sz3 ru3 ty22 ag22 sz22 ru22 ty24 ag24 sz24 ru24 ty27 ag27 sz27 ru27 ty31 ag31 sz31 ru31 en0 hM ⊢
  clear hP
  have ZP := hid hzPrefixRule
  clear hzPrefixRule
  go_enter FG, Try.ntmps14
  repeat' (first | go_skip | go_guarded | go_step | go_upon)
  go_loopg [5] n (fun gg s5 wr => ∃ k : Nat, k ≤ n ∧ n - k ≤ gg ∧ s5 = .int .i64 k ∧ Below w2.heap.size w2 wr ∧ Aside (fpI l p = ixF (fun y => mtB y p) k (l.drop k)))
  case atStart => exact ⟨0, Nat.zero_le _, by omega, rfl, by assumption, E0.out⟩
  case round =>
    obtain ⟨k, hk, hg, rfl, hwr, E⟩ := hrel
    have x1 := FX1 wr hwr
    by_cases hlt : k < n
    · have hlti : (k : Int) < (n : Int) := by omega
      have hk0 : (0 : Int) ≤ (k : Int) := by omega
      obtain ⟨y, hy⟩ := get_some (l := l) (k := k) (by have := N.out; omega)
      obtain ⟨b, off, rfl, hb, hc⟩ := HC.out (by omega)
      have LY : ∀ u : Later wr.heap.size wr, Sem.run P (loadCellsFrom ⟨b, off + k * zPrefixRule, none⟩ 0 zPrefixRule #[]) u.w = .ok (ePRule y).toArray u.w := fun u => by
        rw [ZP.out]; exact ld_row (f := ePRule) (z := 5) P (fun _ => rfl) (fun j v hj => ((then_ Hw2.out (then_ hwr u.h)).cell (p := ⟨b, off + j, none⟩) hb).trans (hc j v hj)) hy
      have GR : Below wr.heap.size wr wr := Below.refl _ _
      have uX1 := fun u : Later wr.heap.size wr => FX1 u.w (then_ hwr u.h)
      have uf0 := fun u : Later wr.heap.size wr => FY0 u.w (then_ hwr u.h)
      have uf1 := fun u : Later wr.heap.size wr => FY1 u.w (then_ hwr u.h)
      have cM := fun wx => hM y wx
      obtain ⟨V, hV⟩ : ∃ V, V = (ePRule y).toArray := ⟨_, rfl⟩
      rw [← hV] at LY cM
      obtain ⟨o, ho⟩ : ∃ o, o = mtB y p := ⟨_, rfl⟩
      rw [← ho] at cM
      have D := hid (drop_get hy)
      have HO := hid ho
      clear hV hy hc ho
      cases o
      case true =>
        have Q := hid (show fpI l p = k by rw [E.out, D.out]; exact ixF_hit HO.out.symm)
        repeat' (first | go_skip | go_guarded | go_step | go_upon)
        refine wp_region_base wr (by assumption) (by first | assumption | kernel_rfl) (by kernel_rfl) ?_
        repeat (go_big_quiet_step (first | (go_at_call 12; with_reducible exact later_of (Nat.le_refl _) (cM _))))
        refine wpQuiet_nil ?_
        rintro _ ⟨u, rfl⟩
        have bu := u.h
        repeat' (first | go_skip | go_guarded | go_step | go_upon)
        go_ret
        exact ⟨ret_int Q.out.symm, then_ Hw2.out (then_ hwr (by assumption))⟩
      case false =>
        have Q := hid (show fpI l p = ixF (fun y => mtB y p) (k + 1) (l.drop (k + 1)) by rw [E.out, D.out]; exact ixF_next HO.out.symm)
        repeat' (first | go_skip | go_guarded | go_step | go_upon)
        refine wp_region_base wr (by assumption) (by first | assumption | kernel_rfl) (by kernel_rfl) ?_
        repeat (go_big_quiet_step (first | (go_at_call 12; with_reducible exact later_of (Nat.le_refl _) (cM _))))
        refine wpQuiet_nil ?_
        rintro _ ⟨u, rfl⟩
        have bu := u.h
        repeat' (first | go_skip | go_guarded | go_step | go_upon)
        go_roundg (n - (k + 1))
        case measure => omega
        case rel => exact ⟨k + 1, by omega, by omega, by go_num, then_ hwr (by assumption), Q.out⟩
    · have hlti : ¬ (k : Int) < (n : Int) := by omega
      have Q := hid (show fpI l p = -1 by rw [E.out, drop_end (by have := N.out; omega)]; rfl)
      repeat' (first | go_skip | go_guarded | go_step | go_upon)
      go_ret
      exact ⟨ret_int Q.out.symm, then_ Hw2.out (by assumption)⟩
end Go.Proofs.Ytlhbfpapmolohaa.Mw
