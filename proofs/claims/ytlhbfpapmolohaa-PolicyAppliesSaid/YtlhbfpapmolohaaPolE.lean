/-
  THE CONTRACTS OF policy.Clause, policy.permitting, policy.Prepend.
-/
import Derived.Test.YtlhbfpapmolohaaPolD
namespace Go.Proofs.Ytlhbfpapmolohaa.Mw
set_option linter.unusedSimpArgs false
set_option linter.unusedVariables false
open Go.RowKit Kt Mm Mp Am

set_option maxHeartbeats 8000000 in
theorem plClause (r : Rtr) (s : ByteArray) (x : Rte) (w : World) (hr : RtrIn w r) (ha : low x.pfx.addr) :
    Calls Try.prog 22 #[.agg (eRtr r).toArray, .string s, .agg (eRte x).toArray] w fun e w' => e = .returned (.int .i64 (clI r.lists r.maps s x.pfx x.tag)) ∧ Below w.heap.size w w' := by
  obtain ⟨X, hX⟩ : ∃ X, X = (eRtr r).toArray := ⟨_, rfl⟩
  obtain ⟨Y, hY⟩ : ∃ Y, Y = (eRte x).toArray := ⟨_, rfl⟩
  obtain ⟨w2, hw2⟩ : ∃ w2, (w.alloc (.cells X 55)).alloc (.cells Y 62) = w2 := ⟨_, rfl⟩
  have hhX : w2.heap[w.heap.size]? = some (.cells X 55 (0, 0)) := by rw [← hw2, Below.heap_alloc _ _ _ (by simp), heap_new]
  have hhY : w2.heap[w.heap.size + 1]? = some (.cells Y 62 (0, 0)) := by rw [← hw2]; have h := heap_new (w.alloc (.cells X 55)) (.cells Y 62 (0, 0)); rwa [new_size] at h
  have KX : ∀ v : World, Below w2.heap.size w2 v → v.heap[w.heap.size]? = some (.cells X 55 (0, 0)) := fun v h => blk_keep hhX h
  have KY : ∀ v : World, Below w2.heap.size w2 v → v.heap[w.heap.size + 1]? = some (.cells Y 62 (0, 0)) := fun v h => blk_keep hhY h
  have Gw2 : Below w2.heap.size w2 w2 := Below.refl _ _
  have Hw2 := hid (show Below w.heap.size w w2 by rw [← hw2]; exact al2 _ _ _)
  have hX' := hid hX
  have hY' := hid hY
  try rw [← hX]
  try rw [← hY]
  clear hX hY hhX hhY
  have hXs : X.size = 25 := by rw [hX'.out]; rfl
  have hYs : Y.size = 14 := by rw [hY'.out]; rfl
  have hC := fun wx (h : Below w2.heap.size w2 wx) => plClauses r s wx (hr.keep (then_ Hw2.out h))
  have hM := fun (c : Cla) wx (h : Below w2.heap.size w2 wx) => plMatchesClause r c x wx (hr.keep (then_ Hw2.out h)) ha
  rw [← hX'.out] at hC hM
  rw [← hY'.out] at hM
  have hin := cls_in (hr.keep Hw2.out) s
  obtain ⟨l, hl⟩ : ∃ l, l = clsOf r.maps s := ⟨_, rfl⟩
  obtain ⟨a, cap, hv, hcap, hcell⟩ := rows_open (z := 7) (by decide) hin.row
  have hlen := hin.len
  rw [hv] at hC
  rw [← hl] at hC hcap hcell hlen
  have R0 := hid (show clI r.lists r.maps s x.pfx x.tag = ixB (cmB r.lists x.pfx x.tag) l by rw [hl]; rfl)
  obtain ⟨n, hn⟩ : ∃ n, n = l.length := ⟨_, rfl⟩
  rw [← hn] at hcap hcell hlen hC
  have N := hid hn
  have HC := hid hcell
  clear hcell hn hl hr hv hin ha
  obtain ⟨P, hP⟩ : ∃ P, P = Try.prog := ⟨_, rfl⟩
  have HP := hid hP
  have mixed : P.follows .mixedOrders = true := by rw [hP]; kernel_rfl
  have FG : P.funcs[22]? = some Try.f22 := by rw [hP]; exact Try.func22
  obtain ⟨zRouter, hzRouter⟩ : ∃ z, z = 25 := ⟨_, rfl⟩
  have nzRouter : ¬ zRouter = 0 := by omega
  obtain ⟨zClause, hzClause⟩ : ∃ z, z = 7 := ⟨_, rfl⟩
  have nzClause : ¬ zClause = 0 := by omega
  obtain ⟨zRoute, hzRoute⟩ : ∃ z, z = 14 := ⟨_, rfl⟩
  have nzRoute : ¬ zRoute = 0 := by omega
  have ty3 := Try.underlying3; have ag3 := Try.isAgg3; have sz3 := Try.sizeOf3; have ru3 := Try.runUnderlying3
  have ty9 := Try.underlying9; have ag9 := Try.isAgg9; have sz9 := Try.sizeOf9; have ru9 := Try.runUnderlying9
  have ty55 := Try.underlying55; have ag55 := Try.isAgg55; have sz55 := Try.sizeOf55; have ru55 := Try.runUnderlying55
  rw [← hzRouter] at sz55
  have ty62 := Try.underlying62; have ag62 := Try.isAgg62; have sz62 := Try.sizeOf62; have ru62 := Try.runUnderlying62
  rw [← hzRoute] at sz62
  have ty63 := Try.underlying63; have ag63 := Try.isAgg63; have sz63 := Try.sizeOf63; have ru63 := Try.runUnderlying63
  have ty80 := Try.underlying80; have ag80 := Try.isAgg80; have sz80 := Try.sizeOf80; have ru80 := Try.runUnderlying80
  rw [← hzClause] at sz80
  have zeClause := Try.zeroValue80
  have en0 : ∀ args w, (callFunc 40 args).run Try.prog w = .ok (.enter 40 args) w := enters_of Try.func40 (by kernel_rfl) rfl
  have en1 : ∀ args w, (callFunc 41 args).run Try.prog w = .ok (.enter 41 args) w := enters_of Try.func41 (by kernel_rfl) rfl
  rw [← hP] at ty3 ag3 sz3 ru3 ty9 ag9 sz9 ru9 ty55 ag55 sz55 ru55 ty62 ag62 sz62 ru62 ty63 ag63 sz63 ru63 ty80 ag80 sz80 ru80 zeClause en0 en1 hC hM ⊢
  clear hP
  have LX : ∀ v : World, Below w2.heap.size w2 v → Sem.run P (loadCellsFrom ⟨w.heap.size, 0, none⟩ 0 zRouter #[]) v = .ok X v := fun v h => ld_box P (KX v h) (by rw [hzRouter]; exact hXs)
  have LY : ∀ v : World, Below w2.heap.size w2 v → Sem.run P (loadCellsFrom ⟨w.heap.size + 1, 0, none⟩ 0 zRoute #[]) v = .ok Y v := fun v h => ld_box P (KY v h) (by rw [hzRoute]; exact hYs)
  have ZC := hid hzClause
  clear hzRouter hzClause hzRoute KX KY hXs hYs
  have E0 := hid (show clI r.lists r.maps s x.pfx x.tag = ixF (cmB r.lists x.pfx x.tag) 0 (l.drop 0) from R0.out)
  go_enter FG, Try.ntmps22
  repeat' (first | (go_at_call 40; with_reducible refine (hC _ (by assumption)).mono ?_; rintro e w' ⟨rfl, b⟩; have b' := then_ (w := w2) (by assumption) b; clear b; try dsimp only) | go_skip | go_guarded | go_step | go_upon)
  clear hC
  go_loopg [13] n (fun gg s13 wr => ∃ k : Nat, k ≤ n ∧ n - k ≤ gg ∧ s13 = .int .i64 k ∧ Below w2.heap.size w2 wr ∧ Aside (clI r.lists r.maps s x.pfx x.tag = ixF (cmB r.lists x.pfx x.tag) k (l.drop k)))
  case atStart => exact ⟨0, Nat.zero_le _, by omega, rfl, by assumption, E0.out⟩
  case round =>
    obtain ⟨k, hk, hg, rfl, hwr, E⟩ := hrel
    by_cases hlt : k < n
    · have hlti : (k : Int) < (n : Int) := by omega
      have hk0 : (0 : Int) ≤ (k : Int) := by omega
      obtain ⟨y, hy⟩ := get_some (l := l) (k := k) (by have := N.out; omega)
      obtain ⟨b, off, rfl, hb, hc⟩ := HC.out (by omega)
      have LV0 : Sem.run P (loadCellsFrom ⟨b, off + k * zClause, none⟩ 0 zClause #[]) wr = .ok (eCla y).toArray wr := by
        rw [ZC.out]; exact ld_row (f := eCla) (z := 7) P (fun _ => rfl) (fun j u hj => (hwr.cell (p := ⟨b, off + j, none⟩) hb).trans (hc j u hj)) hy
      have cM := fun wx (h : Below w2.heap.size w2 wx) => hM y wx h
      obtain ⟨V, hV⟩ : ∃ V, V = (eCla y).toArray := ⟨_, rfl⟩
      have hVs : V.size = 7 := by rw [hV]; rfl
      have hV1 := hid (show V.all (·.oneCell') = true by rw [hV]; simp [eCla, one_str, one_int, one_bool])
      rw [← hV] at LV0 cM
      obtain ⟨o, ho⟩ : ∃ o, o = cmB r.lists x.pfx x.tag y := ⟨_, rfl⟩
      rw [← ho] at cM
      have D := hid (drop_get hy)
      have HO := hid ho
      clear hV hy hc ho
      repeat' ((fail_if_success (with_reducible show Hid _)); (first | ((with_reducible show Oper.wp _ ⟨_, .store 80 _ _, _, _, _, _⟩ _ _ _ _); refine stopP ?_) | go_skip | go_guarded | go_step | go_upon))
      refine hid ?_
      refine wp_store_box (w := wr.alloc (.cells zeroCl 80)) 80 _ _ (by rfl) (g := wr.heap.size) (cur := zeroCl) (X := V) (by rfl) (by rfl) (by intro v; rw [hVs, ← ZC.out]; first | exact sz80 v | assumption) (heap_new _ _) (by rw [hVs]; rfl) hV1.out ?_
      intro w4 h1 h2 h3
      have HB4 := hid (show Below wr.heap.size wr w4 from (al1 wr _).trans (h3 _ (Nat.le_refl _)))
      have HW4 := hid (then_ (show Below w2.heap.size w2 wr from hwr) HB4.out)
      have G4 : Below w4.heap.size w4 w4 := Below.refl _ _
      have LV : ∀ v : World, Below w4.heap.size w4 v → Sem.run P (loadCellsFrom ⟨wr.heap.size, 0, none⟩ 0 zClause #[]) v = .ok V v := fun v h => ld_box P (blk_keep h1 h) (by rw [ZC.out]; exact hVs)
      obtain ⟨g, hgb⟩ : ∃ g, g = wr.heap.size := ⟨_, rfl⟩
      rw [← hgb] at LV ⊢
      clear h1 h2 h3 hVs hgb
      have LX4 := fun (v : World) (h : Below w4.heap.size w4 v) => LX v (then_ HW4.out h)
      have LY4 := fun (v : World) (h : Below w4.heap.size w4 v) => LY v (then_ HW4.out h)
      have cM4 := fun wx (h : Below w4.heap.size w4 wx) => cM wx (then_ HW4.out h)
      clear LV0 cM
      cases o
      case true =>
        have Q := hid (show clI r.lists r.maps s x.pfx x.tag = k by rw [E.out, D.out]; exact ixF_hit HO.out.symm)
        clear LX LY hM
        repeat' (first | (go_at_call 41; with_reducible refine (cM4 _ (by assumption)).mono ?_; rintro e w' ⟨rfl, b⟩; have b' := then_ (w := w4) (by assumption) b; clear b; try dsimp only) | go_skip | go_guarded | go_step | go_upon)
        go_ret
        exact ⟨ret_int Q.out.symm, then_ Hw2.out (then_ HW4.out (by assumption))⟩
      case false =>
        have Q := hid (show clI r.lists r.maps s x.pfx x.tag = ixF (cmB r.lists x.pfx x.tag) (k + 1) (l.drop (k + 1)) by rw [E.out, D.out]; exact ixF_next HO.out.symm)
        clear LX LY hM
        repeat' (first | (go_at_call 41; with_reducible refine (cM4 _ (by assumption)).mono ?_; rintro e w' ⟨rfl, b⟩; have b' := then_ (w := w4) (by assumption) b; clear b; try dsimp only) | go_skip | go_guarded | go_step | go_upon)
        go_roundg (n - (k + 1))
        case measure => omega
        case rel => exact ⟨k + 1, by omega, by omega, by go_num, then_ HW4.out (by assumption), Q.out⟩
    · have hlti : ¬ (k : Int) < (n : Int) := by omega
      have Q := hid (show clI r.lists r.maps s x.pfx x.tag = -1 by rw [E.out, drop_end (by have := N.out; omega)]; rfl)
      repeat' (first | go_skip | go_guarded | go_step | go_upon)
      go_ret
      exact ⟨ret_int Q.out.symm, then_ Hw2.out (by assumption)⟩
end Go.Proofs.Ytlhbfpapmolohaa.Mw
