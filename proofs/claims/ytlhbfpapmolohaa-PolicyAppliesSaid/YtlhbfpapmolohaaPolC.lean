/-
  THE CONTRACTS OF policy.Permits AND OF THE REFERENCE's PermitsPrefix.
-/
import Derived.Test.YtlhbfpapmolohaaPolB
import Derived.Test.YtlhbfpapmolohaaModL
namespace Go.Proofs.Ytlhbfpapmolohaa.Mw
set_option linter.unusedSimpArgs false
set_option linter.unusedVariables false
open Go.RowKit Kt Mm Mp Am

def zeroPL : Array Value := #[.string ⟨#[]⟩, .slice none 0 0]
theorem ls_none {l : List PRule} {p : Pfx} (h : l.find? (fun y => mtB y p) = none) : lsB l p = false := by unfold lsB; rw [h]
theorem ls_some {l : List PRule} {p : Pfx} {y : PRule} (h : l.find? (fun y => mtB y p) = some y) : lsB l p = y.permit := by unfold lsB; rw [h]
theorem pm_yes {ls : List PList} {s : ByteArray} {p : Pfx} (h : s.toList.isEmpty = true) : pmB ls s p = true := by unfold pmB noS; rw [h]; rfl
theorem pm_none {ls : List PList} {s : ByteArray} {p : Pfx} (h : s.toList.isEmpty = false) (hf : ls.find? (fun x => x.name.toList == s.toList) = none) : pmB ls s p = false := by unfold pmB noS; rw [h, hf]; rfl
theorem pm_some {ls : List PList} {s : ByteArray} {p : Pfx} {x : PList} (h : s.toList.isEmpty = false) (hf : ls.find? (fun x => x.name.toList == s.toList) = some x) : pmB ls s p = lsB x.rules p := by unfold pmB noS; rw [h, hf]; rfl

set_option maxHeartbeats 8000000 in
theorem plPermits (r : Rtr) (s : ByteArray) (p : Pfx) (w : World) (hr : RtrIn w r) (ha : low p.addr) :
    Calls Try.prog 18 #[.agg (eRtr r).toArray, .string s, .agg (ePfx p).toArray] w fun e w' => e = .returned (.bool (pmB r.lists s p)) ∧ Below w.heap.size w w' := by
  have hF := fun (x : PList) wx (h : InRow ePRule 5 wx x.v x.rules) => plFirst x p wx h ha
  simp only [ePfx] at hF
  obtain ⟨X, hX⟩ : ∃ X, X = (eRtr r).toArray := ⟨_, rfl⟩
  obtain ⟨Y, hY⟩ : ∃ Y, Y = (ePfx p).toArray := ⟨_, rfl⟩
  obtain ⟨w2, hw2⟩ : ∃ w2, (w.alloc (.cells X 55)).alloc (.cells Y 27) = w2 := ⟨_, rfl⟩
  have hhX : w2.heap[w.heap.size]? = some (.cells X 55 (0, 0)) := by rw [← hw2, Below.heap_alloc _ _ _ (by simp), heap_new]
  have hhY : w2.heap[w.heap.size + 1]? = some (.cells Y 27 (0, 0)) := by rw [← hw2]; have h := heap_new (w.alloc (.cells X 55)) (.cells Y 27 (0, 0)); rwa [new_size] at h
  have FX3 : ∀ v : World, Below w2.heap.size w2 v → v.cell? ⟨w.heap.size, 3, none⟩ = some (r.vLists) := fun v h => box_at (blk_keep hhX h) (by rw [hX]; rfl)
  have KX : ∀ v : World, Below w2.heap.size w2 v → v.heap[w.heap.size]? = some (.cells X 55 (0, 0)) := fun v h => blk_keep hhX h
  have FY0 : ∀ v : World, Below w2.heap.size w2 v → v.cell? ⟨w.heap.size + 1, 0, none⟩ = some (.int .u32 (p.addr : Int)) := fun v h => box_at (blk_keep hhY h) (by rw [hY]; rfl)
  have FY1 : ∀ v : World, Below w2.heap.size w2 v → v.cell? ⟨w.heap.size + 1, 1, none⟩ = some (.int .i64 p.len) := fun v h => box_at (blk_keep hhY h) (by rw [hY]; rfl)
  have Gw2 : Below w2.heap.size w2 w2 := Below.refl _ _
  have Hw2 := hid (show Below w.heap.size w w2 by rw [← hw2]; exact al2 _ _ _)
  have hX' := hid hX
  have hY' := hid hY
  try rw [← hX]
  try rw [← hY]
  clear hX hY hhX hhY
  have hL := fun wx (h : Below w2.heap.size w2 wx) => lkPList X r.vLists r.lists s wx (by rw [hX'.out]; rfl) (hr.keep (then_ Hw2.out h)).lists.row hr.lists.len
  have hXs : X.size = 25 := by rw [hX'.out]; rfl
  have HR := hid hr
  obtain ⟨a, cap, hv, hcap, hcell⟩ := rows_open (z := 2) (by decide) hr.lists.row
  obtain ⟨l, hl⟩ : ∃ l, l = r.lists := ⟨_, rfl⟩
  have hlen := hr.lists.len
  have RR := hid (fun x (h : x ∈ r.lists) => hr.listsR x h)
  rw [← hl] at hv hcap hcell hlen hL RR ⊢
  obtain ⟨n, hn⟩ : ∃ n, n = l.length := ⟨_, rfl⟩
  rw [← hn] at hv hcap hcell hlen
  rw [hv] at FX3
  have N := hid hn
  have HC := hid hcell
  clear hcell hn hl hr hv
  obtain ⟨P, hP⟩ : ∃ P, P = Try.prog := ⟨_, rfl⟩
  have HP := hid hP
  have mixed : P.follows .mixedOrders = true := by rw [hP]; kernel_rfl
  have FG : P.funcs[18]? = some Try.f18 := by rw [hP]; exact Try.func18
  obtain ⟨zRouter, hzRouter⟩ : ∃ z, z = 25 := ⟨_, rfl⟩
  have nzRouter : ¬ zRouter = 0 := by omega
  obtain ⟨zPrefixList, hzPrefixList⟩ : ∃ z, z = 2 := ⟨_, rfl⟩
  have nzPrefixList : ¬ zPrefixList = 0 := by omega
  obtain ⟨zPrefixRule, hzPrefixRule⟩ : ∃ z, z = 5 := ⟨_, rfl⟩
  have nzPrefixRule : ¬ zPrefixRule = 0 := by omega
  have ty3 := Try.underlying3; have ag3 := Try.isAgg3; have sz3 := Try.sizeOf3; have ru3 := Try.runUnderlying3
  have ty4 := Try.underlying4; have ag4 := Try.isAgg4; have sz4 := Try.sizeOf4; have ru4 := Try.runUnderlying4
  have ty9 := Try.underlying9; have ag9 := Try.isAgg9; have sz9 := Try.sizeOf9; have ru9 := Try.runUnderlying9
  have ty22 := Try.underlying22; have ag22 := Try.isAgg22; have sz22 := Try.sizeOf22; have ru22 := Try.runUnderlying22
  have ty24 := Try.underlying24; have ag24 := Try.isAgg24; have sz24 := Try.sizeOf24; have ru24 := Try.runUnderlying24
  rw [← hzPrefixList] at sz24
  have zePrefixList := Try.zeroValue24
  have ty27 := Try.underlying27; have ag27 := Try.isAgg27; have sz27 := Try.sizeOf27; have ru27 := Try.runUnderlying27
  have ty31 := Try.underlying31; have ag31 := Try.isAgg31; have sz31 := Try.sizeOf31; have ru31 := Try.runUnderlying31
  rw [← hzPrefixRule] at sz31
  have ty37 := Try.underlying37; have ag37 := Try.isAgg37; have sz37 := Try.sizeOf37; have ru37 := Try.runUnderlying37
  have ty55 := Try.underlying55; have ag55 := Try.isAgg55; have sz55 := Try.sizeOf55; have ru55 := Try.runUnderlying55
  rw [← hzRouter] at sz55
  have en0 : ∀ args w, (callFunc 34 args).run Try.prog w = .ok (.enter 34 args) w := enters_of Try.func34 (by kernel_rfl) rfl
  have en1 : ∀ args w, (callFunc 13 args).run Try.prog w = .ok (.enter 13 args) w := enters_of Try.func13 (by kernel_rfl) rfl
  rw [← hP] at ty3 ag3 sz3 ru3 ty4 ag4 sz4 ru4 ty9 ag9 sz9 ru9 ty22 ag22 sz22 ru22 ty24 ag24 sz24 ru24 zePrefixList ty27 ag27 sz27 ru27 ty31 ag31 sz31 ru31 ty37 ag37 sz37 ru37 ty55 ag55 sz55 ru55 en0 en1 hL hF ⊢
  clear hP
  have LX : ∀ v : World, Below w2.heap.size w2 v → Sem.run P (loadCellsFrom ⟨w.heap.size, 0, none⟩ 0 zRouter #[]) v = .ok X v := fun v h => ld_box P (KX v h) (by rw [hzRouter]; exact hXs)
  have ZL := hid hzPrefixList
  have ZP := hid hzPrefixRule
  clear hzRouter hzPrefixList hzPrefixRule KX hXs
  cases hs : s.toList.isEmpty with
  | true =>
    have R := hid (show pmB l s p = true from pm_yes hs)
    go_enter FG, Try.ntmps18
    repeat' (first | go_skip | go_guarded | go_step | go_upon)
    go_ret
    exact ⟨ret_bool R.out.symm, Hw2.out⟩
  | false =>
  rcases ix_find (p := fun x : PList => x.name.toList == s.toList) l with ⟨hi, hf⟩ | ⟨j, x, hi, hx, hf, -, hj⟩
  · have R := hid (show pmB l s p = false from pm_none hs hf)
    rw [hi] at hL
    clear hi hf hF
    go_enter FG, Try.ntmps18
    repeat' (first | (go_at_call 34; with_reducible refine (hL _ (by assumption)).mono ?_; rintro e w' ⟨rfl, b⟩; have b' := then_ (w := w2) (by assumption) b; clear b; try dsimp only) | go_skip | go_guarded | go_step | go_upon)
    go_ret
    exact ⟨ret_bool R.out.symm, then_ Hw2.out (by assumption)⟩
  · have R := hid (show pmB l s p = lsB x.rules p from pm_some hs hf)
    rw [hi] at hL
    have hji : (j : Int) < (n : Int) := by have := N.out; omega
    have hj0 : (0 : Int) ≤ (j : Int) := by omega
    have hjn : ((j : Int) == -1) = false := by first | (simp; done) | (simp; omega)
    have hjl : ¬ (j : Int) < 0 := by omega
    obtain ⟨b, off, rfl, hb, hc⟩ := HC.out (by omega)
    have hcx := row_cells (f := ePList) (z := 2) (fun _ => rfl) hc hx
    have XR := hid (RR.out x (get_mem hx))
    clear hi hf
    go_enter FG, Try.ntmps18
    have LY0 : ∀ v : World, Below w2.heap.size w2 v → Sem.run P (loadCellsFrom ⟨b, off + j * zPrefixList, none⟩ 0 zPrefixList #[]) v = .ok (ePList x).toArray v := fun v h => by
      rw [ZL.out]; exact ld_row (f := ePList) (z := 2) P (fun _ => rfl) (fun i u hi => ((then_ Hw2.out h).cell (p := ⟨b, off + i, none⟩) hb).trans (hc i u hi)) hx
    have FE1 : ∀ v : World, Below w2.heap.size w2 v → v.cell? ⟨b, off + j * zPrefixList + 1, none⟩ = some x.v := fun v h => by
      rw [ZL.out]; exact ((then_ Hw2.out h).cell (p := ⟨b, off + j * 2 + 1, none⟩) hb).trans (hcx 1 _ rfl)
    have cF := fun wx (h : Below w2.heap.size w2 wx) => hF x wx (XR.out.keep (then_ Hw2.out h))
    obtain ⟨V, hV⟩ : ∃ V, V = (ePList x).toArray := ⟨_, rfl⟩
    have hVs : V.size = 2 := by rw [hV]; rfl
    have hV1 := hid (show V.all (·.oneCell') = true by rw [hV]; exact ePList_one XR.out)
    obtain ⟨aR, capR, hvR, hcapR, hcellR⟩ := rows_open (z := 5) (by decide) XR.out.row
    obtain ⟨lR, hlR⟩ : ∃ l, l = x.rules := ⟨_, rfl⟩
    have hlenR := XR.out.len
    rw [← hlR] at hvR hcapR hcellR hlenR cF R
    obtain ⟨m, hm⟩ : ∃ n, n = lR.length := ⟨_, rfl⟩
    rw [← hm] at hvR hcapR hcellR hlenR
    have y1 : V[1]? = some (.slice aR m capR) := by rw [hV, ← hvR]; rfl
    rw [hvR] at FE1
    have M := hid hm
    have HCR := hid hcellR
    rw [← hV] at LY0 cF
    clear hcx hc hx hm hcellR hlR hvR hV hF
    rcases ix_find (p := fun y => mtB y p) lR with ⟨hi2, hf2⟩ | ⟨jj, y, hi2, hy, hf2, -, hjj⟩
    · skip
      have hi3 : fpI lR p = _ := hi2
      rw [hi3] at cF
      have R2 := hid (show pmB l s p = false by rw [R.out]; exact ls_none hf2)
      clear hi2 hi3 hf2
      repeat' ((fail_if_success (with_reducible show Hid _)); (first | ((with_reducible show Oper.wp _ ⟨_, .store 24 _ _, _, _, _, _⟩ _ _ _ _); refine stopP ?_) | (go_at_call 34; with_reducible refine (hL _ (by assumption)).mono ?_; rintro e w' ⟨rfl, b⟩; have b' := then_ (w := w2) (by assumption) b; clear b; try dsimp only) | go_skip | go_guarded | go_step | go_upon))
      refine hid ?_
      refine wp_store_box (w := w'.alloc (.cells zeroPL 24)) 24 _ _ (by rfl) (g := w'.heap.size) (cur := zeroPL) (X := V) (by rfl) (by rfl) (by intro v; rw [hVs, ← ZL.out]; first | exact sz24 v | assumption) (heap_new _ _) (by rw [hVs]; rfl) hV1.out ?_
      intro w4 h1 h2 h3
      have HB4 := hid (show Below w'.heap.size w' w4 from (al1 w' _).trans (h3 _ (Nat.le_refl _)))
      have HW4 := hid (then_ (show Below w2.heap.size w2 w' from b') HB4.out)
      have G4 : Below w4.heap.size w4 w4 := Below.refl _ _
      have FV1 : ∀ v : World, Below w4.heap.size w4 v → v.cell? ⟨w'.heap.size, 1, none⟩ = some (.slice aR m capR) := fun v h => box_at (blk_keep h1 h) y1
      have LV : ∀ v : World, Below w4.heap.size w4 v → Sem.run P (loadCellsFrom ⟨w'.heap.size, 0, none⟩ 0 zPrefixList #[]) v = .ok V v := fun v h => ld_box P (blk_keep h1 h) (by rw [ZL.out]; exact hVs)
      obtain ⟨g, hgb⟩ : ∃ g, g = w'.heap.size := ⟨_, rfl⟩
      rw [← hgb] at FV1 LV ⊢
      clear h1 h2 h3 hVs hgb
      have f0 := FY0 w4 HW4.out
      have f1 := FY1 w4 HW4.out
      have cF4 := fun wx (h : Below w4.heap.size w4 wx) => cF wx (then_ HW4.out h)
      clear LY0 FE1 cF hL LX FX3 FY0 FY1 b' y1
      repeat' (first | (go_at_call 13; with_reducible refine (cF4 _ (by assumption)).mono ?_; rintro e w' ⟨rfl, b⟩; have b' := then_ (w := w4) (by assumption) b; clear b; try dsimp only) | go_skip | go_guarded | go_step | go_upon)
      go_ret
      exact ⟨ret_bool R2.out.symm, then_ Hw2.out (then_ HW4.out (by assumption))⟩
    · skip
      have hi3 : fpI lR p = _ := hi2
      rw [hi3] at cF
      have R2 := hid (show pmB l s p = y.permit by rw [R.out]; exact ls_some hf2)
      obtain ⟨pp, hpp⟩ : ∃ q, q = y.permit := ⟨_, rfl⟩
      rw [← hpp] at R2
      have hjm : (jj : Int) < (m : Int) := by have := M.out; omega
      have hjj0 : (0 : Int) ≤ (jj : Int) := by omega
      have hjjn : ((jj : Int) != -1) = true := by first | (simp; done) | (simp; omega)
      have hjjl : ¬ (jj : Int) < 0 := by omega
      obtain ⟨bR, offR, rfl, hbR, hcR⟩ := HCR.out (by omega)
      have FR : ∀ v : World, Below w2.heap.size w2 v → v.cell? ⟨bR, offR + jj * zPrefixRule, none⟩ = some (.bool pp) := fun v h => by
        rw [ZP.out, hpp]; exact ((then_ Hw2.out h).cell (p := ⟨bR, offR + jj * 5, none⟩) hbR).trans (row_cells (f := ePRule) (z := 5) (fun _ => rfl) hcR hy 0 _ rfl)
      clear hi2 hi3 hf2 hy hpp hcR
      repeat' ((fail_if_success (with_reducible show Hid _)); (first | ((with_reducible show Oper.wp _ ⟨_, .store 24 _ _, _, _, _, _⟩ _ _ _ _); refine stopP ?_) | (go_at_call 34; with_reducible refine (hL _ (by assumption)).mono ?_; rintro e w' ⟨rfl, b⟩; have b' := then_ (w := w2) (by assumption) b; clear b; try dsimp only) | go_skip | go_guarded | go_step | go_upon))
      refine hid ?_
      refine wp_store_box (w := w'.alloc (.cells zeroPL 24)) 24 _ _ (by rfl) (g := w'.heap.size) (cur := zeroPL) (X := V) (by rfl) (by rfl) (by intro v; rw [hVs, ← ZL.out]; first | exact sz24 v | assumption) (heap_new _ _) (by rw [hVs]; rfl) hV1.out ?_
      intro w4 h1 h2 h3
      have HB4 := hid (show Below w'.heap.size w' w4 from (al1 w' _).trans (h3 _ (Nat.le_refl _)))
      have HW4 := hid (then_ (show Below w2.heap.size w2 w' from b') HB4.out)
      have G4 : Below w4.heap.size w4 w4 := Below.refl _ _
      have FV1 : ∀ v : World, Below w4.heap.size w4 v → v.cell? ⟨w'.heap.size, 1, none⟩ = some (.slice (some ⟨bR, offR, none⟩) m capR) := fun v h => box_at (blk_keep h1 h) y1
      have LV : ∀ v : World, Below w4.heap.size w4 v → Sem.run P (loadCellsFrom ⟨w'.heap.size, 0, none⟩ 0 zPrefixList #[]) v = .ok V v := fun v h => ld_box P (blk_keep h1 h) (by rw [ZL.out]; exact hVs)
      obtain ⟨g, hgb⟩ : ∃ g, g = w'.heap.size := ⟨_, rfl⟩
      rw [← hgb] at FV1 LV ⊢
      clear h1 h2 h3 hVs hgb
      have f0 := FY0 w4 HW4.out
      have f1 := FY1 w4 HW4.out
      have cF4 := fun wx (h : Below w4.heap.size w4 wx) => cF wx (then_ HW4.out h)
      have FR4 := fun v (h : Below w4.heap.size w4 v) => FR v (then_ HW4.out h)
      clear LY0 FE1 cF hL LX FX3 FY0 FY1 b' y1 FR
      repeat' (first | (go_at_call 13; with_reducible refine (cF4 _ (by assumption)).mono ?_; rintro e w' ⟨rfl, b⟩; have b' := then_ (w := w4) (by assumption) b; clear b; try dsimp only) | go_skip | go_guarded | go_step | go_upon)
      go_ret
      exact ⟨ret_bool R2.out.symm, then_ Hw2.out (then_ HW4.out (by assumption))⟩
set_option maxHeartbeats 8000000 in
theorem rfPermits (r : Rtr) (s : ByteArray) (p : Pfx) (w : World) (hr : RtrIn w r) (ha : low p.addr) :
    Calls Try.prog 19 #[.agg (eRtr r).toArray, .string s, .agg (ePfx p).toArray] w fun e w' => e = .returned (.bool (pmB r.lists s p)) ∧ Below w.heap.size w w' := by
  have hF := fun (x : PList) wx (h : InRow ePRule 5 wx x.v x.rules) => rfFirst x p wx h ha
  simp only [ePfx] at hF
  obtain ⟨X, hX⟩ : ∃ X, X = (eRtr r).toArray := ⟨_, rfl⟩
  obtain ⟨Y, hY⟩ : ∃ Y, Y = (ePfx p).toArray := ⟨_, rfl⟩
  obtain ⟨w2, hw2⟩ : ∃ w2, (w.alloc (.cells X 55)).alloc (.cells Y 27) = w2 := ⟨_, rfl⟩
  have hhX : w2.heap[w.heap.size]? = some (.cells X 55 (0, 0)) := by rw [← hw2, Below.heap_alloc _ _ _ (by simp), heap_new]
  have hhY : w2.heap[w.heap.size + 1]? = some (.cells Y 27 (0, 0)) := by rw [← hw2]; have h := heap_new (w.alloc (.cells X 55)) (.cells Y 27 (0, 0)); rwa [new_size] at h
  have FX3 : ∀ v : World, Below w2.heap.size w2 v → v.cell? ⟨w.heap.size, 3, none⟩ = some (r.vLists) := fun v h => box_at (blk_keep hhX h) (by rw [hX]; rfl)
  have KX : ∀ v : World, Below w2.heap.size w2 v → v.heap[w.heap.size]? = some (.cells X 55 (0, 0)) := fun v h => blk_keep hhX h
  have FY0 : ∀ v : World, Below w2.heap.size w2 v → v.cell? ⟨w.heap.size + 1, 0, none⟩ = some (.int .u32 (p.addr : Int)) := fun v h => box_at (blk_keep hhY h) (by rw [hY]; rfl)
  have FY1 : ∀ v : World, Below w2.heap.size w2 v → v.cell? ⟨w.heap.size + 1, 1, none⟩ = some (.int .i64 p.len) := fun v h => box_at (blk_keep hhY h) (by rw [hY]; rfl)
  have Gw2 : Below w2.heap.size w2 w2 := Below.refl _ _
  have Hw2 := hid (show Below w.heap.size w w2 by rw [← hw2]; exact al2 _ _ _)
  have hX' := hid hX
  have hY' := hid hY
  try rw [← hX]
  try rw [← hY]
  clear hX hY hhX hhY
  have hL := fun wx (h : Below w2.heap.size w2 wx) => rkPList X r.vLists r.lists s wx (by rw [hX'.out]; rfl) (hr.keep (then_ Hw2.out h)).lists.row hr.lists.len
  have hXs : X.size = 25 := by rw [hX'.out]; rfl
  have HR := hid hr
  obtain ⟨a, cap, hv, hcap, hcell⟩ := rows_open (z := 2) (by decide) hr.lists.row
  obtain ⟨l, hl⟩ : ∃ l, l = r.lists := ⟨_, rfl⟩
  have hlen := hr.lists.len
  have RR := hid (fun x (h : x ∈ r.lists) => hr.listsR x h)
  rw [← hl] at hv hcap hcell hlen hL RR ⊢
  obtain ⟨n, hn⟩ : ∃ n, n = l.length := ⟨_, rfl⟩
  rw [← hn] at hv hcap hcell hlen
  rw [hv] at FX3
  have N := hid hn
  have HC := hid hcell
  clear hcell hn hl hr hv
  obtain ⟨P, hP⟩ : ∃ P, P = Try.prog := ⟨_, rfl⟩
  have HP := hid hP
  have mixed : P.follows .mixedOrders = true := by rw [hP]; kernel_rfl
  have FG : P.funcs[19]? = some Try.f19 := by rw [hP]; exact Try.func19
  obtain ⟨zRouter, hzRouter⟩ : ∃ z, z = 25 := ⟨_, rfl⟩
  have nzRouter : ¬ zRouter = 0 := by omega
  obtain ⟨zPrefixList, hzPrefixList⟩ : ∃ z, z = 2 := ⟨_, rfl⟩
  have nzPrefixList : ¬ zPrefixList = 0 := by omega
  obtain ⟨zPrefixRule, hzPrefixRule⟩ : ∃ z, z = 5 := ⟨_, rfl⟩
  have nzPrefixRule : ¬ zPrefixRule = 0 := by omega
  have ty3 := Try.underlying3; have ag3 := Try.isAgg3; have sz3 := Try.sizeOf3; have ru3 := Try.runUnderlying3
  have ty4 := Try.underlying4; have ag4 := Try.isAgg4; have sz4 := Try.sizeOf4; have ru4 := Try.runUnderlying4
  have ty9 := Try.underlying9; have ag9 := Try.isAgg9; have sz9 := Try.sizeOf9; have ru9 := Try.runUnderlying9
  have ty22 := Try.underlying22; have ag22 := Try.isAgg22; have sz22 := Try.sizeOf22; have ru22 := Try.runUnderlying22
  have ty24 := Try.underlying24; have ag24 := Try.isAgg24; have sz24 := Try.sizeOf24; have ru24 := Try.runUnderlying24
  rw [← hzPrefixList] at sz24
  have ty27 := Try.underlying27; have ag27 := Try.isAgg27; have sz27 := Try.sizeOf27; have ru27 := Try.runUnderlying27
  have ty31 := Try.underlying31; have ag31 := Try.isAgg31; have sz31 := Try.sizeOf31; have ru31 := Try.runUnderlying31
  rw [← hzPrefixRule] at sz31
  have ty37 := Try.underlying37; have ag37 := Try.isAgg37; have sz37 := Try.sizeOf37; have ru37 := Try.runUnderlying37
  have ty55 := Try.underlying55; have ag55 := Try.isAgg55; have sz55 := Try.sizeOf55; have ru55 := Try.runUnderlying55
  rw [← hzRouter] at sz55
  have en0 : ∀ args w, (callFunc 14 args).run Try.prog w = .ok (.enter 14 args) w := enters_of Try.func14 (by kernel_rfl) rfl
  have en1 : ∀ args w, (callFunc 35 args).run Try.prog w = .ok (.enter 35 args) w := enters_of Try.func35 (by kernel_rfl) rfl
  rw [← hP] at ty3 ag3 sz3 ru3 ty4 ag4 sz4 ru4 ty9 ag9 sz9 ru9 ty22 ag22 sz22 ru22 ty24 ag24 sz24 ru24 ty27 ag27 sz27 ru27 ty31 ag31 sz31 ru31 ty37 ag37 sz37 ru37 ty55 ag55 sz55 ru55 en0 en1 hL hF ⊢
  clear hP
  have LX : ∀ v : World, Below w2.heap.size w2 v → Sem.run P (loadCellsFrom ⟨w.heap.size, 0, none⟩ 0 zRouter #[]) v = .ok X v := fun v h => ld_box P (KX v h) (by rw [hzRouter]; exact hXs)
  have ZL := hid hzPrefixList
  have ZP := hid hzPrefixRule
  clear hzRouter hzPrefixList hzPrefixRule KX hXs
  cases hs : s.toList.isEmpty with
  | true =>
    have R := hid (show pmB l s p = true from pm_yes hs)
    go_enter FG, Try.ntmps19
    repeat' (first | go_skip | go_guarded | go_step | go_upon)
    go_ret
    exact ⟨ret_bool R.out.symm, Hw2.out⟩
  | false =>
  rcases ix_find (p := fun x : PList => x.name.toList == s.toList) l with ⟨hi, hf⟩ | ⟨j, x, hi, hx, hf, -, hj⟩
  · have R := hid (show pmB l s p = false from pm_none hs hf)
    rw [hi] at hL
    clear hi hf hF
    go_enter FG, Try.ntmps19
    repeat' (first | (go_at_call 35; with_reducible refine (hL _ (by assumption)).mono ?_; rintro e w' ⟨rfl, b⟩; have b' := then_ (w := w2) (by assumption) b; clear b; try dsimp only) | go_skip | go_guarded | go_step | go_upon)
    go_ret
    exact ⟨ret_bool R.out.symm, then_ Hw2.out (by assumption)⟩
  · have R := hid (show pmB l s p = lsB x.rules p from pm_some hs hf)
    rw [hi] at hL
    have hji : (j : Int) < (n : Int) := by have := N.out; omega
    have hj0 : (0 : Int) ≤ (j : Int) := by omega
    have hjn : ((j : Int) == -1) = false := by first | (simp; done) | (simp; omega)
    have hjl : ¬ (j : Int) < 0 := by omega
    obtain ⟨b, off, rfl, hb, hc⟩ := HC.out (by omega)
    have hcx := row_cells (f := ePList) (z := 2) (fun _ => rfl) hc hx
    have XR := hid (RR.out x (get_mem hx))
    clear hi hf
    go_enter FG, Try.ntmps19
    have LY0 : ∀ v : World, Below w2.heap.size w2 v → Sem.run P (loadCellsFrom ⟨b, off + j * zPrefixList, none⟩ 0 zPrefixList #[]) v = .ok (ePList x).toArray v := fun v h => by
      rw [ZL.out]; exact ld_row (f := ePList) (z := 2) P (fun _ => rfl) (fun i u hi => ((then_ Hw2.out h).cell (p := ⟨b, off + i, none⟩) hb).trans (hc i u hi)) hx
    have FE1 : ∀ v : World, Below w2.heap.size w2 v → v.cell? ⟨b, off + j * zPrefixList + 1, none⟩ = some x.v := fun v h => by
      rw [ZL.out]; exact ((then_ Hw2.out h).cell (p := ⟨b, off + j * 2 + 1, none⟩) hb).trans (hcx 1 _ rfl)
    have cF := fun wx (h : Below w2.heap.size w2 wx) => hF x wx (XR.out.keep (then_ Hw2.out h))
    obtain ⟨V, hV⟩ : ∃ V, V = (ePList x).toArray := ⟨_, rfl⟩
    have hVs : V.size = 2 := by rw [hV]; rfl
    have hV1 := hid (show V.all (·.oneCell') = true by rw [hV]; exact ePList_one XR.out)
    obtain ⟨aR, capR, hvR, hcapR, hcellR⟩ := rows_open (z := 5) (by decide) XR.out.row
    obtain ⟨lR, hlR⟩ : ∃ l, l = x.rules := ⟨_, rfl⟩
    have hlenR := XR.out.len
    rw [← hlR] at hvR hcapR hcellR hlenR cF R
    obtain ⟨m, hm⟩ : ∃ n, n = lR.length := ⟨_, rfl⟩
    rw [← hm] at hvR hcapR hcellR hlenR
    have y1 : V[1]? = some (.slice aR m capR) := by rw [hV, ← hvR]; rfl
    rw [hvR] at FE1
    have M := hid hm
    have HCR := hid hcellR
    rw [← hV] at LY0 cF
    clear hcx hc hx hm hcellR hlR hvR hV hF
    rcases ix_find (p := fun y => mtB y p) lR with ⟨hi2, hf2⟩ | ⟨jj, y, hi2, hy, hf2, -, hjj⟩
    · skip
      have hi3 : fpI lR p = _ := hi2
      rw [hi3] at cF
      have R2 := hid (show pmB l s p = false by rw [R.out]; exact ls_none hf2)
      clear hi2 hi3 hf2
      repeat' ((fail_if_success (with_reducible show Code.wp _ (Code.region 6 _ _) _ _ _)); (first | (go_at_call 35; with_reducible refine (hL _ (by assumption)).mono ?_; rintro e w' ⟨rfl, b⟩; have b' := then_ (w := w2) (by assumption) b; clear b; try dsimp only) | go_skip | go_guarded | go_step | go_upon))
      have GR : Below w'.heap.size w' w' := Below.refl _ _
      have uX3 := fun u : Later w'.heap.size w' => FX3 u.w (then_ b' u.h)
      have uf0 := fun u : Later w'.heap.size w' => FY0 u.w (then_ b' u.h)
      have uf1 := fun u : Later w'.heap.size w' => FY1 u.w (then_ b' u.h)
      have uL := fun u : Later w'.heap.size w' => LY0 u.w (then_ b' u.h)
      have cFu := fun u : Later w'.heap.size w' => cF u.w (then_ b' u.h)
      refine wp_region_base w' (by assumption) (by first | assumption | kernel_rfl) (by kernel_rfl) ?_
      repeat (go_big_quiet_step (first | (go_at_call 14; with_reducible exact later_of (Nat.le_refl _) (cFu _))))
      refine wpQuiet_nil ?_
      rintro _ ⟨u, rfl⟩
      have bu := u.h
      have hu := then_ b' bu
      clear bu b' uX3 uf0 uf1 uL cFu hL cF LX
      repeat' (first | go_skip | go_guarded | go_step | go_upon)
      go_ret
      exact ⟨ret_bool R2.out.symm, then_ Hw2.out hu⟩
    · skip
      have hi3 : fpI lR p = _ := hi2
      rw [hi3] at cF
      have R2 := hid (show pmB l s p = y.permit by rw [R.out]; exact ls_some hf2)
      obtain ⟨pp, hpp⟩ : ∃ q, q = y.permit := ⟨_, rfl⟩
      rw [← hpp] at R2
      have hjm : (jj : Int) < (m : Int) := by have := M.out; omega
      have hjj0 : (0 : Int) ≤ (jj : Int) := by omega
      have hjjn : ((jj : Int) != -1) = true := by first | (simp; done) | (simp; omega)
      have hjjl : ¬ (jj : Int) < 0 := by omega
      obtain ⟨bR, offR, rfl, hbR, hcR⟩ := HCR.out (by omega)
      have FR : ∀ v : World, Below w2.heap.size w2 v → v.cell? ⟨bR, offR + jj * zPrefixRule, none⟩ = some (.bool pp) := fun v h => by
        rw [ZP.out, hpp]; exact ((then_ Hw2.out h).cell (p := ⟨bR, offR + jj * 5, none⟩) hbR).trans (row_cells (f := ePRule) (z := 5) (fun _ => rfl) hcR hy 0 _ rfl)
      clear hi2 hi3 hf2 hy hpp hcR
      repeat' ((fail_if_success (with_reducible show Code.wp _ (Code.region 6 _ _) _ _ _)); (first | (go_at_call 35; with_reducible refine (hL _ (by assumption)).mono ?_; rintro e w' ⟨rfl, b⟩; have b' := then_ (w := w2) (by assumption) b; clear b; try dsimp only) | go_skip | go_guarded | go_step | go_upon))
      have GR : Below w'.heap.size w' w' := Below.refl _ _
      have uX3 := fun u : Later w'.heap.size w' => FX3 u.w (then_ b' u.h)
      have uf0 := fun u : Later w'.heap.size w' => FY0 u.w (then_ b' u.h)
      have uf1 := fun u : Later w'.heap.size w' => FY1 u.w (then_ b' u.h)
      have uL := fun u : Later w'.heap.size w' => LY0 u.w (then_ b' u.h)
      have cFu := fun u : Later w'.heap.size w' => cF u.w (then_ b' u.h)
      refine wp_region_base w' (by assumption) (by first | assumption | kernel_rfl) (by kernel_rfl) ?_
      repeat (go_big_quiet_step (first | (go_at_call 14; with_reducible exact later_of (Nat.le_refl _) (cFu _))))
      refine wpQuiet_nil ?_
      rintro _ ⟨u, rfl⟩
      have bu := u.h
      have hu := then_ b' bu
      clear bu b' uX3 uf0 uf1 uL cFu hL cF LX
      repeat' (first | go_skip | go_guarded | go_step | go_upon)
      go_ret
      exact ⟨ret_bool R2.out.symm, then_ Hw2.out hu⟩
end Go.Proofs.Ytlhbfpapmolohaa.Mw
