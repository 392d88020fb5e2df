/-
  THE CONTRACT OF policy.Apply.
-/
import Derived.Test.YtlhbfpapmolohaaPolG
namespace Go.Proofs.Ytlhbfpapmolohaa.Mw
set_option linter.unusedSimpArgs false
set_option linter.unusedVariables false
open Go.RowKit Kt Mm Mp Am

theorem zeroRte_in (w : World) : RteIn w zeroRte := ⟨by unfold low; decide, ⟨rows_nil, by simp [zeroRte]⟩, by unfold low; decide, by unfold low; decide, ⟨rows_nil, by simp [zeroRte]⟩, by intro y hy; cases hy⟩
theorem app_some {ls : List PList} {ms : List RMap} {s : ByteArray} {x : Rte} (h : s.toList.isEmpty = true) : appO ls ms s x = some x := by unfold appO noS; rw [h]; rfl
theorem app_perm {ls : List PList} {ms : List RMap} {s : ByteArray} {x : Rte} (h : s.toList.isEmpty = false) : appO ls ms s x = match permC ls ms s x.pfx x.tag with | none => none | some c => some (setC x c) := by unfold appO noS; rw [h]; rfl
/-- What Apply hands back: the route o, or the zero route; its lists in memory of the call's own. -/
def AppPost (o : Option Rte) (w : World) (e : Ending) (w' : World) : Prop := ∃ y, e = .returned (.tuple #[.agg (eRte y).toArray, .bool o.isSome]) ∧ Like (o.getD zeroRte) y ∧ RteIn w' y ∧ Below w.heap.size w w'

set_option maxHeartbeats 8000000 in
theorem plApply (r : Rtr) (s : ByteArray) (x : Rte) (w : World) (hr : RtrIn w r) (hx : RteIn w x) (hp : x.path.length ≤ 1000000000) (hh : x.hops.length ≤ 1000000000) :
    Calls Try.prog 20 #[.agg (eRtr r).toArray, .string s, .agg (eRte x).toArray] w (AppPost (appO r.lists r.maps s x) w) := by
  obtain ⟨X, hX⟩ : ∃ X, X = (eRtr r).toArray := ⟨_, rfl⟩
  obtain ⟨Y, hY⟩ : ∃ Y, Y = (eRte x).toArray := ⟨_, rfl⟩
  obtain ⟨w2, hw2⟩ : ∃ w2, (w.alloc (.cells X 55)).alloc (.cells Y 62) = w2 := ⟨_, rfl⟩
  have hhX : w2.heap[w.heap.size]? = some (.cells X 55 (0, 0)) := by rw [← hw2, Below.heap_alloc _ _ _ (by simp), heap_new]
  have hhY : w2.heap[w.heap.size + 1]? = some (.cells Y 62 (0, 0)) := by rw [← hw2]; have h := heap_new (w.alloc (.cells X 55)) (.cells Y 62 (0, 0)); rwa [new_size] at h
  have KX : ∀ v : World, Below w2.heap.size w2 v → v.heap[w.heap.size]? = some (.cells X 55 (0, 0)) := fun v h => blk_keep hhX h
  have KY : ∀ v : World, Below w2.heap.size w2 v → v.heap[w.heap.size + 1]? = some (.cells Y 62 (0, 0)) := fun v h => blk_keep hhY h
  have Gw2 : Below w2.heap.size w2 w2 := Below.refl _ _
  have Hw2 := hid (show Below w.heap.size w w2 by rw [← hw2]; exact al2 _ _ _)
  have hX' := hid hX
  have hY' := hid hY
  try rw [← hX]
  try rw [← hY]
  clear hX hY hhX hhY
  have hXs : X.size = 25 := by rw [hX'.out]; rfl
  have hYs : Y.size = 14 := by rw [hY'.out]; rfl
  obtain ⟨w3, hw3⟩ : ∃ w3, w2.alloc (.cells #[.int .u32 0, .int .i64 0, .int .i64 0, .int .i64 0, .int .i64 0, .int .i64 0, .int .i64 0, .int .i64 0, .int .i64 0, .slice none 0 0, .int .u32 0, .int .u32 0, .slice none 0 0, .bool false] 62) = w3 := ⟨_, rfl⟩
  have hh3 : w3.heap[w2.heap.size]? = some (.cells zeroRt 62 (0, 0)) := by rw [← hw3]; exact heap_new _ _
  have H3 := hid (show Below w2.heap.size w2 w3 by rw [← hw3]; exact new_below _ _)
  have s2 : w2.heap.size = w.heap.size + 2 := by rw [← hw2, new_size, new_size]
  have s3 := hid (show w3.heap.size = w.heap.size + 3 by rw [← hw3, new_size, s2])
  have G3 : Below w3.heap.size w3 w3 := Below.refl _ _
  have K3 : ∀ v : World, Below w3.heap.size w3 v → v.heap[w.heap.size + 2]? = some (.cells zeroRt 62 (0, 0)) := fun v h => by rw [← s2]; exact blk_keep hh3 h
  have HW3 := hid (then_ Hw2.out H3.out)
  have hCl := fun wx (h : Below w3.heap.size w3 wx) => plClone x wx (hx.keep (then_ HW3.out h)) hp hh
  have hPm := fun wx (h : Below w3.heap.size w3 wx) => plPermitting r s x wx (hr.keep (then_ HW3.out h)) hx.pfxA
  rw [← hX'.out] at hPm
  rw [← hY'.out] at hPm hCl
  have BX : ∀ v : World, Below w3.heap.size w3 v → v.heap[w.heap.size]? = some (.cells X 55 (0, 0)) := fun v h => KX v (then_ H3.out h)
  have BY : ∀ v : World, Below w3.heap.size w3 v → v.heap[w.heap.size + 1]? = some (.cells Y 62 (0, 0)) := fun v h => KY v (then_ H3.out h)
  have FY5 : ∀ v : World, Below w3.heap.size w3 v → v.cell? ⟨w.heap.size + 1, 5, none⟩ = some (.int .i64 x.metric) := fun v h => box_at (BY v h) (by rw [hY'.out]; rfl)
  have FY7 : ∀ v : World, Below w3.heap.size w3 v → v.cell? ⟨w.heap.size + 1, 7, none⟩ = some (.int .i64 x.tag) := fun v h => box_at (BY v h) (by rw [hY'.out]; rfl)
  have FY8 : ∀ v : World, Below w3.heap.size w3 v → v.cell? ⟨w.heap.size + 1, 8, none⟩ = some (.int .i64 x.pref) := fun v h => box_at (BY v h) (by rw [hY'.out]; rfl)
  have hRe := fun (p q : Int) wx => plReplaced p q wx
  obtain ⟨O, hO⟩ : ∃ O, O = appO r.lists r.maps s x := ⟨_, rfl⟩
  rw [← hO]
  obtain ⟨o, ho⟩ : ∃ o, o = permC r.lists r.maps s x.pfx x.tag := ⟨_, rfl⟩
  rw [← ho] at hPm
  obtain ⟨POST, hPO⟩ : ∃ Q, Q = AppPost O w := ⟨_, rfl⟩
  rw [← hPO]
  have HPO := hid hPO
  clear hx hp hh hr hh3 KX KY hPO
  obtain ⟨P, hP⟩ : ∃ P, P = Try.prog := ⟨_, rfl⟩
  have HP := hid hP
  have mixed : P.follows .mixedOrders = true := by rw [hP]; kernel_rfl
  have FG : P.funcs[20]? = some Try.f20 := by rw [hP]; exact Try.func20
  obtain ⟨zRouter, hzRouter⟩ : ∃ z, z = 25 := ⟨_, rfl⟩
  have nzRouter : ¬ zRouter = 0 := by omega
  obtain ⟨zClause, hzClause⟩ : ∃ z, z = 7 := ⟨_, rfl⟩
  have nzClause : ¬ zClause = 0 := by omega
  obtain ⟨zRoute, hzRoute⟩ : ∃ z, z = 14 := ⟨_, rfl⟩
  have nzRoute : ¬ zRoute = 0 := by omega
  have ty3 := Try.underlying3; have ag3 := Try.isAgg3; have sz3 := Try.sizeOf3; have ru3 := Try.runUnderlying3
  have ty4 := Try.underlying4; have ag4 := Try.isAgg4; have sz4 := Try.sizeOf4; have ru4 := Try.runUnderlying4
  have ty9 := Try.underlying9; have ag9 := Try.isAgg9; have sz9 := Try.sizeOf9; have ru9 := Try.runUnderlying9
  have ty55 := Try.underlying55; have ag55 := Try.isAgg55; have sz55 := Try.sizeOf55; have ru55 := Try.runUnderlying55
  rw [← hzRouter] at sz55
  have ty62 := Try.underlying62; have ag62 := Try.isAgg62; have sz62 := Try.sizeOf62; have ru62 := Try.runUnderlying62
  rw [← hzRoute] at sz62
  have zeRoute := Try.zeroValue62
  have ty80 := Try.underlying80; have ag80 := Try.isAgg80; have sz80 := Try.sizeOf80; have ru80 := Try.runUnderlying80
  rw [← hzClause] at sz80
  have zeClause := Try.zeroValue80
  have en0 : ∀ args w, (callFunc 36 args).run Try.prog w = .ok (.enter 36 args) w := enters_of Try.func36 (by kernel_rfl) rfl
  have en1 : ∀ args w, (callFunc 37 args).run Try.prog w = .ok (.enter 37 args) w := enters_of Try.func37 (by kernel_rfl) rfl
  have en2 : ∀ args w, (callFunc 38 args).run Try.prog w = .ok (.enter 38 args) w := enters_of Try.func38 (by kernel_rfl) rfl
  rw [← hP] at ty3 ag3 sz3 ru3 ty4 ag4 sz4 ru4 ty9 ag9 sz9 ru9 ty55 ag55 sz55 ru55 ty62 ag62 sz62 ru62 zeRoute ty80 ag80 sz80 ru80 zeClause en0 en1 en2 hCl hPm hRe ⊢
  clear hP
  have LX : ∀ v : World, Below w3.heap.size w3 v → Sem.run P (loadCellsFrom ⟨w.heap.size, 0, none⟩ 0 zRouter #[]) v = .ok X v := fun v h => ld_box P (BX v h) (by rw [hzRouter]; exact hXs)
  have LY : ∀ v : World, Below w3.heap.size w3 v → Sem.run P (loadCellsFrom ⟨w.heap.size + 1, 0, none⟩ 0 zRoute #[]) v = .ok Y v := fun v h => ld_box P (BY v h) (by rw [hzRoute]; exact hYs)
  have zP : ∀ v, (sizeOf 27).run P v = .ok 2 v := fun v => by rw [HP.out]; exact Try.sizeOf27 v
  have zI : ∀ v, (sizeOf 59).run P v = .ok 1 v := fun v => by rw [HP.out]; exact Try.sizeOf59 v
  have zU : ∀ v, (sizeOf 25).run P v = .ok 1 v := fun v => by rw [HP.out]; exact Try.sizeOf25 v
  have zH : ∀ v, (sizeOf 60).run P v = .ok 1 v := fun v => by rw [HP.out]; exact Try.sizeOf60 v
  have ZC := hid hzClause
  have ZR := hid hzRoute
  clear hzRouter hzClause hzRoute BX BY hXs hYs
  have SZ : ∀ {Z : Array Value}, Z.size = 14 → ∀ v, (sizeOf 62).run P v = .ok Z.size v := fun h v => by rw [h, ← ZR.out]; exact sz62 v
  cases hs : s.toList.isEmpty with
  | true =>
    have R := hid (hO.trans (app_some hs))
    clear hPm ho hO hRe
    go_enter FG, Try.ntmps20
    repeat' ((fail_if_success (with_reducible show Hid _)); (first | (go_at_call 36; with_reducible refine (hCl _ (by assumption)).mono ?_; rintro e wa ⟨y, rfl, ly, iy, bel⟩; refine stopP ?_) | go_skip | go_guarded | go_step | go_upon))
    refine hid ?_
    dsimp only
    obtain ⟨Z, hZ⟩ : ∃ Z, Z = (eRte y).toArray := ⟨_, rfl⟩
    have hZs : Z.size = 14 := by rw [hZ]; rfl
    have hZ1 := hid (show Z.all (·.oneCell') = true by rw [hZ]; exact eRte_one iy.at)
    rw [← hZ]
    have HZ := hid hZ
    have Ka := K3 wa bel
    clear K3 LX LY hCl hZ FY5 FY7 FY8
    repeat' ((fail_if_success (with_reducible show Hid _)); (first | ((with_reducible show Oper.wp _ ⟨_, .store 62 _ _, _, _, _, _⟩ _ _ _ _); refine stopP ?_) | go_skip | go_guarded | go_step | go_upon))
    refine hid ?_
    refine wp_store_box (w := wa) 62 _ _ (by rfl) (g := w.heap.size + 2) (cur := zeroRt) (X := Z) (by rfl) (by rfl) (SZ hZs) Ka (by rw [hZs]; rfl) hZ1.out ?_
    intro wb h1 h2 h3
    have BB := hid ((then_ HW3.out bel).trans (h3 w.heap.size (by omega)))
    have YB := hid (iy wb fun k hk1 hk2 => h2 k (by have := s3.out; omega))
    have LI := hid ly
    clear h2 h3 Ka iy ly bel
    repeat' (first | go_skip | go_guarded | go_step | go_upon)
    (try simp only [Exit.inBlock, Exit.then])
    exact result_box2 (A := Z) (fn := Try.f20) (t := 62) (b := w.heap.size + 2) rfl rfl ag62 (SZ hZs) h1 rfl (by rw [HPO.out, R.out]; exact ⟨y, by rw [HZ.out]; rfl, LI.out, YB.out, BB.out⟩)
  | false =>
    have R := hid (hO.trans (app_perm hs))
    rw [← ho] at R
    obtain ⟨ok, hok⟩ : ∃ q, q = o.isSome := ⟨_, rfl⟩
    obtain ⟨c, hc⟩ : ∃ q, q = o.getD zeroCla := ⟨_, rfl⟩
    obtain ⟨V, hV⟩ : ∃ V, V = (eCla c).toArray := ⟨_, rfl⟩
    have hVs : V.size = 7 := by rw [hV]; rfl
    have hV1 := hid (show V.all (·.oneCell') = true by rw [hV]; exact cla_one c)
    have y3 : V[3]? = some (.int .i64 c.setMetric) := by rw [hV]; rfl
    have y4 : V[4]? = some (.int .i64 c.setTag) := by rw [hV]; rfl
    have y5 : V[5]? = some (.int .i64 c.setPref) := by rw [hV]; rfl
    have hpv : permV o = .tuple #[.agg V, .bool ok] := by unfold permV; rw [← hc, ← hV, ← hok]
    rw [hpv] at hPm
    have R2 := hid (show O = if ok then some (setC x c) else none by rw [R.out, hok, hc]; cases o <;> rfl)
    clear hV hok hc hpv R ho hO
    go_enter FG, Try.ntmps20
    repeat' ((fail_if_success (with_reducible show Hid _)); (first | ((with_reducible show Oper.wp _ ⟨_, .store 80 _ _, _, _, _, _⟩ _ _ _ _); refine stopP ?_) | (go_at_call 37; with_reducible refine (hPm _ (by assumption)).mono ?_; rintro e w' ⟨rfl, b⟩; have b' := then_ (w := w3) (by assumption) b; clear b; try dsimp only) | go_skip | go_guarded | go_step | go_upon))
    refine hid ?_
    refine wp_store_box (w := w'.alloc (.cells zeroCl 80)) 80 _ _ (by rfl) (g := w'.heap.size) (cur := zeroCl) (X := V) (by rfl) (by rfl) (by intro v; rw [hVs, ← ZC.out]; first | exact sz80 v | assumption) (heap_new _ _) (by rw [hVs]; rfl) hV1.out ?_
    intro w4 h1 h2 h3
    have HB4 := hid (show Below w'.heap.size w' w4 from (al1 w' _).trans (h3 _ (Nat.le_refl _)))
    have HW4 := hid (then_ (show Below w3.heap.size w3 w' from b') HB4.out)
    have G4 : Below w4.heap.size w4 w4 := Below.refl _ _
    have FV3 : ∀ v : World, Below w4.heap.size w4 v → v.cell? ⟨w'.heap.size, 3, none⟩ = some (.int .i64 c.setMetric) := fun v h => box_at (blk_keep h1 h) y3
    have FV4 : ∀ v : World, Below w4.heap.size w4 v → v.cell? ⟨w'.heap.size, 4, none⟩ = some (.int .i64 c.setTag) := fun v h => box_at (blk_keep h1 h) y4
    have FV5 : ∀ v : World, Below w4.heap.size w4 v → v.cell? ⟨w'.heap.size, 5, none⟩ = some (.int .i64 c.setPref) := fun v h => box_at (blk_keep h1 h) y5
    have LV : ∀ v : World, Below w4.heap.size w4 v → Sem.run P (loadCellsFrom ⟨w'.heap.size, 0, none⟩ 0 zClause #[]) v = .ok V v := fun v h => ld_box P (blk_keep h1 h) (by rw [ZC.out]; exact hVs)
    obtain ⟨g, hgb⟩ : ∃ g, g = w'.heap.size := ⟨_, rfl⟩
    rw [← hgb] at FV3 FV4 FV5 LV ⊢
    clear h1 h2 h3 hVs hgb
    have gw := hid (show w3.heap.size ≤ w4.heap.size from HW4.out.size)
    clear y3 y4 y5 b' LX hPm LV
    cases ok
    case false =>
      have Ka := K3 w4 HW4.out
      clear K3 LY hCl FY5 FY7 FY8 FV3 FV4 FV5 hRe
      repeat' ((fail_if_success (with_reducible show Hid _)); (first | ((with_reducible show Oper.wp _ ⟨_, .store 62 _ _, _, _, _, _⟩ _ _ _ _); refine stopP ?_) | go_skip | go_guarded | go_step | go_upon))
      refine hid ?_
      refine wp_store_box (w := w4) 62 _ _ (by rfl) (g := w.heap.size + 2) (cur := zeroRt) (X := zeroRt) (by rfl) (by rfl) (SZ rfl) Ka rfl (eRte_one (zeroRte_in w)) ?_
      intro wb h1 h2 h3
      have BB := hid ((then_ HW3.out HW4.out).trans (h3 w.heap.size (by omega)))
      clear h2 h3 Ka
      repeat' (first | go_skip | go_guarded | go_step | go_upon)
      (try simp only [Exit.inBlock, Exit.then])
      exact result_box2 (A := zeroRt) (fn := Try.f20) (t := 62) (b := w.heap.size + 2) rfl rfl ag62 (SZ rfl) h1 rfl (by rw [HPO.out, R2.out]; exact ⟨zeroRte, rfl, Like.refl _, zeroRte_in _, BB.out⟩)
    case true =>
      have hCl := fun wx (h : Below w4.heap.size w4 wx) => hCl wx (then_ HW4.out h)
      have LY4 := fun (v : World) (h : Below w4.heap.size w4 v) => LY v (then_ HW4.out h)
      have F5 := fun (v : World) (h : Below w4.heap.size w4 v) => FY5 v (then_ HW4.out h)
      have F7 := fun (v : World) (h : Below w4.heap.size w4 v) => FY7 v (then_ HW4.out h)
      have F8 := fun (v : World) (h : Below w4.heap.size w4 v) => FY8 v (then_ HW4.out h)
      clear LY FY5 FY7 FY8
      repeat' ((fail_if_success (with_reducible show Hid _)); (first | (go_at_call 36; with_reducible refine (hCl _ (by assumption)).mono ?_; rintro e wa ⟨y, rfl, ly, iy, bel⟩; refine stopP ?_) | go_skip | go_guarded | go_step | go_upon))
      refine hid ?_
      dsimp only
      obtain ⟨Z, hZ⟩ : ∃ Z, Z = (eRte y).toArray := ⟨_, rfl⟩
      have hZs : Z.size = 14 := by rw [hZ]; rfl
      have hZ1 := hid (show Z.all (·.oneCell') = true by rw [hZ]; exact eRte_one iy.at)
      rw [← hZ]
      have HZ := hid hZ
      have z5 : Z[5]? = some (.int .i64 y.metric) := by rw [hZ]; rfl
      have z7 : Z[7]? = some (.int .i64 y.tag) := by rw [hZ]; rfl
      have z8 : Z[8]? = some (.int .i64 y.pref) := by rw [hZ]; rfl
      have BA := hid bel
      clear hZ hCl LY4
      repeat' ((fail_if_success (with_reducible show Hid _)); (first | ((with_reducible show Oper.wp _ ⟨_, .store 62 _ _, _, _, _, _⟩ _ _ _ _); refine stopP ?_) | go_skip | go_guarded | go_step | go_upon))
      refine hid ?_
      refine wp_store_box (w := wa.alloc (.cells zeroRt 62)) 62 _ _ (by rfl) (g := wa.heap.size) (cur := zeroRt) (X := Z) (by rfl) (by rfl) (SZ hZs) (heap_new _ _) (by rw [hZs]; rfl) hZ1.out ?_
      intro w6 h1 h2 h3
      have B6 := hid (show Below wa.heap.size wa w6 from (al1 wa _).trans (h3 _ (Nat.le_refl _)))
      have HB6 := hid (show Below w4.heap.size w4 w6 from then_ BA.out B6.out)
      have b6 := HB6.out
      have c6 := box_at h1 z5
      have r6 := frz h1 5
      have K7 := Go.heap_setCell_same w6 wa.heap.size 5 _ _ (.int .i64 (repI x.metric c.setMetric)) h1
      obtain ⟨w7, hw7⟩ : ∃ v, w6.setCell ⟨wa.heap.size, 5, none⟩ (.int .i64 (repI x.metric c.setMetric)) = v := ⟨_, rfl⟩
      rw [hw7] at K7
      have B7 := hid (show Below wa.heap.size wa w7 by rw [← hw7]; exact B6.out.setCell (Nat.le_refl _) _)
      have b7 : Below w4.heap.size w4 w7 := then_ BA.out B7.out
      have c7 := box_at K7 (j := 7) (v := .int .i64 y.tag) (by rw [Array.getElem?_setIfInBounds_ne (by decide)]; exact z7)
      have r7 := frz K7 7
      have K8 := Go.heap_setCell_same w7 wa.heap.size 7 _ _ (.int .i64 (repI x.tag c.setTag)) K7
      obtain ⟨w8, hw8⟩ : ∃ v, w7.setCell ⟨wa.heap.size, 7, none⟩ (.int .i64 (repI x.tag c.setTag)) = v := ⟨_, rfl⟩
      rw [hw8] at K8
      have B8 := hid (show Below wa.heap.size wa w8 by rw [← hw8]; exact B7.out.setCell (Nat.le_refl _) _)
      have b8 : Below w4.heap.size w4 w8 := then_ BA.out B8.out
      have c8 := box_at K8 (j := 8) (v := .int .i64 y.pref) (by rw [Array.getElem?_setIfInBounds_ne (by decide), Array.getElem?_setIfInBounds_ne (by decide)]; exact z8)
      have r8 := frz K8 8
      have K9 := Go.heap_setCell_same w8 wa.heap.size 8 _ _ (.int .i64 (repI x.pref c.setPref)) K8
      obtain ⟨w9, hw9⟩ : ∃ v, w8.setCell ⟨wa.heap.size, 8, none⟩ (.int .i64 (repI x.pref c.setPref)) = v := ⟨_, rfl⟩
      rw [hw9] at K9
      have B9 := hid (show Below wa.heap.size wa w9 by rw [← hw9]; exact B8.out.setCell (Nat.le_refl _) _)
      obtain ⟨U, hU⟩ : ∃ U, U = ((Z.setIfInBounds 5 (.int .i64 (repI x.metric c.setMetric))).setIfInBounds 7 (.int .i64 (repI x.tag c.setTag))).setIfInBounds 8 (.int .i64 (repI x.pref c.setPref)) := ⟨_, rfl⟩
      rw [← hU] at K9
      obtain ⟨yy, hyy⟩ : ∃ q : Rte, q = { y with metric := repI x.metric c.setMetric, tag := repI x.tag c.setTag, pref := repI x.pref c.setPref } := ⟨_, rfl⟩
      have UV := hid (show U = (eRte yy).toArray by rw [hU, HZ.out, hyy]; rfl)
      have hUs : U.size = 14 := by rw [UV.out]; rfl
      have LU : Sem.run P (loadCellsFrom ⟨wa.heap.size, 0, none⟩ 0 zRoute #[]) w9 = .ok U w9 := ld_box P K9 (by rw [ZR.out]; exact hUs)
      have U1 := hid (show U.all (·.oneCell') = true by
        rw [UV.out, hyy]
        exact eRte_one (x := { y with metric := repI x.metric c.setMetric, tag := repI x.tag c.setTag, pref := repI x.pref c.setPref }) { iy.at with })
      have Ka := K3 w9 (then_ HW4.out (then_ BA.out B9.out))
      have LI := hid (show Like (setC x c) yy by rw [hyy]; unfold setC; exact ⟨ly.pfx, ly.proto, ly.cls, ly.admin, rfl, ly.inner, rfl, rfl, ly.path, ly.frm, ly.next, ly.hops, ly.discard⟩)
      have IY := hid iy
      clear hZs z5 z7 z8 h2 h3 hU K3 iy ly h1 K7 K8 bel
      repeat' ((fail_if_success (with_reducible show Hid _)); (first | ((with_reducible show Oper.wp _ ⟨_, .store 62 _ _, _, _, _, _⟩ _ _ _ _); refine stopP ?_) | (go_at_call 38; with_reducible refine (hRe _ _ _).mono ?_; rintro e w' ⟨rfl, rfl⟩; try dsimp only) | go_skip | go_guarded | go_step | go_upon))
      refine hid ?_
      refine wp_store_box (w := w9) 62 _ _ (by rfl) (g := w.heap.size + 2) (cur := zeroRt) (X := U) (by rfl) (by rfl) (SZ hUs) Ka (by rw [hUs]; rfl) U1.out ?_
      intro wf h1 h2 h3
      have gz := hid (show w4.heap.size ≤ wa.heap.size from BA.out.size)
      have BB := hid ((then_ HW3.out (then_ HW4.out (then_ BA.out B9.out))).trans (h3 w.heap.size (by omega)))
      have YB := hid (show RteIn wf yy by
        have q := IY.out wf fun k hk1 hk2 => (h2 k (by have := s3.out; have := gw.out; omega)).trans (B9.out.block k hk2)
        rw [hyy]
        exact { q with })
      clear h2 h3 Ka LU K9 F5 F7 F8 FV3 FV4 FV5 hRe
      repeat' (first | go_skip | go_guarded | go_step | go_upon)
      (try simp only [Exit.inBlock, Exit.then])
      exact result_box2 (A := U) (fn := Try.f20) (t := 62) (b := w.heap.size + 2) rfl rfl ag62 (SZ hUs) h1 rfl (by rw [HPO.out, R2.out]; exact ⟨yy, by rw [UV.out]; rfl, LI.out, YB.out, BB.out⟩)
end Go.Proofs.Ytlhbfpapmolohaa.Mw
