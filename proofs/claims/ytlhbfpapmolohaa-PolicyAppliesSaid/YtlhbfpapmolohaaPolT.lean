/-
  THE CONTRACTS OF netverifylaw6.part AND few.
-/
import Derived.Test.YtlhbfpapmolohaaPolS
import Derived.Test.YtlhbfpapmolohaaModRc
namespace Go.Proofs.Ytlhbfpapmolohaa.Mw
set_option linter.unusedSimpArgs false
set_option linter.unusedVariables false
open Go.RowKit Kt Mm Mp Am

/-- A router that has only the lists and maps of r. -/
def partR (r : Rtr) : Rtr :=
  { name := bs [114], asn := 0
    vIfs := noS', ifs := [], vLists := r.vLists, lists := r.lists, vMaps := r.vMaps, maps := r.maps
    vAcls := noS', acls := [], vNat := noS', nat := [], vSts := noS', sts := []
    lsOn := false, lsAdmin := 0, vRngs := noS', rngs := [], vLsr := noS', lsr := []
    dvOn := false, dvAdmin := 0, dvIn := bs [], dvOut := bs [], vDvr := noS', dvr := []
    pvOn := false, ext := 0, intl := 0, vNbrs := noS', nbrs := [], vNets := noS', nets := []
    vAggs := noS', aggs := [], vCnds := noS', cnds := [], vPvr := noS', pvr := [] }
theorem part_in {w : World} {r : Rtr} (h : RtrIn w r) : RtrIn w (partR r) where
  name := by show (1 : Nat) ≤ maxLen; decide
  ifs := noS_in
  ifsN := by intro x hx; cases hx
  ifsA := by intro x hx; cases hx
  lists := h.lists
  listsN := h.listsN
  listsR := h.listsR
  listsA := h.listsA
  maps := h.maps
  mapsN := h.mapsN
  mapsR := h.mapsR
  acls := noS_in
  aclsN := by intro x hx; cases hx
  aclsR := by intro x hx; cases hx
  aclsA := by intro x hx; cases hx
  nat := noS_in
  natA := by intro x hx; cases hx
  sts := noS_in
  stsA := by intro x hx; cases hx
  rngs := noS_in
  rngsA := by intro x hx; cases hx
  lsr := noS_in
  dvr := noS_in
  nbrs := noS_in
  nbrsA := by intro x hx; cases hx
  nets := noS_in
  netsA := by intro x hx; cases hx
  aggs := noS_in
  aggsA := by intro x hx; cases hx
  cnds := noS_in
  cndsA := by intro x hx; cases hx
  pvr := noS_in
theorem part_lens (r : Rtr) : PvLens (partR r) := by unfold PvLens partR; simp

set_option maxHeartbeats 8000000 in
theorem partC (r : Rtr) (w : World) (hr : RtrIn w r) :
    Calls Try.prog 17 #[.agg (eRtr r).toArray] w fun e w' => e = .returned (.agg (eRtr (partR r)).toArray) ∧ Below w.heap.size w w' := by
  obtain ⟨X, hX⟩ : ∃ X, X = (eRtr r).toArray := ⟨_, rfl⟩
  obtain ⟨w1, hw1⟩ : ∃ w1, w.alloc (.cells X 55) = w1 := ⟨_, rfl⟩
  have hhX : w1.heap[w.heap.size]? = some (.cells X 55 (0, 0)) := by rw [← hw1, heap_new]
  have FX3 : ∀ v : World, Below w1.heap.size w1 v → v.cell? ⟨w.heap.size, 3, none⟩ = some (r.vLists) := fun v h => box_at (blk_keep hhX h) (by rw [hX]; rfl)
  have FX4 : ∀ v : World, Below w1.heap.size w1 v → v.cell? ⟨w.heap.size, 4, none⟩ = some (r.vMaps) := fun v h => box_at (blk_keep hhX h) (by rw [hX]; rfl)
  have KX : ∀ v : World, Below w1.heap.size w1 v → v.heap[w.heap.size]? = some (.cells X 55 (0, 0)) := fun v h => blk_keep hhX h
  have GX : Below w1.heap.size w1 w1 := Below.refl _ _
  have HX := hid (show Below w.heap.size w w1 by rw [← hw1]; exact new_below _ _)
  have hX' := hid hX
  try rw [← hX]
  clear hX hhX
  obtain ⟨w2, hw2⟩ : ∃ w2, w1.alloc (.cells #[.string ⟨#[]⟩, .int .i64 0, .slice none 0 0, .slice none 0 0, .slice none 0 0, .slice none 0 0, .slice none 0 0, .slice none 0 0, .bool false, .int .i64 0, .slice none 0 0, .slice none 0 0, .bool false, .int .i64 0, .string ⟨#[]⟩, .string ⟨#[]⟩, .slice none 0 0, .bool false, .int .i64 0, .int .i64 0, .slice none 0 0, .slice none 0 0, .slice none 0 0, .slice none 0 0, .slice none 0 0] 55) = w2 := ⟨_, rfl⟩
  have hh2 : w2.heap[w1.heap.size]? = some (.cells zeroR 55 (0, 0)) := by rw [← hw2]; exact heap_new _ _
  have H2 := hid (show Below w1.heap.size w1 w2 by rw [← hw2]; exact new_below _ _)
  have s1 : w1.heap.size = w.heap.size + 1 := by rw [← hw1, new_size]
  have f3 := FX3 w2 H2.out
  have f4 := FX4 w2 H2.out
  have O1 := hid (eRtr_one (part_in hr))
  obtain ⟨aL, cL, hvL', -, -⟩ := rows_open (z := 2) (by decide) hr.lists.row
  obtain ⟨aM, cM, hvM', -, -⟩ := rows_open (z := 2) (by decide) hr.maps.row
  obtain ⟨nL, hnL⟩ : ∃ n, n = r.lists.length := ⟨_, rfl⟩
  obtain ⟨nM, hnM⟩ : ∃ n, n = r.maps.length := ⟨_, rfl⟩
  rw [← hnL] at hvL'
  rw [← hnM] at hvM'
  have hvL := hvL'.symm
  have hvM := hvM'.symm
  obtain ⟨Y, hY⟩ : ∃ Y, Y = (eRtr (partR r)).toArray := ⟨_, rfl⟩
  have YE := hid (show Y = #[.string (bs [114]), .int .i64 0, .slice none 0 0, .slice aL nL cL, .slice aM nM cM, .slice none 0 0, .slice none 0 0, .slice none 0 0, .bool false, .int .i64 0, .slice none 0 0, .slice none 0 0, .bool false, .int .i64 0, .string (bs []), .string (bs []), .slice none 0 0, .bool false, .int .i64 0, .int .i64 0, .slice none 0 0, .slice none 0 0, .slice none 0 0, .slice none 0 0, .slice none 0 0] by rw [hY, hvL, hvM]; rfl)
  rw [← hY] at O1 ⊢
  rw [← hvL] at f3
  rw [← hvM] at f4
  clear FX3 FX4 KX hY hvL hvM hr hvL' hvM' hnL hnM
  obtain ⟨P, hP⟩ : ∃ P, P = Try.prog := ⟨_, rfl⟩
  have HP := hid hP
  have mixed : P.follows .mixedOrders = true := by rw [hP]; kernel_rfl
  have FG : P.funcs[17]? = some Try.f17 := by rw [hP]; exact Try.func17
  obtain ⟨zRouter, hzRouter⟩ : ∃ z, z = 25 := ⟨_, rfl⟩
  have nzRouter : ¬ zRouter = 0 := by omega
  have ty37 := Try.underlying37; have ag37 := Try.isAgg37; have sz37 := Try.sizeOf37; have ru37 := Try.runUnderlying37
  have ty38 := Try.underlying38; have ag38 := Try.isAgg38; have sz38 := Try.sizeOf38; have ru38 := Try.runUnderlying38
  have ty55 := Try.underlying55; have ag55 := Try.isAgg55; have sz55 := Try.sizeOf55; have ru55 := Try.runUnderlying55
  rw [← hzRouter] at sz55
  have zeRouter := Try.zeroValue55
  rw [← hP] at ty37 ag37 sz37 ru37 ty38 ag38 sz38 ru38 ty55 ag55 sz55 ru55 zeRouter ⊢
  clear hP
  have zz0 : ∀ v, (sizeOf 9).run P v = .ok 1 v := fun v => by rw [HP.out]; exact Try.sizeOf9 v
  have zz1 : ∀ v, (sizeOf 3).run P v = .ok 1 v := fun v => by rw [HP.out]; exact Try.sizeOf3 v
  have zz2 : ∀ v, (sizeOf 36).run P v = .ok 1 v := fun v => by rw [HP.out]; exact Try.sizeOf36 v
  have zz3 : ∀ v, (sizeOf 37).run P v = .ok 1 v := fun v => by rw [HP.out]; exact Try.sizeOf37 v
  have zz4 : ∀ v, (sizeOf 38).run P v = .ok 1 v := fun v => by rw [HP.out]; exact Try.sizeOf38 v
  have zz5 : ∀ v, (sizeOf 39).run P v = .ok 1 v := fun v => by rw [HP.out]; exact Try.sizeOf39 v
  have zz6 : ∀ v, (sizeOf 40).run P v = .ok 1 v := fun v => by rw [HP.out]; exact Try.sizeOf40 v
  have zz7 : ∀ v, (sizeOf 41).run P v = .ok 1 v := fun v => by rw [HP.out]; exact Try.sizeOf41 v
  have zz8 : ∀ v, (sizeOf 45).run P v = .ok 4 v := fun v => by rw [HP.out]; exact Try.sizeOf45 v
  have zz9 : ∀ v, (sizeOf 47).run P v = .ok 5 v := fun v => by rw [HP.out]; exact Try.sizeOf47 v
  have zz10 : ∀ v, (sizeOf 53).run P v = .ok 8 v := fun v => by rw [HP.out]; exact Try.sizeOf53 v
  have ZR := hid hzRouter
  clear hzRouter
  go_enter FG, Try.ntmps17
  repeat' ((fail_if_success (with_reducible show Hid _)); (first | ((with_reducible show Oper.wp _ ⟨_, .store 55 _ _, _, _, _, _⟩ _ _ _ _); refine stopP ?_) | go_skip | go_guarded | go_step | go_upon))
  refine hid ?_
  have hYs : Y.size = 25 := by rw [YE.out]; rfl
  have SZ : ∀ v, (sizeOf 55).run P v = .ok Y.size v := fun v => by rw [hYs, ← ZR.out]; exact sz55 v
  refine wp_store_box (w := w2) 55 _ _ (by rfl) (g := w.heap.size + 1) (cur := zeroR) (X := Y) (by rfl) (by rw [YE.out]; rfl) SZ (by rw [← s1]; exact hh2) (by rw [hYs]; rfl) O1.out ?_
  intro w4 h1 h2 h3
  have HF := hid ((then_ HX.out H2.out).trans (h3 w.heap.size (by omega)))
  clear h2 h3 hh2
  repeat' (first | go_skip | go_guarded | go_step | go_upon)
  (try simp only [Exit.inBlock, Exit.then])
  exact result_box (A := Y) (fn := Try.f17) (t := 55) (b := w.heap.size + 1) rfl rfl ag55 SZ h1 rfl ⟨rfl, HF.out⟩

set_option maxHeartbeats 8000000 in
theorem fewC (r : Rtr) (w : World) (hr : RtrIn w r) :
    Calls Try.prog 16 #[.agg (eRtr r).toArray] w fun e w' => (∃ b, e = .returned (.bool b) ∧ (b = true → rtrE (partR r) = 0)) ∧ Below w.heap.size w w' := by
  obtain ⟨X, hX⟩ : ∃ X, X = (eRtr r).toArray := ⟨_, rfl⟩
  obtain ⟨w1, hw1⟩ : ∃ w1, w.alloc (.cells X 55) = w1 := ⟨_, rfl⟩
  have hhX : w1.heap[w.heap.size]? = some (.cells X 55 (0, 0)) := by rw [← hw1, heap_new]
  have FX3 : ∀ v : World, Below w1.heap.size w1 v → v.cell? ⟨w.heap.size, 3, none⟩ = some (r.vLists) := fun v h => box_at (blk_keep hhX h) (by rw [hX]; rfl)
  have FX4 : ∀ v : World, Below w1.heap.size w1 v → v.cell? ⟨w.heap.size, 4, none⟩ = some (r.vMaps) := fun v h => box_at (blk_keep hhX h) (by rw [hX]; rfl)
  have KX : ∀ v : World, Below w1.heap.size w1 v → v.heap[w.heap.size]? = some (.cells X 55 (0, 0)) := fun v h => blk_keep hhX h
  have GX : Below w1.heap.size w1 w1 := Below.refl _ _
  have HX := hid (show Below w.heap.size w w1 by rw [← hw1]; exact new_below _ _)
  have hX' := hid hX
  try rw [← hX]
  clear hX hhX
  have HR := hid (hr.keep HX.out)
  have hC := fun wx (h : Below w1.heap.size w1 wx) => rCheck (partR r) wx (part_in (HR.out.keep h)) (part_lens r)
  obtain ⟨e, he⟩ : ∃ e, e = rtrE (partR r) := ⟨_, rfl⟩
  rw [← he] at hC ⊢
  have O1 := hid (eRtr_one (part_in hr))
  obtain ⟨aL, capL, hvL, hcapL, hcL⟩ := rows_open (z := 2) (by decide) HR.out.lists.row
  obtain ⟨l, hl⟩ : ∃ l, l = r.lists := ⟨_, rfl⟩
  have RL := hid (fun x (h : x ∈ r.lists) => HR.out.listsR x h)
  have lenL := HR.out.lists.len
  obtain ⟨aM, capM, hvM, hcapM, hcM⟩ := rows_open (z := 2) (by decide) HR.out.maps.row
  obtain ⟨m, hm⟩ : ∃ l, l = r.maps := ⟨_, rfl⟩
  have RM := hid (fun x (h : x ∈ r.maps) => HR.out.mapsR x h)
  have lenM := HR.out.maps.len
  rw [← hl] at hvL hcapL hcL RL lenL
  rw [← hm] at hvM hcapM hcM RM lenM
  obtain ⟨n, hn⟩ : ∃ n, n = l.length := ⟨_, rfl⟩
  obtain ⟨k, hk⟩ : ∃ n, n = m.length := ⟨_, rfl⟩
  rw [← hn] at hvL hcapL hcL lenL
  rw [← hk] at hvM hcapM hcM lenM
  rw [hvL] at FX3
  rw [hvM] at FX4
  obtain ⟨Y, hY⟩ : ∃ Y, Y = (eRtr (partR r)).toArray := ⟨_, rfl⟩
  have YE := hid (show Y = #[.string (bs [114]), .int .i64 0, .slice none 0 0, .slice aL n capL, .slice aM k capM, .slice none 0 0, .slice none 0 0, .slice none 0 0, .bool false, .int .i64 0, .slice none 0 0, .slice none 0 0, .bool false, .int .i64 0, .string (bs []), .string (bs []), .slice none 0 0, .bool false, .int .i64 0, .int .i64 0, .slice none 0 0, .slice none 0 0, .slice none 0 0, .slice none 0 0, .slice none 0 0] by rw [hY, ← hvL, ← hvM]; rfl)
  rw [← hY] at O1 hC
  have N := hid hn
  have M := hid hk
  have HL := hid hcL
  have HM := hid hcM
  clear hcL hcM hn hk hl hm hvL hvM hY he hr KX
  obtain ⟨P, hP⟩ : ∃ P, P = Try.prog := ⟨_, rfl⟩
  have HP := hid hP
  have mixed : P.follows .mixedOrders = true := by rw [hP]; kernel_rfl
  have FG : P.funcs[16]? = some Try.f16 := by rw [hP]; exact Try.func16
  obtain ⟨zRouter, hzRouter⟩ : ∃ z, z = 25 := ⟨_, rfl⟩
  have nzRouter : ¬ zRouter = 0 := by omega
  obtain ⟨zPrefixList, hzPrefixList⟩ : ∃ z, z = 2 := ⟨_, rfl⟩
  have nzPrefixList : ¬ zPrefixList = 0 := by omega
  obtain ⟨zRouteMap, hzRouteMap⟩ : ∃ z, z = 2 := ⟨_, rfl⟩
  have nzRouteMap : ¬ zRouteMap = 0 := by omega
  have ty3 := Try.underlying3; have ag3 := Try.isAgg3; have sz3 := Try.sizeOf3; have ru3 := Try.runUnderlying3
  have ty22 := Try.underlying22; have ag22 := Try.isAgg22; have sz22 := Try.sizeOf22; have ru22 := Try.runUnderlying22
  have ty24 := Try.underlying24; have ag24 := Try.isAgg24; have sz24 := Try.sizeOf24; have ru24 := Try.runUnderlying24
  rw [← hzPrefixList] at sz24
  have ty37 := Try.underlying37; have ag37 := Try.isAgg37; have sz37 := Try.sizeOf37; have ru37 := Try.runUnderlying37
  have ty38 := Try.underlying38; have ag38 := Try.isAgg38; have sz38 := Try.sizeOf38; have ru38 := Try.runUnderlying38
  have ty55 := Try.underlying55; have ag55 := Try.isAgg55; have sz55 := Try.sizeOf55; have ru55 := Try.runUnderlying55
  rw [← hzRouter] at sz55
  have zeRouter := Try.zeroValue55
  have ty63 := Try.underlying63; have ag63 := Try.isAgg63; have sz63 := Try.sizeOf63; have ru63 := Try.runUnderlying63
  have ty65 := Try.underlying65; have ag65 := Try.isAgg65; have sz65 := Try.sizeOf65; have ru65 := Try.runUnderlying65
  rw [← hzRouteMap] at sz65
  have ty81 := Try.underlying81; have ag81 := Try.isAgg81; have sz81 := Try.sizeOf81; have ru81 := Try.runUnderlying81
  have en0 : ∀ args w, (callFunc 33 args).run Try.prog w = .ok (.enter 33 args) w := enters_of Try.func33 (by kernel_rfl) rfl
  rw [← hP] at ty3 ag3 sz3 ru3 ty22 ag22 sz22 ru22 ty24 ag24 sz24 ru24 ty37 ag37 sz37 ru37 ty38 ag38 sz38 ru38 ty55 ag55 sz55 ru55 zeRouter ty63 ag63 sz63 ru63 ty65 ag65 sz65 ru65 ty81 ag81 sz81 ru81 en0 hC ⊢
  clear hP
  have zz0 : ∀ v, (sizeOf 9).run P v = .ok 1 v := fun v => by rw [HP.out]; exact Try.sizeOf9 v
  have zz1 : ∀ v, (sizeOf 3).run P v = .ok 1 v := fun v => by rw [HP.out]; exact Try.sizeOf3 v
  have zz2 : ∀ v, (sizeOf 36).run P v = .ok 1 v := fun v => by rw [HP.out]; exact Try.sizeOf36 v
  have zz3 : ∀ v, (sizeOf 37).run P v = .ok 1 v := fun v => by rw [HP.out]; exact Try.sizeOf37 v
  have zz4 : ∀ v, (sizeOf 38).run P v = .ok 1 v := fun v => by rw [HP.out]; exact Try.sizeOf38 v
  have zz5 : ∀ v, (sizeOf 39).run P v = .ok 1 v := fun v => by rw [HP.out]; exact Try.sizeOf39 v
  have zz6 : ∀ v, (sizeOf 40).run P v = .ok 1 v := fun v => by rw [HP.out]; exact Try.sizeOf40 v
  have zz7 : ∀ v, (sizeOf 41).run P v = .ok 1 v := fun v => by rw [HP.out]; exact Try.sizeOf41 v
  have zz8 : ∀ v, (sizeOf 45).run P v = .ok 4 v := fun v => by rw [HP.out]; exact Try.sizeOf45 v
  have zz9 : ∀ v, (sizeOf 47).run P v = .ok 5 v := fun v => by rw [HP.out]; exact Try.sizeOf47 v
  have zz10 : ∀ v, (sizeOf 53).run P v = .ok 8 v := fun v => by rw [HP.out]; exact Try.sizeOf53 v
  have ZR := hid hzRouter
  have ZL := hid hzPrefixList
  have ZM := hid hzRouteMap
  clear hzRouter hzPrefixList hzRouteMap
  have hYs : Y.size = 25 := by rw [YE.out]; rfl
  have SZ : ∀ v, (sizeOf 55).run P v = .ok Y.size v := fun v => by rw [hYs, ← ZR.out]; exact sz55 v
  by_cases h8 : 8 < n
  · have h8i : (8 : Int) < (n : Int) := by omega
    go_enter FG, Try.ntmps16
    repeat' (first | go_skip | go_big_skip | go_big_want | go_big_guard | go_step | go_upon)
    go_ret
    exact ⟨⟨_, rfl, fun h => by cases h⟩, HX.out⟩
  have h8i : ¬ (8 : Int) < (n : Int) := by omega
  by_cases k8 : 8 < k
  · have k8i : (8 : Int) < (k : Int) := by omega
    go_enter FG, Try.ntmps16
    repeat' (first | go_skip | go_big_skip | go_big_want | go_big_guard | go_step | go_upon)
    go_ret
    exact ⟨⟨_, rfl, fun h => by cases h⟩, HX.out⟩
  have k8i : ¬ (8 : Int) < (k : Int) := by omega
  go_enter FG, Try.ntmps16
  repeat' ((fail_if_success (with_reducible show Hid _)); (first | ((with_reducible show Oper.wp _ ⟨_, .store 55 _ _, _, _, _, _⟩ _ _ _ _); refine stopP ?_) | go_skip | go_big_skip | go_big_want | go_big_guard | go_step | go_upon))
  refine hid ?_
  refine wp_store_box (w := w1.alloc (.cells zeroR 55)) 55 _ _ (by rfl) (g := w1.heap.size) (cur := zeroR) (X := Y) (by rfl) (by rw [YE.out]; rfl) SZ (heap_new _ _) (by rw [hYs]; rfl) O1.out ?_
  intro w4 h1 h2 h3
  have HW4 := hid (show Below w1.heap.size w1 w4 from (al1 w1 _).trans (h3 _ (Nat.le_refl _)))
  have G4 : Below w4.heap.size w4 w4 := Below.refl _ _
  have LY : ∀ v : World, Below w4.heap.size w4 v → Sem.run P (loadCellsFrom ⟨w1.heap.size, 0, none⟩ 0 zRouter #[]) v = .ok Y v := fun v h => ld_box P (blk_keep h1 h) (by rw [ZR.out]; exact hYs)
  have F3 := fun (v : World) (h : Below w4.heap.size w4 v) => FX3 v (then_ HW4.out h)
  have F4 := fun (v : World) (h : Below w4.heap.size w4 v) => FX4 v (then_ HW4.out h)
  have hC := fun wx (h : Below w4.heap.size w4 wx) => hC wx (then_ HW4.out h)
  clear h1 h2 h3 FX3 FX4 h8 k8 h8i k8i
  repeat' (first | go_skip | go_guarded | go_step | go_upon)
  go_loopg [4] n (fun gg s4 wr => ∃ j : Nat, j ≤ n ∧ n - j ≤ gg ∧ s4 = .int .i64 j ∧ Below w4.heap.size w4 wr)
  case atStart => exact ⟨0, Nat.zero_le _, by omega, rfl, by assumption⟩
  case round =>
    obtain ⟨j, hj, hg, rfl, hwr⟩ := hrel
    have f := F3 wr hwr
    by_cases hlt : j < n
    · have hlti : (j : Int) < (n : Int) := by omega
      have hj0 : (0 : Int) ≤ (j : Int) := by omega
      obtain ⟨x, hx⟩ := get_some (l := l) (k := j) (by have := N.out; omega)
      have hm := get_mem hx
      obtain ⟨b, off, rfl, hb, hc⟩ := HL.out (by omega)
      obtain ⟨ax, cx, hvx, -, -⟩ := rows_open (z := 5) (by decide) (RL.out x hm).row
      obtain ⟨q, hq⟩ : ∃ q, q = x.rules.length := ⟨_, rfl⟩
      rw [← hq] at hvx
      have f1 : wr.cell? ⟨b, off + j * zPrefixList + 1, none⟩ = some (.slice ax q cx) := by
        rw [ZL.out, ← hvx]; exact ((then_ HW4.out hwr).cell (p := ⟨b, off + j * 2 + 1, none⟩) hb).trans (row_cells (f := ePList) (z := 2) (fun _ => rfl) hc hx 1 _ rfl)
      clear hx hc hvx hq
      by_cases hq : 16 < q
      · have hqi : (16 : Int) < (q : Int) := by omega
        repeat' (first | go_skip | go_guarded | go_step | go_upon)
        go_ret
        exact ⟨⟨_, rfl, fun h => by cases h⟩, then_ HX.out (then_ HW4.out hwr)⟩
      · have hqi : ¬ (16 : Int) < (q : Int) := by omega
        repeat' (first | go_skip | go_guarded | go_step | go_upon)
        go_roundg (n - (j + 1))
        case measure => omega
        case rel => exact ⟨j + 1, by omega, by omega, by go_num, hwr⟩
    · have hlti : ¬ (j : Int) < (n : Int) := by omega
      repeat' (first | go_skip | go_guarded | go_step | go_upon)
      have HWR := hid hwr
      clear hwr f
      have hwr2 := HWR.out
      go_loopg [5] k (fun gg s5 wr => ∃ j : Nat, j ≤ k ∧ k - j ≤ gg ∧ s5 = .int .i64 j ∧ Below w4.heap.size w4 wr)
      case atStart => exact ⟨0, Nat.zero_le _, by omega, rfl, by assumption⟩
      case round =>
        obtain ⟨j, hj, hg, rfl, hwr⟩ := hrel
        have f := F4 wr hwr
        by_cases hlt : j < k
        · have hlti : (j : Int) < (k : Int) := by omega
          have hj0 : (0 : Int) ≤ (j : Int) := by omega
          obtain ⟨x, hx⟩ := get_some (l := m) (k := j) (by have := M.out; omega)
          have hm := get_mem hx
          obtain ⟨b, off, rfl, hb, hc⟩ := HM.out (by omega)
          obtain ⟨ax, cx, hvx, -, -⟩ := rows_open (z := 7) (by decide) (RM.out x hm).row
          obtain ⟨q, hq⟩ : ∃ q, q = x.clauses.length := ⟨_, rfl⟩
          rw [← hq] at hvx
          have f1 : wr.cell? ⟨b, off + j * zRouteMap + 1, none⟩ = some (.slice ax q cx) := by
            rw [ZM.out, ← hvx]; exact ((then_ HW4.out hwr).cell (p := ⟨b, off + j * 2 + 1, none⟩) hb).trans (row_cells (f := eRMap) (z := 2) (fun _ => rfl) hc hx 1 _ rfl)
          clear hx hc hvx hq
          by_cases hq : 8 < q
          · have hqi : (8 : Int) < (q : Int) := by omega
            repeat' (first | go_skip | go_guarded | go_step | go_upon)
            go_ret
            exact ⟨⟨_, rfl, fun h => by cases h⟩, then_ HX.out (then_ HW4.out hwr)⟩
          · have hqi : ¬ (8 : Int) < (q : Int) := by omega
            repeat' (first | go_skip | go_guarded | go_step | go_upon)
            go_roundg (k - (j + 1))
            case measure => omega
            case rel => exact ⟨j + 1, by omega, by omega, by go_num, hwr⟩
        · have hlti : ¬ (j : Int) < (k : Int) := by omega
          repeat' (first | (go_at_call 33; with_reducible refine (hC _ (by assumption)).mono ?_; rintro e w' ⟨rfl, b⟩; have b' := then_ (w := w4) (by assumption) b; clear b; try dsimp only) | go_skip | go_guarded | go_step | go_upon)
          go_ret
          exact ⟨⟨_, rfl, fun h => by simpa using h⟩, then_ HX.out (then_ HW4.out (by assumption))⟩
end Go.Proofs.Ytlhbfpapmolohaa.Mw
