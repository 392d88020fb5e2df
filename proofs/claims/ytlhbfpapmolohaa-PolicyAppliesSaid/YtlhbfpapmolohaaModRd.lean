/-
  THE CONTRACT OF netverifyref8.distance.
-/
import Derived.Test.YtlhbfpapmolohaaModRr
import Derived.Test.YtlhbfpapmolohaaModSm
namespace Go.Proofs.Ytlhbfpapmolohaa.Mw
set_option linter.unusedSimpArgs false
set_option linter.unusedVariables false
open Go.RowKit Kt Mm Mp

def zeroDV : Array Value := #[.bool false, .int .i64 0, .string ⟨#[]⟩, .string ⟨#[]⟩, .slice none 0 0]
theorem dvT_eq : mkT 4 1 15 = dvT := rfl

set_option maxHeartbeats 16000000 in
set_option maxRecDepth 4000 in
theorem rDist (r : Rtr) (w : World) (hr : RtrIn w r) :
    Calls Try.prog 54 #[.agg (eRtr r).toArray] w fun e w' => e = .returned (.int .i64 (dvE r)) ∧ Below w.heap.size w w' := by
  have hWi := fun (p q t : Int) wx => rWithin p q t wx
  obtain ⟨X, hX⟩ : ∃ X, X = (eRtr r).toArray := ⟨_, rfl⟩
  obtain ⟨w1, hw1⟩ : ∃ w1, w.alloc (.cells X 55) = w1 := ⟨_, rfl⟩
  have hhX : w1.heap[w.heap.size]? = some (.cells X 55 (0, 0)) := by rw [← hw1, heap_new]
  have KX : ∀ v : World, Below w1.heap.size w1 v → v.heap[w.heap.size]? = some (.cells X 55 (0, 0)) := fun v h => blk_keep hhX h
  have GX : Below w1.heap.size w1 w1 := Below.refl _ _
  have HX := hid (show Below w.heap.size w w1 by rw [← hw1]; exact new_below _ _)
  have hX' := hid hX
  try rw [← hX]
  clear hX hhX
  have hLi := fun wx (s : ByteArray) (h : Below w1.heap.size w1 wx) => rkPList X r.vLists r.lists s wx (by rw [hX'.out]; rfl) (hr.keep (then_ HX.out h)).lists.row hr.lists.len
  have hRe := fun wx (h : Below w1.heap.size w1 wx) => rReds r r.vDvr r.dvr 4 1 15 wx (hr.keep (then_ HX.out h)) (hr.keep (then_ HX.out h)).dvr
  rw [← hX'.out, dvT_eq] at hRe
  have hXs : X.size = 25 := by rw [hX'.out]; rfl
  obtain ⟨a, cap, hv, hcap, hcell⟩ := rows_open (z := 5) (by decide) hr.dvr.row
  obtain ⟨n, hn⟩ : ∃ n, n = r.dvr.length := ⟨_, rfl⟩
  have hl := hr.dvr.len
  rw [← hn] at hl hcap hv
  obtain ⟨Y, hY⟩ : ∃ Y, Y = (eDV r).toArray := ⟨_, rfl⟩
  have hYs : Y.size = 5 := by rw [hY]; rfl
  have hY1 := hid (show Y.all (·.oneCell') = true by rw [hY]; simp [eDV, one_str, one_int, one_bool, row_one hr.dvr.row])
  obtain ⟨on, hon⟩ : ∃ q, q = r.dvOn := ⟨_, rfl⟩
  have y0 : Y[0]? = some (.bool on) := by rw [hY, hon]; rfl
  have y1 : Y[1]? = some (.int .i64 r.dvAdmin) := by rw [hY]; rfl
  have y2 : Y[2]? = some (.string r.dvIn) := by rw [hY]; rfl
  have y3 : Y[3]? = some (.string r.dvOut) := by rw [hY]; rfl
  have y4 : Y[4]? = some (.slice a n cap) := by rw [hY, ← hv]; rfl
  rw [hv] at hRe
  have d1 := fun wx => hWi r.dvAdmin 1 255 wx
  have dI := fun wx (h : Below w1.heap.size w1 wx) => hLi wx r.dvIn h
  have dO := fun wx (h : Below w1.heap.size w1 wx) => hLi wx r.dvOut h
  obtain ⟨a1, ha1⟩ : ∃ q, q = wi r.dvAdmin 1 255 := ⟨_, rfl⟩
  obtain ⟨qi, hqi⟩ : ∃ q, q = liIx r.lists r.dvIn := ⟨_, rfl⟩
  obtain ⟨qo, hqo⟩ : ∃ q, q = liIx r.lists r.dvOut := ⟨_, rfl⟩
  obtain ⟨er, her⟩ : ∃ q, q = redsE r.maps dvT r.dvr := ⟨_, rfl⟩
  have hqi2 : ixB (fun y : PList => y.name.toList == r.dvIn.toList) r.lists = qi := hqi.symm
  have hqo2 : ixB (fun y : PList => y.name.toList == r.dvOut.toList) r.lists = qo := hqo.symm
  rw [← ha1] at d1
  rw [hqi2] at dI
  rw [hqo2] at dO
  rw [← her] at hRe
  have FE := hid (show dvE r = if !on then (if !decide (r.dvAdmin = 0) || !noS r.dvIn || !noS r.dvOut || decide (0 < n) then 1 else 0) else if !a1 then 1 else if unk r.dvIn qi || unk r.dvOut qo then 5 else er by rw [hon, hn, ha1, hqi, hqo, her]; rfl)
  clear hr hn hv hcell hon ha1 hqi hqo hqi2 hqo2 her hLi hWi
  obtain ⟨P, hP⟩ : ∃ P, P = Try.prog := ⟨_, rfl⟩
  have HP := hid hP
  have mixed : P.follows .mixedOrders = true := by rw [hP]; kernel_rfl
  have FG : P.funcs[54]? = some Try.f54 := by rw [hP]; exact Try.func54
  obtain ⟨zRouter, hzRouter⟩ : ∃ z, z = 25 := ⟨_, rfl⟩
  have nzRouter : ¬ zRouter = 0 := by omega
  obtain ⟨zDistanceVector, hzDistanceVector⟩ : ∃ z, z = 5 := ⟨_, rfl⟩
  have nzDistanceVector : ¬ zDistanceVector = 0 := by omega
  have ty3 := Try.underlying3; have ag3 := Try.isAgg3; have sz3 := Try.sizeOf3; have ru3 := Try.runUnderlying3
  have ty4 := Try.underlying4; have ag4 := Try.isAgg4; have sz4 := Try.sizeOf4; have ru4 := Try.runUnderlying4
  have ty9 := Try.underlying9; have ag9 := Try.isAgg9; have sz9 := Try.sizeOf9; have ru9 := Try.runUnderlying9
  have ty43 := Try.underlying43; have ag43 := Try.isAgg43; have sz43 := Try.sizeOf43; have ru43 := Try.runUnderlying43
  have ty47 := Try.underlying47; have ag47 := Try.isAgg47; have sz47 := Try.sizeOf47; have ru47 := Try.runUnderlying47
  rw [← hzDistanceVector] at sz47
  have zeDistanceVector := Try.zeroValue47
  have ty55 := Try.underlying55; have ag55 := Try.isAgg55; have sz55 := Try.sizeOf55; have ru55 := Try.runUnderlying55
  rw [← hzRouter] at sz55
  have en0 : ∀ args w, (callFunc 35 args).run Try.prog w = .ok (.enter 35 args) w := enters_of Try.func35 (by kernel_rfl) rfl
  have en1 : ∀ args w, (callFunc 68 args).run Try.prog w = .ok (.enter 68 args) w := enters_of Try.func68 (by kernel_rfl) rfl
  have en2 : ∀ args w, (callFunc 45 args).run Try.prog w = .ok (.enter 45 args) w := enters_of Try.func45 (by kernel_rfl) rfl
  rw [← hP] at ty3 ag3 sz3 ru3 ty4 ag4 sz4 ru4 ty9 ag9 sz9 ru9 ty43 ag43 sz43 ru43 ty47 ag47 sz47 ru47 zeDistanceVector ty55 ag55 sz55 ru55 en0 en1 en2 d1 dI dO hRe ⊢
  clear hP
  have LX : ∀ v : World, Below w1.heap.size w1 v → Sem.run P (loadCellsFrom ⟨w.heap.size, 0, none⟩ 0 zRouter #[]) v = .ok X v := fun v h => ld_box P (KX v h) (by rw [hzRouter]; exact hXs)
  have ZR := hid hzRouter
  have ZV := hid hzDistanceVector
  clear hzRouter hzDistanceVector
  have LV : Sem.run P (loadCellsFrom ⟨w.heap.size, 12, none⟩ 0 zDistanceVector #[]) w1 = .ok Y w1 := by
    rw [ZV.out, hY]; exact ld_part P (KX w1 GX) rfl (fun j u hj => by rw [hX'.out]; exact part_of (e := eDV) (x := r) (n := 5) rfl j u hj)
  clear KX hY
  go_enter FG, Try.ntmps54
  repeat' ((fail_if_success (with_reducible show Hid _)); (first | ((with_reducible show Oper.wp _ ⟨_, .store 47 _ _, _, _, _, _⟩ _ _ _ _); refine stopF ?_) | go_skip | go_guarded | go_step | go_upon))
  refine hid ?_
  refine wp_store_box (w := w1.alloc (.cells zeroDV 47)) 47 _ _ (by rfl) (g := w1.heap.size) (cur := zeroDV) (X := Y) (by rfl) (by rfl) (by intro v; rw [hYs, ← ZV.out]; first | exact sz47 v | assumption) (heap_new _ _) (by rw [hYs]; rfl) hY1.out ?_
  intro w4 h1 h2 h3
  have HW4 := hid (show Below w1.heap.size w1 w4 from (al1 w1 _).trans (h3 _ (Nat.le_refl _)))
  have B4 : Below w1.heap.size w1 w4 := HW4.out
  have FY0 : ∀ v : World, Below w4.heap.size w4 v → v.cell? ⟨w1.heap.size, 0, none⟩ = some (.bool on) := fun v h => box_at (blk_keep h1 h) y0
  have FY1 : ∀ v : World, Below w4.heap.size w4 v → v.cell? ⟨w1.heap.size, 1, none⟩ = some (.int .i64 r.dvAdmin) := fun v h => box_at (blk_keep h1 h) y1
  have FY2 : ∀ v : World, Below w4.heap.size w4 v → v.cell? ⟨w1.heap.size, 2, none⟩ = some (.string r.dvIn) := fun v h => box_at (blk_keep h1 h) y2
  have FY3 : ∀ v : World, Below w4.heap.size w4 v → v.cell? ⟨w1.heap.size, 3, none⟩ = some (.string r.dvOut) := fun v h => box_at (blk_keep h1 h) y3
  have FY4 : ∀ v : World, Below w4.heap.size w4 v → v.cell? ⟨w1.heap.size, 4, none⟩ = some (.slice a n cap) := fun v h => box_at (blk_keep h1 h) y4
  have LX4 := fun (v : World) (h : Below w4.heap.size w4 v) => LX v (then_ HW4.out h)
  have G4 : Below w4.heap.size w4 w4 := Below.refl _ _
  have eI := fun wx (h : Below w4.heap.size w4 wx) => dI wx (then_ HW4.out h)
  have eO := fun wx (h : Below w4.heap.size w4 wx) => dO wx (then_ HW4.out h)
  have eR := fun wx (h : Below w4.heap.size w4 wx) => hRe wx (then_ HW4.out h)
  clear h1 h2 h3 LV LX hYs y0 y1 y2 y3 y4 dI dO hRe B4
  cases on
  case false =>
    by_cases h0 : r.dvAdmin = 0
    · have h0b : (r.dvAdmin != 0) = false := by simpa using h0
      have H0 := hid h0
      clear h0
      cases si : r.dvIn.toList.isEmpty with
      | false =>
        repeat' (first | (go_at_call 45; with_reducible refine (d1 _).mono ?_; rintro e w' ⟨rfl, rfl⟩; try dsimp only) | (go_at_call 35; with_reducible refine (eI _ (by assumption)).mono ?_; rintro e w' ⟨rfl, b⟩; have b' := then_ (w := w4) (by assumption) b; clear b; try dsimp only) | (go_at_call 35; with_reducible refine (eO _ (by assumption)).mono ?_; rintro e w' ⟨rfl, b⟩; have b' := then_ (w := w4) (by assumption) b; clear b; try dsimp only) | (go_at_call 68; with_reducible refine (eR _ (by assumption)).mono ?_; rintro e w' ⟨rfl, b⟩; have b' := then_ (w := w4) (by assumption) b; clear b; try dsimp only) | go_skip | go_guarded | go_step | go_upon)
        (try simp only [Exit.inBlock, Exit.then]); refine bodyPost_ret (results_tmp (by rfl) _ _ _) (by rfl) ?_
        exact ⟨ret_int (by rw [FE.out]; unfold noS; simp [H0.out, si]), then_ HX.out (then_ HW4.out (by assumption))⟩
      | true =>
        cases so : r.dvOut.toList.isEmpty with
        | false =>
          repeat' (first | (go_at_call 45; with_reducible refine (d1 _).mono ?_; rintro e w' ⟨rfl, rfl⟩; try dsimp only) | (go_at_call 35; with_reducible refine (eI _ (by assumption)).mono ?_; rintro e w' ⟨rfl, b⟩; have b' := then_ (w := w4) (by assumption) b; clear b; try dsimp only) | (go_at_call 35; with_reducible refine (eO _ (by assumption)).mono ?_; rintro e w' ⟨rfl, b⟩; have b' := then_ (w := w4) (by assumption) b; clear b; try dsimp only) | (go_at_call 68; with_reducible refine (eR _ (by assumption)).mono ?_; rintro e w' ⟨rfl, b⟩; have b' := then_ (w := w4) (by assumption) b; clear b; try dsimp only) | go_skip | go_guarded | go_step | go_upon)
          (try simp only [Exit.inBlock, Exit.then]); refine bodyPost_ret (results_tmp (by rfl) _ _ _) (by rfl) ?_
          exact ⟨ret_int (by rw [FE.out]; unfold noS; simp [H0.out, si, so]), then_ HX.out (then_ HW4.out (by assumption))⟩
        | true =>
          by_cases hn0 : 0 < n
          · have hn1 : (0 : Int) < (n : Int) := by omega
            repeat' (first | (go_at_call 45; with_reducible refine (d1 _).mono ?_; rintro e w' ⟨rfl, rfl⟩; try dsimp only) | (go_at_call 35; with_reducible refine (eI _ (by assumption)).mono ?_; rintro e w' ⟨rfl, b⟩; have b' := then_ (w := w4) (by assumption) b; clear b; try dsimp only) | (go_at_call 35; with_reducible refine (eO _ (by assumption)).mono ?_; rintro e w' ⟨rfl, b⟩; have b' := then_ (w := w4) (by assumption) b; clear b; try dsimp only) | (go_at_call 68; with_reducible refine (eR _ (by assumption)).mono ?_; rintro e w' ⟨rfl, b⟩; have b' := then_ (w := w4) (by assumption) b; clear b; try dsimp only) | go_skip | go_guarded | go_step | go_upon)
            (try simp only [Exit.inBlock, Exit.then]); refine bodyPost_ret (results_tmp (by rfl) _ _ _) (by rfl) ?_
            exact ⟨ret_int (by rw [FE.out]; unfold noS; simp [H0.out, si, so, hn0]), then_ HX.out (then_ HW4.out (by assumption))⟩
          · have hn1 : ¬ (0 : Int) < (n : Int) := by omega
            repeat' (first | (go_at_call 45; with_reducible refine (d1 _).mono ?_; rintro e w' ⟨rfl, rfl⟩; try dsimp only) | (go_at_call 35; with_reducible refine (eI _ (by assumption)).mono ?_; rintro e w' ⟨rfl, b⟩; have b' := then_ (w := w4) (by assumption) b; clear b; try dsimp only) | (go_at_call 35; with_reducible refine (eO _ (by assumption)).mono ?_; rintro e w' ⟨rfl, b⟩; have b' := then_ (w := w4) (by assumption) b; clear b; try dsimp only) | (go_at_call 68; with_reducible refine (eR _ (by assumption)).mono ?_; rintro e w' ⟨rfl, b⟩; have b' := then_ (w := w4) (by assumption) b; clear b; try dsimp only) | go_skip | go_guarded | go_step | go_upon)
            (try simp only [Exit.inBlock, Exit.then]); refine bodyPost_ret (results_tmp (by rfl) _ _ _) (by rfl) ?_
            exact ⟨ret_int (by rw [FE.out]; unfold noS; simp [H0.out, si, so]; omega), then_ HX.out (then_ HW4.out (by assumption))⟩
    · have h0b : (r.dvAdmin != 0) = true := by simpa using h0
      have H0 := hid h0
      clear h0
      repeat' (first | (go_at_call 45; with_reducible refine (d1 _).mono ?_; rintro e w' ⟨rfl, rfl⟩; try dsimp only) | (go_at_call 35; with_reducible refine (eI _ (by assumption)).mono ?_; rintro e w' ⟨rfl, b⟩; have b' := then_ (w := w4) (by assumption) b; clear b; try dsimp only) | (go_at_call 35; with_reducible refine (eO _ (by assumption)).mono ?_; rintro e w' ⟨rfl, b⟩; have b' := then_ (w := w4) (by assumption) b; clear b; try dsimp only) | (go_at_call 68; with_reducible refine (eR _ (by assumption)).mono ?_; rintro e w' ⟨rfl, b⟩; have b' := then_ (w := w4) (by assumption) b; clear b; try dsimp only) | go_skip | go_guarded | go_step | go_upon)
      (try simp only [Exit.inBlock, Exit.then]); refine bodyPost_ret (results_tmp (by rfl) _ _ _) (by rfl) ?_
      exact ⟨ret_int (by rw [FE.out]; unfold noS; simp [H0.out]), then_ HX.out (then_ HW4.out (by assumption))⟩
  cases a1
  case false =>
    repeat' (first | (go_at_call 45; with_reducible refine (d1 _).mono ?_; rintro e w' ⟨rfl, rfl⟩; try dsimp only) | (go_at_call 35; with_reducible refine (eI _ (by assumption)).mono ?_; rintro e w' ⟨rfl, b⟩; have b' := then_ (w := w4) (by assumption) b; clear b; try dsimp only) | (go_at_call 35; with_reducible refine (eO _ (by assumption)).mono ?_; rintro e w' ⟨rfl, b⟩; have b' := then_ (w := w4) (by assumption) b; clear b; try dsimp only) | (go_at_call 68; with_reducible refine (eR _ (by assumption)).mono ?_; rintro e w' ⟨rfl, b⟩; have b' := then_ (w := w4) (by assumption) b; clear b; try dsimp only) | go_skip | go_guarded | go_step | go_upon)
    (try simp only [Exit.inBlock, Exit.then]); refine bodyPost_ret (results_tmp (by rfl) _ _ _) (by rfl) ?_
    exact ⟨ret_int (by rw [FE.out]; simp), then_ HX.out (then_ HW4.out (by assumption))⟩
  cases si : r.dvIn.toList.isEmpty with
  | true =>
    cases so : r.dvOut.toList.isEmpty with
    | true =>
      repeat' (first | (go_at_call 45; with_reducible refine (d1 _).mono ?_; rintro e w' ⟨rfl, rfl⟩; try dsimp only) | (go_at_call 35; with_reducible refine (eI _ (by assumption)).mono ?_; rintro e w' ⟨rfl, b⟩; have b' := then_ (w := w4) (by assumption) b; clear b; try dsimp only) | (go_at_call 35; with_reducible refine (eO _ (by assumption)).mono ?_; rintro e w' ⟨rfl, b⟩; have b' := then_ (w := w4) (by assumption) b; clear b; try dsimp only) | (go_at_call 68; with_reducible refine (eR _ (by assumption)).mono ?_; rintro e w' ⟨rfl, b⟩; have b' := then_ (w := w4) (by assumption) b; clear b; try dsimp only) | go_skip | go_guarded | go_step | go_upon)
      (try simp only [Exit.inBlock, Exit.then]); refine bodyPost_ret (results_tmp (by rfl) _ _ _) (by rfl) ?_
      exact ⟨ret_int (by rw [FE.out]; unfold unk noS; simp [si, so]), then_ HX.out (then_ HW4.out (by assumption))⟩
    | false =>
      by_cases no : qo < 0
      · have To : decide (qo < 0) = true := decide_eq_true no
        repeat' (first | (go_at_call 45; with_reducible refine (d1 _).mono ?_; rintro e w' ⟨rfl, rfl⟩; try dsimp only) | (go_at_call 35; with_reducible refine (eI _ (by assumption)).mono ?_; rintro e w' ⟨rfl, b⟩; have b' := then_ (w := w4) (by assumption) b; clear b; try dsimp only) | (go_at_call 35; with_reducible refine (eO _ (by assumption)).mono ?_; rintro e w' ⟨rfl, b⟩; have b' := then_ (w := w4) (by assumption) b; clear b; try dsimp only) | (go_at_call 68; with_reducible refine (eR _ (by assumption)).mono ?_; rintro e w' ⟨rfl, b⟩; have b' := then_ (w := w4) (by assumption) b; clear b; try dsimp only) | go_skip | go_guarded | go_step | go_upon)
        (try simp only [Exit.inBlock, Exit.then]); refine bodyPost_ret (results_tmp (by rfl) _ _ _) (by rfl) ?_
        exact ⟨ret_int (by rw [FE.out]; unfold unk noS; simp [so, no]), then_ HX.out (then_ HW4.out (by assumption))⟩
      · have To : decide (qo < 0) = false := decide_eq_false no
        repeat' (first | (go_at_call 45; with_reducible refine (d1 _).mono ?_; rintro e w' ⟨rfl, rfl⟩; try dsimp only) | (go_at_call 35; with_reducible refine (eI _ (by assumption)).mono ?_; rintro e w' ⟨rfl, b⟩; have b' := then_ (w := w4) (by assumption) b; clear b; try dsimp only) | (go_at_call 35; with_reducible refine (eO _ (by assumption)).mono ?_; rintro e w' ⟨rfl, b⟩; have b' := then_ (w := w4) (by assumption) b; clear b; try dsimp only) | (go_at_call 68; with_reducible refine (eR _ (by assumption)).mono ?_; rintro e w' ⟨rfl, b⟩; have b' := then_ (w := w4) (by assumption) b; clear b; try dsimp only) | go_skip | go_guarded | go_step | go_upon)
        (try simp only [Exit.inBlock, Exit.then]); refine bodyPost_ret (results_tmp (by rfl) _ _ _) (by rfl) ?_
        exact ⟨ret_int (by rw [FE.out]; unfold unk noS; simp [si, so, no]), then_ HX.out (then_ HW4.out (by assumption))⟩
  | false =>
    by_cases ni : qi < 0
    · have Ti : decide (qi < 0) = true := decide_eq_true ni
      repeat' (first | (go_at_call 45; with_reducible refine (d1 _).mono ?_; rintro e w' ⟨rfl, rfl⟩; try dsimp only) | (go_at_call 35; with_reducible refine (eI _ (by assumption)).mono ?_; rintro e w' ⟨rfl, b⟩; have b' := then_ (w := w4) (by assumption) b; clear b; try dsimp only) | (go_at_call 35; with_reducible refine (eO _ (by assumption)).mono ?_; rintro e w' ⟨rfl, b⟩; have b' := then_ (w := w4) (by assumption) b; clear b; try dsimp only) | (go_at_call 68; with_reducible refine (eR _ (by assumption)).mono ?_; rintro e w' ⟨rfl, b⟩; have b' := then_ (w := w4) (by assumption) b; clear b; try dsimp only) | go_skip | go_guarded | go_step | go_upon)
      (try simp only [Exit.inBlock, Exit.then]); refine bodyPost_ret (results_tmp (by rfl) _ _ _) (by rfl) ?_
      exact ⟨ret_int (by rw [FE.out]; unfold unk noS; simp [si, ni]), then_ HX.out (then_ HW4.out (by assumption))⟩
    · have Ti : decide (qi < 0) = false := decide_eq_false ni
      cases so : r.dvOut.toList.isEmpty with
      | true =>
        repeat' (first | (go_at_call 45; with_reducible refine (d1 _).mono ?_; rintro e w' ⟨rfl, rfl⟩; try dsimp only) | (go_at_call 35; with_reducible refine (eI _ (by assumption)).mono ?_; rintro e w' ⟨rfl, b⟩; have b' := then_ (w := w4) (by assumption) b; clear b; try dsimp only) | (go_at_call 35; with_reducible refine (eO _ (by assumption)).mono ?_; rintro e w' ⟨rfl, b⟩; have b' := then_ (w := w4) (by assumption) b; clear b; try dsimp only) | (go_at_call 68; with_reducible refine (eR _ (by assumption)).mono ?_; rintro e w' ⟨rfl, b⟩; have b' := then_ (w := w4) (by assumption) b; clear b; try dsimp only) | go_skip | go_guarded | go_step | go_upon)
        (try simp only [Exit.inBlock, Exit.then]); refine bodyPost_ret (results_tmp (by rfl) _ _ _) (by rfl) ?_
        exact ⟨ret_int (by rw [FE.out]; unfold unk noS; simp [si, ni, so]), then_ HX.out (then_ HW4.out (by assumption))⟩
      | false =>
        by_cases no : qo < 0
        · have To : decide (qo < 0) = true := decide_eq_true no
          repeat' (first | (go_at_call 45; with_reducible refine (d1 _).mono ?_; rintro e w' ⟨rfl, rfl⟩; try dsimp only) | (go_at_call 35; with_reducible refine (eI _ (by assumption)).mono ?_; rintro e w' ⟨rfl, b⟩; have b' := then_ (w := w4) (by assumption) b; clear b; try dsimp only) | (go_at_call 35; with_reducible refine (eO _ (by assumption)).mono ?_; rintro e w' ⟨rfl, b⟩; have b' := then_ (w := w4) (by assumption) b; clear b; try dsimp only) | (go_at_call 68; with_reducible refine (eR _ (by assumption)).mono ?_; rintro e w' ⟨rfl, b⟩; have b' := then_ (w := w4) (by assumption) b; clear b; try dsimp only) | go_skip | go_guarded | go_step | go_upon)
          (try simp only [Exit.inBlock, Exit.then]); refine bodyPost_ret (results_tmp (by rfl) _ _ _) (by rfl) ?_
          exact ⟨ret_int (by rw [FE.out]; unfold unk noS; simp [so, no]), then_ HX.out (then_ HW4.out (by assumption))⟩
        · have To : decide (qo < 0) = false := decide_eq_false no
          repeat' (first | (go_at_call 45; with_reducible refine (d1 _).mono ?_; rintro e w' ⟨rfl, rfl⟩; try dsimp only) | (go_at_call 35; with_reducible refine (eI _ (by assumption)).mono ?_; rintro e w' ⟨rfl, b⟩; have b' := then_ (w := w4) (by assumption) b; clear b; try dsimp only) | (go_at_call 35; with_reducible refine (eO _ (by assumption)).mono ?_; rintro e w' ⟨rfl, b⟩; have b' := then_ (w := w4) (by assumption) b; clear b; try dsimp only) | (go_at_call 68; with_reducible refine (eR _ (by assumption)).mono ?_; rintro e w' ⟨rfl, b⟩; have b' := then_ (w := w4) (by assumption) b; clear b; try dsimp only) | go_skip | go_guarded | go_step | go_upon)
          (try simp only [Exit.inBlock, Exit.then]); refine bodyPost_ret (results_tmp (by rfl) _ _ _) (by rfl) ?_
          exact ⟨ret_int (by rw [FE.out]; unfold unk noS; simp [si, ni, so, no]), then_ HX.out (then_ HW4.out (by assumption))⟩
end Go.Proofs.Ytlhbfpapmolohaa.Mw
