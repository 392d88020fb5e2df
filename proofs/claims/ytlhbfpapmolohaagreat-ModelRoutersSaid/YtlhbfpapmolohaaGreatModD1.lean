/-
  THE CONTRACTS OF model's CHECKS OF THE PROTOCOLS.
-/
import Derived.Test.YtlhbfpapmolohaaGreatModZc
import Derived.Test.YtlhbfpapmolohaaGreatQTail
import Derived.Test.YtlhbfpapmolohaaGreatModD0
namespace Go.Proofs.YtlhbfpapmolohaaGreat.Mw
set_option linter.unusedSimpArgs false
set_option linter.unusedVariables false
open Go.RowKit Kt Mm Mp

set_option maxHeartbeats 8000000 in
theorem chkDV (r : Rtr) (w : World) (hr : RtrIn w r) :
    Calls Tryz.prog 26 #[.agg (eRtr r).toArray] w fun e w' => e = .returned (.int .i64 (dvE r)) ∧ Below w.heap.size w w' := by
  obtain ⟨a4, c4, hv4⟩ := row_form hr.dvr
  obtain ⟨n4, hn4⟩ : ∃ n, n = r.dvr.length := ⟨_, rfl⟩
  rw [← hn4] at hv4
  have hWi := fun n a b wx => within n a b wx
  obtain ⟨L, hL⟩ : ∃ L, L = (eDV r).toArray := ⟨_, rfl⟩
  have hLone : L.all (·.oneCell') = true := by rw [hL]; simp [eDV, one_int, one_bool, one_str, row_one hr.dvr.row]
  have hLs : L.size = 5 := by rw [hL]; rfl
  obtain ⟨A, hA⟩ : ∃ A, A = (eRtr r).toArray := ⟨_, rfl⟩
  have hAs : A.size = 25 := by rw [hA]; rfl
  obtain ⟨w1, hw1⟩ : ∃ w1, w.alloc (.cells A 41) = w1 := ⟨_, rfl⟩
  have hh1 : w1.heap[w.heap.size]? = some (.cells A 41 (0, 0)) := by rw [← hw1, heap_new]
  obtain ⟨w2, hw2⟩ : ∃ w2, w1.alloc (.cells L 33) = w2 := ⟨_, rfl⟩
  have s1 : w1.heap.size = w.heap.size + 1 := by rw [← hw1, new_size]
  have hh2 : w2.heap[w.heap.size]? = some (.cells A 41 (0, 0)) := by rw [← hw2, Below.heap_alloc _ _ _ (by omega)]; exact hh1
  have hh3 : w2.heap[w.heap.size + 1]? = some (.cells L 33 (0, 0)) := by rw [← hw2, ← s1, heap_new]
  have L0 : ∀ v : World, Below w2.heap.size w2 v → v.cell? ⟨w.heap.size + 1, 0, none⟩ = some (.bool r.dvOn) := fun v h => box_at (blk_keep hh3 h) (by rw [hL]; rfl)
  have L1 : ∀ v : World, Below w2.heap.size w2 v → v.cell? ⟨w.heap.size + 1, 1, none⟩ = some (.int .i64 r.dvAdmin) := fun v h => box_at (blk_keep hh3 h) (by rw [hL]; rfl)
  have L2 : ∀ v : World, Below w2.heap.size w2 v → v.cell? ⟨w.heap.size + 1, 2, none⟩ = some (.string r.dvIn) := fun v h => box_at (blk_keep hh3 h) (by rw [hL]; rfl)
  have L3 : ∀ v : World, Below w2.heap.size w2 v → v.cell? ⟨w.heap.size + 1, 3, none⟩ = some (.string r.dvOut) := fun v h => box_at (blk_keep hh3 h) (by rw [hL]; rfl)
  have L4 : ∀ v : World, Below w2.heap.size w2 v → v.cell? ⟨w.heap.size + 1, 4, none⟩ = some (.slice a4 n4 c4) := fun v h => box_at (blk_keep hh3 h) (by rw [hL, ← hv4]; rfl)
  have A1 : ∀ v : World, Below w2.heap.size w2 v → v.cell? ⟨w.heap.size, 1, none⟩ = some (.int .i64 r.asn) := fun v h => box_at (blk_keep hh2 h) (by rw [hA]; rfl)
  have G2 : Below w2.heap.size w2 w2 := Below.refl _ _
  have H0 : Below w.heap.size w w1 := by rw [← hw1]; exact al1 _ _
  have H2 : Below w1.heap.size w1 w2 := by rw [← hw2]; exact al1 _ _
  have H := hid (then_ H0 H2)
  have hAL : ∀ j v, (eDV r)[j]? = some v → A[12 + j]? = some v := by
    intro j v hj
    rw [hA]
    match j, hj with
    | 0, hj => exact hj
    | 1, hj => exact hj
    | 2, hj => exact hj
    | 3, hj => exact hj
    | 4, hj => exact hj
    | (j + 5), hj => simp [eDV] at hj
  have hrow := hr.lists.row
  have hlen := hr.lists.len
  have hA3 : A[3]? = some r.vLists := by rw [hA]; rfl
  have hU := fun s wx (h : Below w2.heap.size w2 wx) => isUnk A s (liIx r.lists s) 72 (enters_of Tryz.func72 (by kernel_rfl) rfl) wx hAs (fun W hb => lkPList A r.vLists r.lists s W hA3 (rows_keep hrow (then_ (then_ H.out h) hb)) hlen)
  have hU1 := hU r.dvIn
  have hU2 := hU r.dvOut
  have hD := fun wx (h : Below w2.heap.size w2 wx) => chkReds r dvT (.slice a4 n4 c4) r.dvr wx (hr.keep (then_ H.out h)) (by rw [← hv4]; exact hr.dvr.keep (then_ H.out h))
  have hOr := hid (show dvE r = if !r.dvOn then (if !decide (r.dvAdmin = 0) || !noS r.dvIn || !noS r.dvOut || decide (0 < r.dvr.length) then 1 else 0) else if !wi r.dvAdmin 1 255 then 1 else if unk r.dvIn (liIx r.lists r.dvIn) || unk r.dvOut (liIx r.lists r.dvOut) then 5 else redsE r.maps dvT r.dvr from rfl)
  obtain ⟨u1, hu1⟩ : ∃ u1, u1 = unk r.dvIn (liIx r.lists r.dvIn) := ⟨_, rfl⟩
  obtain ⟨u2, hu2⟩ : ∃ u2, u2 = unk r.dvOut (liIx r.lists r.dvOut) := ⟨_, rfl⟩
  obtain ⟨e3, he3⟩ : ∃ e3, e3 = redsE r.maps dvT r.dvr := ⟨_, rfl⟩
  rw [← hu1, ← hu2, ← he3, ← hn4] at hOr
  rw [← hu1] at hU1
  rw [← hu2] at hU2
  rw [← he3, ← hA] at hD
  simp only [eInto, dvT] at hD
  obtain ⟨m1, hm1⟩ : ∃ m1, m1 = r.dvIn := ⟨_, rfl⟩
  obtain ⟨m2, hm2⟩ : ∃ m2, m2 = r.dvOut := ⟨_, rfl⟩
  rw [← hm1] at hOr hU1 L2
  rw [← hm2] at hOr hU2 L3
  clear hu1 hu2 he3 hm1 hm2 hU hrow hlen hA3
  obtain ⟨P, hP⟩ : ∃ P, P = Tryz.prog := ⟨_, rfl⟩
  have HP := hid hP
  have mixed : P.follows .mixedOrders = true := by rw [hP]; kernel_rfl
  have FG : P.funcs[26]? = some Tryz.f26 := by rw [hP]; exact Tryz.func26
  obtain ⟨zRouter, hzRouter⟩ : ∃ z, z = 25 := ⟨_, rfl⟩
  have nzRouter : ¬ zRouter = 0 := by omega
  obtain ⟨zDistanceVector, hzDistanceVector⟩ : ∃ z, z = 5 := ⟨_, rfl⟩
  have nzDistanceVector : ¬ zDistanceVector = 0 := by omega
  have ty3 := Tryz.underlying3; have ag3 := Tryz.isAgg3; have sz3 := Tryz.sizeOf3; have ru3 := Tryz.runUnderlying3
  have ty4 := Tryz.underlying4; have ag4 := Tryz.isAgg4; have sz4 := Tryz.sizeOf4; have ru4 := Tryz.runUnderlying4
  have ty9 := Tryz.underlying9; have ag9 := Tryz.isAgg9; have sz9 := Tryz.sizeOf9; have ru9 := Tryz.runUnderlying9
  have ty29 := Tryz.underlying29; have ag29 := Tryz.isAgg29; have sz29 := Tryz.sizeOf29; have ru29 := Tryz.runUnderlying29
  have ty33 := Tryz.underlying33; have ag33 := Tryz.isAgg33; have sz33 := Tryz.sizeOf33; have ru33 := Tryz.runUnderlying33
  rw [← hzDistanceVector] at sz33
  have zeDistanceVector := Tryz.zeroValue33
  have ty41 := Tryz.underlying41; have ag41 := Tryz.isAgg41; have sz41 := Tryz.sizeOf41; have ru41 := Tryz.runUnderlying41
  rw [← hzRouter] at sz41
  have ty55 := Tryz.underlying54; have ag55 := Tryz.isAgg54; have sz55 := Tryz.sizeOf54; have ru55 := Tryz.runUnderlying54
  have ty157 := Tryz.underlying138; have ag157 := Tryz.isAgg138; have sz157 := Tryz.sizeOf138; have ru157 := Tryz.runUnderlying138
  have zetarget := Tryz.zeroValue138
  have en0 : ∀ args w, (callFunc 99 args).run Tryz.prog w = .ok (.enter 99 args) w := enters_of Tryz.func99 (by kernel_rfl) rfl
  have en1 : ∀ args w, (callFunc 81 args).run Tryz.prog w = .ok (.enter 81 args) w := enters_of Tryz.func81 (by kernel_rfl) rfl
  have en2 : ∀ args w, (callFunc 64 args).run Tryz.prog w = .ok (.enter 64 args) w := enters_of Tryz.func64 (by kernel_rfl) rfl
  rw [← hP] at ty3 ag3 sz3 ru3 ty4 ag4 sz4 ru4 ty9 ag9 sz9 ru9 ty29 ag29 sz29 ru29 ty33 ag33 sz33 ru33 zeDistanceVector ty41 ag41 sz41 ru41 ty55 ag55 sz55 ru55 ty157 ag157 sz157 ru157 zetarget en0 en1 en2 hWi hU1 hU2 hD ⊢
  clear hP
  have hp0 : Sem.run P (loadCellsFrom ⟨w.heap.size, 12, none⟩ 0 zDistanceVector #[]) w1 = .ok L w1 := by
    rw [hL, hzDistanceVector]; exact ld_part P hh1 rfl hAL
  obtain ⟨Z, hZ, hZs⟩ : ∃ Z : Array Value, (∀ w, (zeroValue 33).run P w = .ok (.agg Z) w) ∧ Z.size = zDistanceVector := ⟨_, zeDistanceVector, by rw [hzDistanceVector]; rfl⟩
  have hinfo : (P.info? 33).map (·.size) = some zDistanceVector := by rw [HP.out, hzDistanceVector]; kernel_rfl
  have hst := run_storeCells_new (P := P) w1 33 Z L (by rw [hLs, ← hzDistanceVector]; exact hinfo) (by rw [hZs, hLs, hzDistanceVector]) hLone
  rw [s1, hw2] at hst
  have hLz : L.size = zDistanceVector := by rw [hLs, hzDistanceVector]
  have LA : ∀ v : World, Below w2.heap.size w2 v → Sem.run P (loadCellsFrom ⟨w.heap.size, 0, none⟩ 0 zRouter #[]) v = .ok A v := fun v h => ld_box P (blk_keep hh2 h) (by rw [hzRouter]; exact hAs)
  rw [← hA]
  clear zeDistanceVector hinfo hZs hLs hAs hLone hAL hh1 hh2 hh3 H0 H2 hzRouter hzDistanceVector hL hA hv4 hr hn4
  cases hon : r.dvOn with
  | false =>
    rw [hon] at L0
    have R := hid (show dvE r = (if !decide (r.dvAdmin = 0) || !noS m1 || !noS m2 || decide (0 < n4) then 1 else 0) by rw [hOr.out, hon]; rfl)
    clear hOr hU1 hU2 hD
    by_cases q1 : r.dvAdmin = 0
    · skip
      by_cases q2 : m1.toList = []
      · skip
        by_cases q3 : m2.toList = []
        · skip
          by_cases q4 : 0 < n4
          · skip
            go_enter FG, Tryz.ntmps26
            repeat' (first | go_skip | go_guarded | go_step | go_upon)
            all_goals go_ret
            all_goals exact ⟨ret_int (by rw [R.out]; (try unfold noS); simp_all), H.out⟩
          · skip
            go_enter FG, Tryz.ntmps26
            repeat' (first | go_skip | go_guarded | go_step | go_upon)
            all_goals go_ret
            all_goals exact ⟨ret_int (by rw [R.out]; (try unfold noS); simp_all), H.out⟩
        · skip
          go_enter FG, Tryz.ntmps26
          repeat' (first | go_skip | go_guarded | go_step | go_upon)
          all_goals go_ret
          all_goals exact ⟨ret_int (by rw [R.out]; (try unfold noS); simp_all), H.out⟩
      · skip
        go_enter FG, Tryz.ntmps26
        repeat' (first | go_skip | go_guarded | go_step | go_upon)
        all_goals go_ret
        all_goals exact ⟨ret_int (by rw [R.out]; (try unfold noS); simp_all), H.out⟩
    · skip
      go_enter FG, Tryz.ntmps26
      repeat' (first | go_skip | go_guarded | go_step | go_upon)
      all_goals go_ret
      all_goals exact ⟨ret_int (by rw [R.out]; (try unfold noS); simp_all), H.out⟩
  | true =>
    rw [hon] at L0
    have R := hid (show dvE r = (if !wi r.dvAdmin 1 255 then 1 else if u1 || u2 then 5 else e3) by rw [hOr.out, hon]; rfl)
    clear hOr
    have hGA : ∀ v : World, Below w2.heap.size w2 v → Below w2.heap.size w2 (v.alloc (.cells #[.int .i64 4, .int .i64 1, .int .i64 15, .int .i64 0, .int .i64 0] 138)) := fun v h => h.alloc h.size _
    have T0 : ∀ v : World, (v.alloc (.cells #[.int .i64 4, .int .i64 1, .int .i64 15, .int .i64 0, .int .i64 0] 138)).cell? ⟨v.heap.size, 0, none⟩ = some (.int .i64 4) := fun v => new_cell v _ _ 0
    have T1 : ∀ v : World, (v.alloc (.cells #[.int .i64 4, .int .i64 1, .int .i64 15, .int .i64 0, .int .i64 0] 138)).cell? ⟨v.heap.size, 1, none⟩ = some (.int .i64 1) := fun v => new_cell v _ _ 1
    have T2 : ∀ v : World, (v.alloc (.cells #[.int .i64 4, .int .i64 1, .int .i64 15, .int .i64 0, .int .i64 0] 138)).cell? ⟨v.heap.size, 2, none⟩ = some (.int .i64 15) := fun v => new_cell v _ _ 2
    have T3 : ∀ v : World, (v.alloc (.cells #[.int .i64 4, .int .i64 1, .int .i64 15, .int .i64 0, .int .i64 0] 138)).cell? ⟨v.heap.size, 3, none⟩ = some (.int .i64 0) := fun v => new_cell v _ _ 3
    have T4 : ∀ v : World, (v.alloc (.cells #[.int .i64 4, .int .i64 1, .int .i64 15, .int .i64 0, .int .i64 0] 138)).cell? ⟨v.heap.size, 4, none⟩ = some (.int .i64 0) := fun v => new_cell v _ _ 4
    have hD2 := fun v (h : Below w2.heap.size w2 v) => (hD _ (hGA v h)).mono (fun _ w'' (q : _ ∧ _) => (⟨q.1, then_ (hGA v h) q.2⟩ : _ ∧ Below w2.heap.size w2 w''))
    go_enter FG, Tryz.ntmps26
    repeat' (first | (go_at_call 64; with_reducible refine (hWi _ _ _ _).mono ?_; rintro e w' ⟨rfl, rfl⟩; try dsimp only) | (go_at_call 81; with_reducible refine (hU1 _ (by assumption)).mono ?_; rintro e w' ⟨rfl, b⟩; have b' := then_ (w := w2) (by assumption) b; clear b; try dsimp only) | (go_at_call 81; with_reducible refine (hU2 _ (by assumption)).mono ?_; rintro e w' ⟨rfl, b⟩; have b' := then_ (w := w2) (by assumption) b; clear b; try dsimp only) | (go_at_call 99; with_reducible refine (hD2 _ (by assumption)).mono ?_; rintro e w' ⟨rfl, b'⟩; try dsimp only) | go_skip | go_guarded | go_step | go_upon)
    all_goals go_ret
    all_goals exact ⟨ret_int (by rw [R.out]; simp_all), then_ H.out (by assumption)⟩

end Go.Proofs.YtlhbfpapmolohaaGreat.Mw
