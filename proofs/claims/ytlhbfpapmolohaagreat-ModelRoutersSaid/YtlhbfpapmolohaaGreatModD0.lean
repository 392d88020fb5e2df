/-
  THE CONTRACTS OF model's CHECKS OF THE PROTOCOLS.
-/
import Derived.Test.YtlhbfpapmolohaaGreatModZc
import Derived.Test.YtlhbfpapmolohaaGreatQTail
namespace Go.Proofs.YtlhbfpapmolohaaGreat.Mw
set_option linter.unusedSimpArgs false
set_option linter.unusedVariables false
open Go.RowKit Kt Mm Mp

theorem row_form {α : Type} {f : α → List Value} {z : Nat} {w : World} {v : Value} {l : List α} (h : InRow f z w v l) : ∃ a cap, v = .slice a l.length cap := by
  obtain ⟨_, h⟩ := h.row
  rcases h with ⟨rfl, h0⟩ | ⟨x, cap, rfl, _⟩
  · exact ⟨none, 0, by rw [h0]⟩
  · exact ⟨some x, cap, rfl⟩

theorem orAt (es : List Int) (wx : World) (T : TypeId) (hl : es.length ≤ 1000) :
    Calls Tryz.prog 97 #[.slice (some ⟨wx.heap.size, 0, none⟩) es.length es.length] (wx.alloc (.cells (es.map (Value.int .i64)).toArray T)) fun e w' => e = .returned (.int .i64 (orE es)) ∧ wx.alloc (.cells (es.map (Value.int .i64)).toArray T) = w' :=
  orC es wx.heap.size es.length _ rfl hl (fun j e hj => (new_cell wx _ T j).trans (by simp [hj]))

set_option maxHeartbeats 1000000 in
theorem chkNbrs (r : Rtr) (w : World) (hr : RtrIn w r) :
    Calls Tryz.prog 100 #[.agg (eRtr r).toArray] w fun e w' => e = .returned (.int .i64 (nbrsE r.maps r.nbrs)) ∧ Below w.heap.size w w' := by
  obtain ⟨a1, c1, hv⟩ := row_form hr.nbrs
  obtain ⟨A, hA⟩ : ∃ A, A = (eRtr r).toArray := ⟨_, rfl⟩
  rw [← hA]
  obtain ⟨w1, hw1⟩ : ∃ w1, w.alloc (.cells A 41) = w1 := ⟨_, rfl⟩
  have s1 : w1.heap.size = w.heap.size + 1 := by rw [← hw1, new_size]
  obtain ⟨n, hn⟩ : ∃ n, n = r.nbrs.length := ⟨_, rfl⟩
  obtain ⟨w2, hw2⟩ : ∃ w2, w1.alloc (.cells #[.slice a1 n c1] 34) = w2 := ⟨_, rfl⟩
  have h1 : w1.heap[w.heap.size]? = some (.cells A 41 (0, 0)) := by rw [← hw1, heap_new]
  have h0 : w2.heap[w.heap.size]? = some (.cells A 41 (0, 0)) := by rw [← hw2, Below.heap_alloc _ _ _ (by omega)]; exact h1
  have h2 : w2.heap[w.heap.size + 1]? = some (.cells #[.slice a1 n c1] 34 (0, 0)) := by rw [← s1, ← hw2, heap_new]
  have H0 : Below w.heap.size w w1 := by rw [← hw1]; exact al1 _ _
  have H2 : Below w1.heap.size w1 w2 := by rw [← hw2]; exact al1 _ _
  have H := hid (then_ H0 H2)
  have hc := eachNbr r.vNbrs r.nbrs 8 (nbrE r.maps r.nbrs) 164 #[.pointer (some ⟨w.heap.size, 0, none⟩), .pointer (some ⟨w.heap.size + 1, 0, none⟩)] (enters_of Tryz.func164 (by kernel_rfl) rfl) w2 (rows_keep hr.nbrs.row H.out) hr.nbrs.len
    (fun x _ => by simp [eNbr, one_str, one_int, one_bool])
    (fun W i x hx hbw => clNbrs r i x _ _ W (hr.keep (then_ H.out hbw)) (by rw [← hA]; exact blk_keep h0 hbw) (by rw [hv, ← hn]; exact blk_keep h2 hbw) hx)
  have R := hid (show nbrsE r.maps r.nbrs = eachE 8 (nbrE r.maps r.nbrs) r.nbrs from rfl)
  obtain ⟨e0, he⟩ : ∃ e0, e0 = eachE 8 (nbrE r.maps r.nbrs) r.nbrs := ⟨_, rfl⟩
  rw [← he] at hc R
  rw [hv, ← hn, show ((8 : Nat) : Int) = 8 from rfl] at hc
  have F0 : w1.cell? ⟨w.heap.size, 20, none⟩ = some (.slice a1 n c1) := box_at h1 (by rw [hA, hn, ← hv]; rfl)
  have F2 := box_at h2 (j := 0) rfl
  have G2 : Below w2.heap.size w2 w2 := Below.refl _ _
  clear h0 h1 h2 hr he hn hA hv H0 H2
  go_enter Tryz.func100, Tryz.ntmps100
  repeat' (first | (go_at_call 163; with_reducible refine (hc).mono ?_; rintro e w' ⟨rfl, b⟩; have b' := then_ (w := w2) (by assumption) b; clear b; try dsimp only) | go_skip | go_guarded | go_step | go_upon)
  go_ret
  exact ⟨ret_int R.out.symm, then_ H.out (by assumption)⟩


set_option maxHeartbeats 8000000 in
theorem chkLS (r : Rtr) (w : World) (hr : RtrIn w r) :
    Calls Tryz.prog 25 #[.agg (eRtr r).toArray] w fun e w' => e = .returned (.int .i64 (lsE r)) ∧ Below w.heap.size w w' := by
  obtain ⟨a1, c1, hv2⟩ := row_form hr.rngs
  obtain ⟨n1, hn2⟩ : ∃ n, n = r.rngs.length := ⟨_, rfl⟩
  rw [← hn2] at hv2
  obtain ⟨a2, c2, hv3⟩ := row_form hr.lsr
  obtain ⟨n2, hn3⟩ : ∃ n, n = r.lsr.length := ⟨_, rfl⟩
  rw [← hn3] at hv3
  have hWi := fun n a b wx => within n a b wx
  obtain ⟨L, hL⟩ : ∃ L, L = (eLS r).toArray := ⟨_, rfl⟩
  have hLone : L.all (·.oneCell') = true := by rw [hL]; simp [eLS, one_int, one_bool, one_str, row_one hr.rngs.row, row_one hr.lsr.row]
  have hLs : L.size = 4 := by rw [hL]; rfl
  obtain ⟨A, hA⟩ : ∃ A, A = (eRtr r).toArray := ⟨_, rfl⟩
  have hAs : A.size = 25 := by rw [hA]; rfl
  obtain ⟨w1, hw1⟩ : ∃ w1, w.alloc (.cells A 41) = w1 := ⟨_, rfl⟩
  have hh1 : w1.heap[w.heap.size]? = some (.cells A 41 (0, 0)) := by rw [← hw1, heap_new]
  obtain ⟨w2, hw2⟩ : ∃ w2, w1.alloc (.cells L 31) = w2 := ⟨_, rfl⟩
  have s1 : w1.heap.size = w.heap.size + 1 := by rw [← hw1, new_size]
  have hh2 : w2.heap[w.heap.size]? = some (.cells A 41 (0, 0)) := by rw [← hw2, Below.heap_alloc _ _ _ (by omega)]; exact hh1
  have hh3 : w2.heap[w.heap.size + 1]? = some (.cells L 31 (0, 0)) := by rw [← hw2, ← s1, heap_new]
  have L0 : ∀ v : World, Below w2.heap.size w2 v → v.cell? ⟨w.heap.size + 1, 0, none⟩ = some (.bool r.lsOn) := fun v h => box_at (blk_keep hh3 h) (by rw [hL]; rfl)
  have L1 : ∀ v : World, Below w2.heap.size w2 v → v.cell? ⟨w.heap.size + 1, 1, none⟩ = some (.int .i64 r.lsAdmin) := fun v h => box_at (blk_keep hh3 h) (by rw [hL]; rfl)
  have L2 : ∀ v : World, Below w2.heap.size w2 v → v.cell? ⟨w.heap.size + 1, 2, none⟩ = some (.slice a1 n1 c1) := fun v h => box_at (blk_keep hh3 h) (by rw [hL, ← hv2]; rfl)
  have L3 : ∀ v : World, Below w2.heap.size w2 v → v.cell? ⟨w.heap.size + 1, 3, none⟩ = some (.slice a2 n2 c2) := fun v h => box_at (blk_keep hh3 h) (by rw [hL, ← hv3]; rfl)
  have A1 : ∀ v : World, Below w2.heap.size w2 v → v.cell? ⟨w.heap.size, 1, none⟩ = some (.int .i64 r.asn) := fun v h => box_at (blk_keep hh2 h) (by rw [hA]; rfl)
  have G2 : Below w2.heap.size w2 w2 := Below.refl _ _
  have H0 : Below w.heap.size w w1 := by rw [← hw1]; exact al1 _ _
  have H2 : Below w1.heap.size w1 w2 := by rw [← hw2]; exact al1 _ _
  have H := hid (then_ H0 H2)
  have hAL : ∀ j v, (eLS r)[j]? = some v → A[8 + j]? = some v := by
    intro j v hj
    rw [hA]
    match j, hj with
    | 0, hj => exact hj
    | 1, hj => exact hj
    | 2, hj => exact hj
    | 3, hj => exact hj
    | (j + 4), hj => simp [eLS] at hj
  have hR := fun wx (h : Below w.heap.size w wx) => chkRngs (.slice a1 n1 c1) r.rngs wx (by rw [← hv2]; exact hr.rngs.keep h) hr.rngsA
  have hD := fun wx (h : Below w.heap.size w wx) => chkReds r lsT (.slice a2 n2 c2) r.lsr wx (hr.keep h) (by rw [← hv3]; exact hr.lsr.keep h)
  have hO : ∀ wx : World, Calls Tryz.prog 97 #[.slice (some ⟨wx.heap.size, 0, none⟩) 2 2] (wx.alloc (.cells #[.int .i64 (rngsE r.rngs), .int .i64 (redsE r.maps lsT r.lsr)] 43)) fun e w' => e = .returned (.int .i64 (orE [rngsE r.rngs, redsE r.maps lsT r.lsr])) ∧ wx.alloc (.cells #[.int .i64 (rngsE r.rngs), .int .i64 (redsE r.maps lsT r.lsr)] 43) = w' :=
    fun wx => orAt [rngsE r.rngs, redsE r.maps lsT r.lsr] wx 43 (by simp)
  have hOr := hid (show lsE r = if !r.lsOn then (if !decide (r.lsAdmin = 0) || decide (0 < r.rngs.length) || decide (0 < r.lsr.length) then 1 else 0) else if !wi r.lsAdmin 1 255 then 1 else orE [rngsE r.rngs, redsE r.maps lsT r.lsr] from rfl)
  obtain ⟨e1, he1⟩ : ∃ e1, e1 = rngsE r.rngs := ⟨_, rfl⟩
  obtain ⟨e2, he2⟩ : ∃ e2, e2 = redsE r.maps lsT r.lsr := ⟨_, rfl⟩
  obtain ⟨e3, he3⟩ : ∃ e3, e3 = orE [e1, e2] := ⟨_, rfl⟩
  rw [← he1, ← he2, ← he3] at hO hOr
  rw [← he1] at hR
  rw [← he2, ← hA] at hD
  simp only [eInto, lsT] at hD
  rw [← hn2, ← hn3] at hOr
  clear he1 he2 he3
  obtain ⟨P, hP⟩ : ∃ P, P = Tryz.prog := ⟨_, rfl⟩
  have HP := hid hP
  have mixed : P.follows .mixedOrders = true := by rw [hP]; kernel_rfl
  have FG : P.funcs[25]? = some Tryz.f25 := by rw [hP]; exact Tryz.func25
  obtain ⟨zRouter, hzRouter⟩ : ∃ z, z = 25 := ⟨_, rfl⟩
  have nzRouter : ¬ zRouter = 0 := by omega
  obtain ⟨zLinkState, hzLinkState⟩ : ∃ z, z = 4 := ⟨_, rfl⟩
  have nzLinkState : ¬ zLinkState = 0 := by omega
  have ty3 := Tryz.underlying3; have ag3 := Tryz.isAgg3; have sz3 := Tryz.sizeOf3; have ru3 := Tryz.runUnderlying3
  have ty4 := Tryz.underlying4; have ag4 := Tryz.isAgg4; have sz4 := Tryz.sizeOf4; have ru4 := Tryz.runUnderlying4
  have ty28 := Tryz.underlying28; have ag28 := Tryz.isAgg28; have sz28 := Tryz.sizeOf28; have ru28 := Tryz.runUnderlying28
  have ty29 := Tryz.underlying29; have ag29 := Tryz.isAgg29; have sz29 := Tryz.sizeOf29; have ru29 := Tryz.runUnderlying29
  have ty31 := Tryz.underlying31; have ag31 := Tryz.isAgg31; have sz31 := Tryz.sizeOf31; have ru31 := Tryz.runUnderlying31
  rw [← hzLinkState] at sz31
  have zeLinkState := Tryz.zeroValue31
  have ty41 := Tryz.underlying41; have ag41 := Tryz.isAgg41; have sz41 := Tryz.sizeOf41; have ru41 := Tryz.runUnderlying41
  rw [← hzRouter] at sz41
  have ty43 := Tryz.underlying43; have ag43 := Tryz.isAgg43; have sz43 := Tryz.sizeOf43; have ru43 := Tryz.runUnderlying43
  have zeErrno := Tryz.zeroValue43
  have ty89 := Tryz.underlying77; have ag89 := Tryz.isAgg77; have sz89 := Tryz.sizeOf77; have ru89 := Tryz.runUnderlying77
  have zeSErrno := Tryz.zeroValue77
  have ty157 := Tryz.underlying138; have ag157 := Tryz.isAgg138; have sz157 := Tryz.sizeOf138; have ru157 := Tryz.runUnderlying138
  have zetarget := Tryz.zeroValue138
  have en0 : ∀ args w, (callFunc 97 args).run Tryz.prog w = .ok (.enter 97 args) w := enters_of Tryz.func97 (by kernel_rfl) rfl
  have en1 : ∀ args w, (callFunc 98 args).run Tryz.prog w = .ok (.enter 98 args) w := enters_of Tryz.func98 (by kernel_rfl) rfl
  have en2 : ∀ args w, (callFunc 99 args).run Tryz.prog w = .ok (.enter 99 args) w := enters_of Tryz.func99 (by kernel_rfl) rfl
  have en3 : ∀ args w, (callFunc 64 args).run Tryz.prog w = .ok (.enter 64 args) w := enters_of Tryz.func64 (by kernel_rfl) rfl
  rw [← hP] at ty3 ag3 sz3 ru3 ty4 ag4 sz4 ru4 ty28 ag28 sz28 ru28 ty29 ag29 sz29 ru29 ty31 ag31 sz31 ru31 zeLinkState ty41 ag41 sz41 ru41 ty43 ag43 sz43 ru43 zeErrno ty89 ag89 sz89 ru89 zeSErrno ty157 ag157 sz157 ru157 zetarget en0 en1 en2 en3 hWi hR hD hO ⊢
  clear hP
  have hp0 : Sem.run P (loadCellsFrom ⟨w.heap.size, 8, none⟩ 0 zLinkState #[]) w1 = .ok L w1 := by
    rw [hL, hzLinkState]; exact ld_part P hh1 rfl hAL
  obtain ⟨Z, hZ, hZs⟩ : ∃ Z : Array Value, (∀ w, (zeroValue 31).run P w = .ok (.agg Z) w) ∧ Z.size = zLinkState := ⟨_, zeLinkState, by rw [hzLinkState]; rfl⟩
  have hinfo : (P.info? 31).map (·.size) = some zLinkState := by rw [HP.out, hzLinkState]; kernel_rfl
  have hst := run_storeCells_new (P := P) w1 31 Z L (by rw [hLs, ← hzLinkState]; exact hinfo) (by rw [hZs, hLs, hzLinkState]) hLone
  rw [s1, hw2] at hst
  have hLz : L.size = zLinkState := by rw [hLs, hzLinkState]
  have LA : ∀ v : World, Below w2.heap.size w2 v → Sem.run P (loadCellsFrom ⟨w.heap.size, 0, none⟩ 0 zRouter #[]) v = .ok A v := fun v h => ld_box P (blk_keep hh2 h) (by rw [hzRouter]; exact hAs)
  rw [← hA]
  clear zeLinkState hinfo hZs hLs hAs hLone hAL hh1 hh2 hh3 H0 H2 hzRouter hzLinkState hL hA hv2 hv3 hr
  cases hon : r.lsOn with
  | false =>
    rw [hon] at L0
    have R := hid (show lsE r = (if !decide (r.lsAdmin = 0) || decide (0 < n1) || decide (0 < n2) then 1 else 0) by rw [hOr.out, hon]; rfl)
    clear hOr hR hD hO hn2 hn3
    by_cases q1 : 0 < n1 <;> by_cases q2 : 0 < n2
    all_goals
      go_enter FG, Tryz.ntmps25
      repeat' (first | go_skip | go_guarded | go_step | go_upon)
      all_goals go_ret
      all_goals exact ⟨ret_int (by rw [R.out]; simp_all), H.out⟩
  | true =>
    rw [hon] at L0
    have R := hid (show lsE r = (if !wi r.lsAdmin 1 255 then 1 else e3) by rw [hOr.out, hon]; rfl)
    obtain ⟨w3, hw3⟩ : ∃ w3, w2.alloc (.cells #[.int .i64 3, .int .i64 0, .int .i64 16777215, .int .i64 1, .int .i64 2] 138) = w3 := ⟨_, rfl⟩
    have hh4 : w3.heap[w2.heap.size]? = some (.cells #[.int .i64 3, .int .i64 0, .int .i64 16777215, .int .i64 1, .int .i64 2] 138 (0, 0)) := by rw [← hw3, heap_new]
    have H23 : Below w2.heap.size w2 w3 := by rw [← hw3]; exact al1 _ _
    have G3 : Below w3.heap.size w3 w3 := Below.refl _ _
    have H3 := hid (then_ H.out H23)
    have T0 : ∀ v : World, Below w3.heap.size w3 v → v.cell? ⟨w2.heap.size, 0, none⟩ = some (.int .i64 3) := fun v h => box_at (blk_keep hh4 h) rfl
    have T1 : ∀ v : World, Below w3.heap.size w3 v → v.cell? ⟨w2.heap.size, 1, none⟩ = some (.int .i64 0) := fun v h => box_at (blk_keep hh4 h) rfl
    have T2 : ∀ v : World, Below w3.heap.size w3 v → v.cell? ⟨w2.heap.size, 2, none⟩ = some (.int .i64 16777215) := fun v h => box_at (blk_keep hh4 h) rfl
    have T3 : ∀ v : World, Below w3.heap.size w3 v → v.cell? ⟨w2.heap.size, 3, none⟩ = some (.int .i64 1) := fun v h => box_at (blk_keep hh4 h) rfl
    have T4 : ∀ v : World, Below w3.heap.size w3 v → v.cell? ⟨w2.heap.size, 4, none⟩ = some (.int .i64 2) := fun v h => box_at (blk_keep hh4 h) rfl
    have hR := fun wx (h : Below w3.heap.size w3 wx) => hR wx (then_ H3.out h)
    have hD := fun wx (h : Below w3.heap.size w3 wx) => hD wx (then_ H3.out h)
    have M2 := fun v h => L2 v (then_ H23 h)
    have M3 := fun v h => L3 v (then_ H23 h)
    have MA := fun v h => LA v (then_ H23 h)
    clear hOr hn2 hn3 hh4 H23
    have uT0 := fun u : Later w3.heap.size w3 => T0 u.w u.h
    have uT1 := fun u : Later w3.heap.size w3 => T1 u.w u.h
    have uT2 := fun u : Later w3.heap.size w3 => T2 u.w u.h
    have uT3 := fun u : Later w3.heap.size w3 => T3 u.w u.h
    have uT4 := fun u : Later w3.heap.size w3 => T4 u.w u.h
    have uM2 := fun u : Later w3.heap.size w3 => M2 u.w u.h
    have uM3 := fun u : Later w3.heap.size w3 => M3 u.w u.h
    have uMA := fun u : Later w3.heap.size w3 => MA u.w u.h
    go_enter FG, Tryz.ntmps25
    repeat' (first | (go_at_call 64; with_reducible refine (hWi _ _ _ _).mono ?_; rintro e w' ⟨rfl, rfl⟩; try dsimp only) | go_skip | go_guarded | go_step | go_upon)
    all_goals try (go_ret; exact ⟨ret_int (by rw [R.out]; simp_all), H.out⟩)
    refine wp_region_qtail 8 w3 G3 mixed (by kernel_rfl) ?_
    simp only [List.take_succ_cons, List.take_zero, List.drop_succ_cons, List.drop_zero]
    repeat (go_big_quiet_step (first | (go_at_call 98; with_reducible exact later_of (Nat.le_refl _) (hR _ (Later.h _))) | (go_at_call 99; with_reducible exact later_of (Nat.le_refl _) (hD _ (Later.h _)))))
    refine wpQuiet_nil ?_
    rintro _ ⟨u, rfl⟩
    have bu := u.h
    repeat' (first | (go_at_call 97; with_reducible refine (hO _).mono ?_; rintro e w' ⟨rfl, rfl⟩; try dsimp only) | go_skip | go_guarded | go_step | go_upon)
    all_goals go_ret
    all_goals exact ⟨ret_int (by rw [R.out]; simp_all), then_ (then_ H3.out bu) (al1 _ _)⟩

end Go.Proofs.YtlhbfpapmolohaaGreat.Mw
