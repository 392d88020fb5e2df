/-
  THE CONTRACTS OF policy.Prepend, OF slices.Clone AT []int AND AT []api.Hop, AND OF policy.clone.
-/
import Derived.Test.YtlhbfpapmolohaaPolF
import Derived.Test.YtlhbfpapmolohaaModAp
import Derived.Deep.SlicePairs
namespace Go.Proofs.Ytlhbfpapmolohaa.Mw
set_option linter.unusedSimpArgs false
set_option linter.unusedVariables false
open Go.RowKit Kt Mm Mp Am

set_option maxHeartbeats 8000000 in
theorem plPrepend (r : Rtr) (s : ByteArray) (x : Rte) (w : World) (hr : RtrIn w r) (ha : low x.pfx.addr) :
    Calls Try.prog 25 #[.agg (eRtr r).toArray, .string s, .agg (eRte x).toArray] w fun e w' => e = .returned (.int .i64 (prepI r.lists r.maps s x.pfx x.tag)) ∧ Below w.heap.size w w' := by
  obtain ⟨X, hX⟩ : ∃ X, X = (eRtr r).toArray := ⟨_, rfl⟩
  obtain ⟨Y, hY⟩ : ∃ Y, Y = (eRte x).toArray := ⟨_, rfl⟩
  obtain ⟨w2, hw2⟩ : ∃ w2, (w.alloc (.cells X 55)).alloc (.cells Y 62) = w2 := ⟨_, rfl⟩
  have hhX : w2.heap[w.heap.size]? = some (.cells X 55 (0, 0)) := by rw [← hw2, Below.heap_alloc _ _ _ (by simp), heap_new]
  have hhY : w2.heap[w.heap.size + 1]? = some (.cells Y 62 (0, 0)) := by rw [← hw2]; have h := heap_new (w.alloc (.cells X 55)) (.cells Y 62 (0, 0)); rwa [new_size] at h
  have KX : ∀ v : World, Below w2.heap.size w2 v → v.heap[w.heap.size]? = some (.cells X 55 (0, 0)) := fun v h => blk_keep hhX h
  have KY : ∀ v : World, Below w2.heap.size w2 v → v.heap[w.heap.size + 1]? = some (.cells Y 62 (0, 0)) := fun v h => blk_keep hhY h
  have Gw2 : Below w2.heap.size w2 w2 := Below.refl _ _
  have Hw2 := hid (show Below w.heap.size w w2 by rw [← hw2]; exact al2 _ _ _)
  have hX' := hid hX
  have hY' := hid hY
  try rw [← hX]
  try rw [← hY]
  clear hX hY hhX hhY
  have hXs : X.size = 25 := by rw [hX'.out]; rfl
  have hYs : Y.size = 14 := by rw [hY'.out]; rfl
  have hPm := fun wx (h : Below w2.heap.size w2 wx) => plPermitting r s x wx (hr.keep (then_ Hw2.out h)) ha
  rw [← hX'.out, ← hY'.out] at hPm
  have R := hid (show prepI r.lists r.maps s x.pfx x.tag = match permC r.lists r.maps s x.pfx x.tag with | none => 0 | some c => c.prepend from rfl)
  obtain ⟨o, ho⟩ : ∃ o, o = permC r.lists r.maps s x.pfx x.tag := ⟨_, rfl⟩
  rw [← ho] at hPm R
  clear ho hr ha
  obtain ⟨ok, hok⟩ : ∃ q, q = o.isSome := ⟨_, rfl⟩
  obtain ⟨c, hc⟩ : ∃ q, q = o.getD zeroCla := ⟨_, rfl⟩
  obtain ⟨V, hV⟩ : ∃ V, V = (eCla c).toArray := ⟨_, rfl⟩
  have hVs : V.size = 7 := by rw [hV]; rfl
  have hV1 := hid (show V.all (·.oneCell') = true by rw [hV]; exact cla_one c)
  have y6 : V[6]? = some (.int .i64 c.prepend) := by rw [hV]; rfl
  have hpv : permV o = .tuple #[.agg V, .bool ok] := by unfold permV; rw [← hc, ← hV, ← hok]
  rw [hpv] at hPm
  have R2 := hid (show prepI r.lists r.maps s x.pfx x.tag = if ok then c.prepend else 0 by rw [R.out, hok, hc]; cases o <;> rfl)
  clear hV hok hc hpv R
  obtain ⟨P, hP⟩ : ∃ P, P = Try.prog := ⟨_, rfl⟩
  have HP := hid hP
  have mixed : P.follows .mixedOrders = true := by rw [hP]; kernel_rfl
  have FG : P.funcs[25]? = some Try.f25 := by rw [hP]; exact Try.func25
  obtain ⟨zRouter, hzRouter⟩ : ∃ z, z = 25 := ⟨_, rfl⟩
  have nzRouter : ¬ zRouter = 0 := by omega
  obtain ⟨zClause, hzClause⟩ : ∃ z, z = 7 := ⟨_, rfl⟩
  have nzClause : ¬ zClause = 0 := by omega
  obtain ⟨zRoute, hzRoute⟩ : ∃ z, z = 14 := ⟨_, rfl⟩
  have nzRoute : ¬ zRoute = 0 := by omega
  have ty3 := Try.underlying3; have ag3 := Try.isAgg3; have sz3 := Try.sizeOf3; have ru3 := Try.runUnderlying3
  have ty4 := Try.underlying4; have ag4 := Try.isAgg4; have sz4 := Try.sizeOf4; have ru4 := Try.runUnderlying4
  have ty9 := Try.underlying9; have ag9 := Try.isAgg9; have sz9 := Try.sizeOf9; have ru9 := Try.runUnderlying9
  have ty55 := Try.underlying55; have ag55 := Try.isAgg55; have sz55 := Try.sizeOf55; have ru55 := Try.runUnderlying55
  rw [← hzRouter] at sz55
  have ty62 := Try.underlying62; have ag62 := Try.isAgg62; have sz62 := Try.sizeOf62; have ru62 := Try.runUnderlying62
  rw [← hzRoute] at sz62
  have ty80 := Try.underlying80; have ag80 := Try.isAgg80; have sz80 := Try.sizeOf80; have ru80 := Try.runUnderlying80
  rw [← hzClause] at sz80
  have zeClause := Try.zeroValue80
  have en0 : ∀ args w, (callFunc 37 args).run Try.prog w = .ok (.enter 37 args) w := enters_of Try.func37 (by kernel_rfl) rfl
  rw [← hP] at ty3 ag3 sz3 ru3 ty4 ag4 sz4 ru4 ty9 ag9 sz9 ru9 ty55 ag55 sz55 ru55 ty62 ag62 sz62 ru62 ty80 ag80 sz80 ru80 zeClause en0 hPm ⊢
  clear hP
  have LX : ∀ v : World, Below w2.heap.size w2 v → Sem.run P (loadCellsFrom ⟨w.heap.size, 0, none⟩ 0 zRouter #[]) v = .ok X v := fun v h => ld_box P (KX v h) (by rw [hzRouter]; exact hXs)
  have LY : ∀ v : World, Below w2.heap.size w2 v → Sem.run P (loadCellsFrom ⟨w.heap.size + 1, 0, none⟩ 0 zRoute #[]) v = .ok Y v := fun v h => ld_box P (KY v h) (by rw [hzRoute]; exact hYs)
  have ZC := hid hzClause
  clear hzRouter hzClause hzRoute KX KY hXs hYs
  go_enter FG, Try.ntmps25
  repeat' ((fail_if_success (with_reducible show Hid _)); (first | ((with_reducible show Oper.wp _ ⟨_, .store 80 _ _, _, _, _, _⟩ _ _ _ _); refine stopP ?_) | (go_at_call 37; with_reducible refine (hPm _ (by assumption)).mono ?_; rintro e w' ⟨rfl, b⟩; have b' := then_ (w := w2) (by assumption) b; clear b; try dsimp only) | go_skip | go_guarded | go_step | go_upon))
  refine hid ?_
  refine wp_store_box (w := w'.alloc (.cells zeroCl 80)) 80 _ _ (by rfl) (g := w'.heap.size) (cur := zeroCl) (X := V) (by rfl) (by rfl) (by intro v; rw [hVs, ← ZC.out]; first | exact sz80 v | assumption) (heap_new _ _) (by rw [hVs]; rfl) hV1.out ?_
  intro w4 h1 h2 h3
  have HB4 := hid (show Below w'.heap.size w' w4 from (al1 w' _).trans (h3 _ (Nat.le_refl _)))
  have HW4 := hid (then_ (show Below w2.heap.size w2 w' from b') HB4.out)
  have G4 : Below w4.heap.size w4 w4 := Below.refl _ _
  have FV6 : ∀ v : World, Below w4.heap.size w4 v → v.cell? ⟨w'.heap.size, 6, none⟩ = some (.int .i64 c.prepend) := fun v h => box_at (blk_keep h1 h) y6
  have LV : ∀ v : World, Below w4.heap.size w4 v → Sem.run P (loadCellsFrom ⟨w'.heap.size, 0, none⟩ 0 zClause #[]) v = .ok V v := fun v h => ld_box P (blk_keep h1 h) (by rw [ZC.out]; exact hVs)
  obtain ⟨g, hgb⟩ : ∃ g, g = w'.heap.size := ⟨_, rfl⟩
  rw [← hgb] at FV6 LV ⊢
  clear h1 h2 h3 hVs hgb
  clear LX LY hPm b' y6
  cases ok
  all_goals
    repeat' (first | go_skip | go_guarded | go_step | go_upon)
    go_ret
    exact ⟨ret_int (by rw [R2.out]; rfl), then_ Hw2.out HW4.out⟩

  /-! ### slices.Clone -/
  theorem intInfo : (Try.prog.info? 3).map (fun i => (i.zero, i.size, i.bytes)) = some (some (.int .i64 0), 1, 8) := by kernel_rfl
  theorem hopInfo : (Try.prog.info? 91).map (fun i => (i.zero, i.size, i.bytes)) = some (some (.agg #[.int .i64 0, .int .u32 0]), 2, 16) := by kernel_rfl

set_option maxHeartbeats 2000000 in
theorem cloneInt (v : Value) (s : List Int) (w : World) (h : IsRow eInt 1 w v s) (hs : s.length ≤ 1000000000) :
    Calls Try.prog 58 #[v] w fun e w' => ∃ v', e = .returned v' ∧ w'.ownsRow w.heap.size 3 1 v' s.length (fl eInt s) ∧ Below w.heap.size w w' := by
  obtain ⟨i0, hi, hz0, hz1, hz2⟩ := info_parts intInfo
  have q22 : ∀ (w : World) (a : Option Addr) (n c n' c' : Nat), (binOp .eql 59 (.slice a n c) (.slice none n' c')).run Try.prog w = .ok (.bool a.isNone) w := fun w a n c n' c' => Lib.run_eql_slice_nil w _ _ a n c n' c' Try.underlying59
  obtain ⟨h1, h2⟩ := h
  rcases h2 with ⟨rfl, h0⟩ | ⟨x, cap, rfl, hnc, hc⟩
  · have hl : s = [] := List.eq_nil_of_length_eq_zero h0
    subst hl
    clear h0 h1
    go_enter Try.func58, Try.ntmps58
    repeat' (first | go_skip | go_guarded | go_step | go_upon)
    go_ret
    exact ⟨_, rfl, World.ownsRow_nil _ _ _ _, Below.refl _ _⟩
  · have H := hid hc
    have h1c : ∀ u ∈ fl eInt s, u.oneCell' = true := fl_oneCell (fun x u hu => by simp [eInt] at hu; rcases hu with rfl | rfl <;> rfl) s
    clear hc
    obtain ⟨n, hn⟩ : ∃ n, s.length = n := ⟨_, rfl⟩
    rw [hn] at h1 hs ⊢
    clear hn
    go_enter Try.func58, Try.ntmps58
    go_wp2_with (at_builtin; refine wpList_append_own _ rfl _ _ 59 rfl w.heap.size 3 i0 _ 1 8 Try.underlying59 hi hz0 hz1 hz2 rfl (by decide) _ _ _ rfl (World.ownsRow_made w #[] 0 (Nat.le_refl _) (Nat.zero_le _) (by simp)) x n cap (fl eInt s) rfl ?qc1 ?qc2 ?qc3 ?qc4 ?qc5 ?qc6 ?_)
    case qc1 => exact h1
    case qc2 =>
      intro j u hj
      have hcell := H.out j u hj
      exact Lib.cell?_alloc_some _ hcell
    case qc3 => exact h1c
    case qc4 => unfold maxLen; omega
    case qc5 => omega
    case qc6 => simp
    intro v' w1 hown hgrow hnil
    repeat' (first | go_skip | go_guarded | go_step | go_upon)
    go_ret
    refine ⟨v', rfl, by simpa using hown, ?_⟩
    exact ((Below.refl _ w).alloc (Nat.le_refl _) _).grown hgrow (by simp) (by intro k hk; simp [Value.ownBlock] at hk; omega)

set_option maxHeartbeats 2000000 in
theorem cloneHop (v : Value) (s : List Hp) (w : World) (h : IsRow eHp 2 w v s) (hs : s.length ≤ 1000000000) :
    Calls Try.prog 59 #[v] w fun e w' => ∃ v', e = .returned v' ∧ w'.ownsRow w.heap.size 91 2 v' s.length (fl eHp s) ∧ Below w.heap.size w w' := by
  obtain ⟨i0, hi, hz0, hz1, hz2⟩ := info_parts hopInfo
  have q22 : ∀ (w : World) (a : Option Addr) (n c n' c' : Nat), (binOp .eql 60 (.slice a n c) (.slice none n' c')).run Try.prog w = .ok (.bool a.isNone) w := fun w a n c n' c' => Lib.run_eql_slice_nil w _ _ a n c n' c' Try.underlying60
  obtain ⟨h1, h2⟩ := h
  rcases h2 with ⟨rfl, h0⟩ | ⟨x, cap, rfl, hnc, hc⟩
  · have hl : s = [] := List.eq_nil_of_length_eq_zero h0
    subst hl
    clear h0 h1
    go_enter Try.func59, Try.ntmps59
    repeat' (first | go_skip | go_guarded | go_step | go_upon)
    go_ret
    exact ⟨_, rfl, World.ownsRow_nil _ _ _ _, Below.refl _ _⟩
  · have H := hid hc
    have h1c : ∀ u ∈ fl eHp s, u.oneCell' = true := fl_oneCell (fun x u hu => by simp [eHp] at hu; rcases hu with rfl | rfl <;> rfl) s
    clear hc
    obtain ⟨n, hn⟩ : ∃ n, s.length = n := ⟨_, rfl⟩
    rw [hn] at h1 hs ⊢
    clear hn
    go_enter Try.func59, Try.ntmps59
    go_wp2_with (at_builtin; refine wpList_append_own _ rfl _ _ 60 rfl w.heap.size 91 i0 _ 2 16 Try.underlying60 hi hz0 hz1 hz2 rfl (by decide) _ _ _ rfl (World.ownsRow_made w #[] 0 (Nat.le_refl _) (Nat.zero_le _) (by simp)) x n cap (fl eHp s) rfl ?qc1 ?qc2 ?qc3 ?qc4 ?qc5 ?qc6 ?_)
    case qc1 => exact h1
    case qc2 =>
      intro j u hj
      have hcell := H.out j u hj
      exact Lib.cell?_alloc_some _ hcell
    case qc3 => exact h1c
    case qc4 => unfold maxLen; omega
    case qc5 => omega
    case qc6 => simp
    intro v' w1 hown hgrow hnil
    repeat' (first | go_skip | go_guarded | go_step | go_upon)
    go_ret
    refine ⟨v', rfl, by simpa using hown, ?_⟩
    exact ((Below.refl _ w).alloc (Nat.le_refl _) _).grown hgrow (by simp) (by intro k hk; simp [Value.ownBlock] at hk; omega)


theorem frz {w : World} {b : Nat} {A : Array Value} {T : TypeId} (h : w.heap[b]? = some (.cells A T (0, 0))) (j : Nat) : w.frozen? ⟨b, j, none⟩ = false := by
  unfold World.frozen?; rw [h]; simp
theorem own_slc {w : World} {B e z n : Nat} {v : Value} {xs : List Value} (h : w.ownsRow B e z v n xs) : ∃ a l p, v = .slice a l p := by
  obtain ⟨_, h⟩ := h
  rcases h with ⟨rfl, _⟩ | ⟨g, cap, cur, rfl, _⟩
  · exact ⟨_, _, _, rfl⟩
  · exact ⟨_, _, _, rfl⟩
theorem own_keep {w w' : World} {B e z n : Nat} {v : Value} {xs : List Value} (h : w.ownsRow B e z v n xs) (hb : Below w.heap.size w w') : w'.ownsRow B e z v n xs := by
  obtain ⟨h1, h2⟩ := h
  refine ⟨h1, ?_⟩
  rcases h2 with h2 | ⟨g, cap, cur, hv, hg, hh, r⟩
  · exact .inl h2
  · exact .inr ⟨g, cap, cur, hv, hg, by rw [hb.block g (blk_lt hh)]; exact hh, r⟩
theorem own_same {w w' : World} {B e z n g0 : Nat} {v : Value} {xs : List Value} (h : w.ownsRow B e z v n xs) (hB : g0 < B) (hs : ∀ k, k ≠ g0 → w'.heap[k]? = w.heap[k]?) : w'.ownsRow B e z v n xs := by
  obtain ⟨h1, h2⟩ := h
  refine ⟨h1, ?_⟩
  rcases h2 with h2 | ⟨g, cap, cur, hv, hg, hh, r⟩
  · exact .inl h2
  · exact .inr ⟨g, cap, cur, hv, hg, by rw [hs g (by omega)]; exact hh, r⟩
theorem own_agree {w w' : World} {B B0 e z n : Nat} {v : Value} {xs : List Value} (h : w.ownsRow B e z v n xs) (hB : B0 ≤ B) (hs : ∀ k, B0 ≤ k → k < w.heap.size → w'.heap[k]? = w.heap[k]?) : w'.ownsRow B e z v n xs := by
  obtain ⟨h1, h2⟩ := h
  refine ⟨h1, ?_⟩
  rcases h2 with h2 | ⟨g, cap, cur, hv, hg, hh, r⟩
  · exact .inl h2
  · exact .inr ⟨g, cap, cur, hv, hg, by rw [hs g (by omega) (blk_lt hh)]; exact hh, r⟩
/-- A route whose lists lie in blocks from B on: it lies so wherever those blocks are as they are. -/
def RteOn (B : Nat) (w : World) (y : Rte) : Prop := ∀ w' : World, (∀ k, B ≤ k → k < w.heap.size → w'.heap[k]? = w.heap[k]?) → RteIn w' y
theorem RteOn.at {B : Nat} {w : World} {y : Rte} (h : RteOn B w y) : RteIn w y := h w fun _ _ _ => rfl
def zeroRt : Array Value := #[.int .u32 0, .int .i64 0, .int .i64 0, .int .i64 0, .int .i64 0, .int .i64 0, .int .i64 0, .int .i64 0, .int .i64 0, .slice none 0 0, .int .u32 0, .int .u32 0, .slice none 0 0, .bool false]
set_option maxHeartbeats 8000000 in
theorem plClone (x : Rte) (w : World) (hx : RteIn w x) (hp : x.path.length ≤ 1000000000) (hh : x.hops.length ≤ 1000000000) :
    Calls Try.prog 36 #[.agg (eRte x).toArray] w fun e w' => ∃ y, e = .returned (.agg (eRte y).toArray) ∧ Like x y ∧ RteOn w.heap.size w' y ∧ Below w.heap.size w w' := by
  obtain ⟨X, hX⟩ : ∃ X, X = (eRte x).toArray := ⟨_, rfl⟩
  obtain ⟨w1, hw1⟩ : ∃ w1, w.alloc (.cells X 62) = w1 := ⟨_, rfl⟩
  have hhX : w1.heap[w.heap.size]? = some (.cells X 62 (0, 0)) := by rw [← hw1, heap_new]
  have FX9 : ∀ v : World, Below w1.heap.size w1 v → v.cell? ⟨w.heap.size, 9, none⟩ = some (x.vPath) := fun v h => box_at (blk_keep hhX h) (by rw [hX]; rfl)
  have FX12 : ∀ v : World, Below w1.heap.size w1 v → v.cell? ⟨w.heap.size, 12, none⟩ = some (x.vHops) := fun v h => box_at (blk_keep hhX h) (by rw [hX]; rfl)
  have KX : ∀ v : World, Below w1.heap.size w1 v → v.heap[w.heap.size]? = some (.cells X 62 (0, 0)) := fun v h => blk_keep hhX h
  have GX : Below w1.heap.size w1 w1 := Below.refl _ _
  have HX := hid (show Below w.heap.size w w1 by rw [← hw1]; exact new_below _ _)
  have hX' := hid hX
  try rw [← hX]
  clear hX hhX
  have hXs : X.size = 14 := by rw [hX'.out]; rfl
  have X1 := hid (show X.all (·.oneCell') = true by rw [hX'.out]; exact eRte_one hx)
  have HI := hid (hx.keep HX.out)
  obtain ⟨w2, hw2⟩ : ∃ w2, w1.alloc (.cells #[.int .u32 0, .int .i64 0, .int .i64 0, .int .i64 0, .int .i64 0, .int .i64 0, .int .i64 0, .int .i64 0, .int .i64 0, .slice none 0 0, .int .u32 0, .int .u32 0, .slice none 0 0, .bool false] 62) = w2 := ⟨_, rfl⟩
  have hh2 : w2.heap[w1.heap.size]? = some (.cells zeroRt 62 (0, 0)) := by rw [← hw2]; exact heap_new _ _
  have H2 := hid (show Below w1.heap.size w1 w2 by rw [← hw2]; exact new_below _ _)
  have s1 : w1.heap.size = w.heap.size + 1 := by rw [← hw1, new_size]
  have s2 : w2.heap.size = w.heap.size + 2 := by rw [← hw2, new_size, s1]
  have c1 := cloneInt x.vPath x.path w2 (hx.path.row |> fun h => rows_keep h (then_ HX.out H2.out)) hp
  have hH := fun wx (h : Below w.heap.size w wx) => cloneHop x.vHops x.hops wx (rows_keep hx.hops.row h) hh
  obtain ⟨vP, hvP⟩ : ∃ v, v = x.vPath := ⟨_, rfl⟩
  obtain ⟨vH, hvH⟩ : ∃ v, v = x.vHops := ⟨_, rfl⟩
  rw [← hvP] at c1 FX9
  rw [← hvH] at hH FX12
  have f9 := FX9 w2 H2.out
  have K2 := hid (KX w2 H2.out)
  have X12 : X[12]? = some vH := by rw [hX'.out, hvH]; rfl
  have X9 : X[9]? = some vP := by rw [hX'.out, hvP]; rfl
  have LP := hid hx.path.len
  have LH := hid hx.hops.len
  have HXI := hid hx
  clear hx hp hh FX9 FX12 KX hvP hvH
  obtain ⟨P, hP⟩ : ∃ P, P = Try.prog := ⟨_, rfl⟩
  have HP := hid hP
  have mixed : P.follows .mixedOrders = true := by rw [hP]; kernel_rfl
  have FG : P.funcs[36]? = some Try.f36 := by rw [hP]; exact Try.func36
  obtain ⟨zRoute, hzRoute⟩ : ∃ z, z = 14 := ⟨_, rfl⟩
  have nzRoute : ¬ zRoute = 0 := by omega
  have ty59 := Try.underlying59; have ag59 := Try.isAgg59; have sz59 := Try.sizeOf59; have ru59 := Try.runUnderlying59
  have ty60 := Try.underlying60; have ag60 := Try.isAgg60; have sz60 := Try.sizeOf60; have ru60 := Try.runUnderlying60
  have ty62 := Try.underlying62; have ag62 := Try.isAgg62; have sz62 := Try.sizeOf62; have ru62 := Try.runUnderlying62
  rw [← hzRoute] at sz62
  have zeRoute := Try.zeroValue62
  have en0 : ∀ args w, (callFunc 58 args).run Try.prog w = .ok (.enter 58 args) w := enters_of Try.func58 (by kernel_rfl) rfl
  have en1 : ∀ args w, (callFunc 59 args).run Try.prog w = .ok (.enter 59 args) w := enters_of Try.func59 (by kernel_rfl) rfl
  rw [← hP] at ty59 ag59 sz59 ru59 ty60 ag60 sz60 ru60 ty62 ag62 sz62 ru62 zeRoute en0 en1 c1 hH ⊢
  clear hP
  have ZR := hid hzRoute
  clear hzRoute
  have SZ : ∀ {Z : Array Value}, Z.size = 14 → ∀ v, (sizeOf 62).run P v = .ok Z.size v := fun h v => by rw [h, ← ZR.out]; exact sz62 v
  go_enter FG, Try.ntmps36
  repeat' ((fail_if_success (with_reducible show Hid _)); (first | (go_at_call 58; with_reducible refine c1.mono ?_; rintro e wa ⟨v1, rfl, own1, bel1⟩; refine stopP ?_) | go_skip | go_guarded | go_step | go_upon))
  refine hid ?_
  dsimp only
  obtain ⟨a1, l1, p1, rfl⟩ := own_slc own1
  have BA := hid (then_ (then_ HX.out H2.out) bel1)
  have KA := blk_keep K2.out bel1
  have ca := box_at KA (j := 9) (v := vP) X9
  have fa := frz KA 9
  have KB := Go.heap_setCell_same wa w.heap.size 9 _ _ (.slice a1 l1 p1) KA
  obtain ⟨wb, hwb⟩ : ∃ v, wa.setCell ⟨w.heap.size, 9, none⟩ (.slice a1 l1 p1) = v := ⟨_, rfl⟩
  rw [hwb] at KB
  have BB := hid (show Below w.heap.size w wb by rw [← hwb]; exact BA.out.setCell (Nat.le_refl _) _)
  have OB := hid (show wb.ownsRow w2.heap.size 3 1 (.slice a1 l1 p1) x.path.length (fl eInt x.path) by rw [← hwb]; exact ownsRow_setCell_below own1 (show w.heap.size < w2.heap.size by omega) _)
  have hsa := hid (show wb.heap.size = wa.heap.size by rw [← hwb]; simp [World.setCell])
  have f12 : wb.cell? ⟨w.heap.size, 12, none⟩ = some vH := box_at KB (by rw [Array.getElem?_setIfInBounds_ne (by decide)]; exact X12)
  have c2 := hH wb BB.out
  have KB2 := hid KB
  have S2 := hid (Nat.le_trans (show w2.heap.size ≤ wa.heap.size from bel1.size) (Nat.le_of_eq hsa.out.symm))
  have Z2 := hid (show wa.heap[w1.heap.size]? = some (.cells zeroRt 62 (0, 0)) from blk_keep hh2 bel1)
  have Z3 := hid (show wb.heap[w1.heap.size]? = some (.cells zeroRt 62 (0, 0)) by rw [← hwb, Go.heap_setCell_other _ _ _ _ (by show w1.heap.size ≠ w.heap.size; omega)]; exact Z2.out)
  clear c1 hH f9 KA KB own1 bel1 hh2 X9
  repeat' ((fail_if_success (with_reducible show Hid _)); (first | (go_at_call 59; with_reducible refine c2.mono ?_; rintro e wc ⟨v2, rfl, own2, bel2⟩; refine stopP ?_) | go_skip | go_guarded | go_step | go_upon))
  refine hid ?_
  dsimp only
  obtain ⟨a2, l2, p2, rfl⟩ := own_slc own2
  have KC := blk_keep KB2.out bel2
  have cc := box_at KC (j := 12) (v := vH) (by rw [Array.getElem?_setIfInBounds_ne (by decide)]; exact X12)
  have fc := frz KC 12
  have KD := Go.heap_setCell_same wc w.heap.size 12 _ _ (.slice a2 l2 p2) KC
  obtain ⟨wd, hwd⟩ : ∃ v, wc.setCell ⟨w.heap.size, 12, none⟩ (.slice a2 l2 p2) = v := ⟨_, rfl⟩
  rw [hwd] at KD
  have BD := hid (show Below w.heap.size w wd by rw [← hwd]; exact (then_ BB.out bel2).setCell (Nat.le_refl _) _)
  have O1 := hid (show wd.ownsRow w2.heap.size 3 1 (.slice a1 l1 p1) x.path.length (fl eInt x.path) by rw [← hwd]; exact ownsRow_setCell_below (own_keep OB.out bel2) (show w.heap.size < w2.heap.size by omega) _)
  have O2 := hid (show wd.ownsRow wb.heap.size 91 2 (.slice a2 l2 p2) x.hops.length (fl eHp x.hops) by rw [← hwd]; exact ownsRow_setCell_below own2 (show w.heap.size < wb.heap.size by have := S2.out; omega) _)
  have Z4 := hid (show wd.heap[w1.heap.size]? = some (.cells zeroRt 62 (0, 0)) by rw [← hwd, Go.heap_setCell_other _ _ _ _ (by show w1.heap.size ≠ w.heap.size; omega)]; exact blk_keep Z3.out bel2)
  obtain ⟨Y, hY⟩ : ∃ Y, Y = (X.setIfInBounds 9 (.slice a1 l1 p1)).setIfInBounds 12 (.slice a2 l2 p2) := ⟨_, rfl⟩
  rw [← hY] at KD
  obtain ⟨y, hy⟩ : ∃ y : Rte, y = { x with vPath := .slice a1 l1 p1, vHops := .slice a2 l2 p2 } := ⟨_, rfl⟩
  have YV := hid (show Y = (eRte y).toArray by rw [hY, hX'.out, hy]; rfl)
  have hYs : Y.size = 14 := by rw [YV.out]; rfl
  have LY : Sem.run P (loadCellsFrom ⟨w.heap.size, 0, none⟩ 0 zRoute #[]) wd = .ok Y wd := ld_box P KD (by rw [ZR.out]; exact hYs)
  have YI := hid (show RteIn wd y by
    rw [hy]
    exact { pfxA := HXI.out.pfxA, path := ⟨rows_own O1.out, LP.out⟩, frmA := HXI.out.frmA, nextA := HXI.out.nextA, hops := ⟨rows_own O2.out, LH.out⟩, hopsA := HXI.out.hopsA })
  have Y1 := hid (show Y.all (·.oneCell') = true by rw [YV.out]; exact eRte_one YI.out)
  have LI := hid (show Like x y by rw [hy]; exact ⟨rfl, rfl, rfl, rfl, rfl, rfl, rfl, rfl, rfl, rfl, rfl, rfl, rfl⟩)
  clear c2 f12 KC KD own2 bel2 hY X12
  repeat' ((fail_if_success (with_reducible show Hid _)); (first | ((with_reducible show Oper.wp _ ⟨_, .store 62 _ _, _, _, _, _⟩ _ _ _ _); refine stopP ?_) | go_skip | go_guarded | go_step | go_upon))
  refine hid ?_
  refine wp_store_box (w := wd) 62 _ _ (by rfl) (g := w.heap.size + 1) (cur := zeroRt) (X := Y) (by rfl) (by rfl) (SZ hYs) (by rw [← s1]; exact Z4.out) (by rw [hYs]; rfl) Y1.out ?_
  intro we h1 h2 h3
  have BE := hid (BD.out.trans (h3 w.heap.size (Nat.le_succ _)))
  have OE1 := hid (own_same O1.out (by omega) h2)
  have OE2 := hid (own_same O2.out (by have := S2.out; omega) h2)
  have YE := hid (show RteOn w.heap.size we y from fun wz hz => { YI.out with
    path := by rw [hy]; exact ⟨rows_own (own_agree OE1.out (by omega) hz), LP.out⟩
    hops := by rw [hy]; exact ⟨rows_own (own_agree OE2.out (by have := S2.out; omega) hz), LH.out⟩ })
  clear LY h2 h3
  repeat' (first | go_skip | go_guarded | go_step | go_upon)
  (try simp only [Exit.inBlock, Exit.then])
  exact result_box (A := Y) (fn := Try.f36) (t := 62) (b := w.heap.size + 1) rfl rfl ag62 (SZ hYs) h1 rfl ⟨y, by rw [YV.out], LI.out, YE.out, BE.out⟩
end Go.Proofs.Ytlhbfpapmolohaa.Mw
