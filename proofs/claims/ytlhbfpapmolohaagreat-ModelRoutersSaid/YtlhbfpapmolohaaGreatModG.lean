/-
  THE CONTRACTS OF slices.EqualFunc AT EACH TYPE.
-/
import Derived.Test.YtlhbfpapmolohaaGreatModPa
import Derived.Test.YtlhbfpapmolohaaGreatProg
import Derived.Test.YtlhbfpapmolohaaGreatModP
import Derived.Test.YtlhbfpapmolohaaGreatModM
import Derived.Deep.LoopGhost
import Derived.Deep.WholeRow
import Derived.WalkKit
import Derived.WalkSpells
import Derived.IntWalk
namespace Go.Proofs.YtlhbfpapmolohaaGreat.Mw
set_option linter.unusedSimpArgs false
set_option linter.unusedVariables false
open Go.RowKit Kt Mm Mp



set_option maxHeartbeats 1000000 in
/-- slices.EqualFunc. -/
theorem eqfAcl (v1 v2 : Value) (l1 l2 : List Acl) (p : Acl → Acl → Bool) (g : Nat) (lb : Array Value) (eg : ∀ args w, (callFunc g args).run Tryz.prog w = .ok (.enter g args) w) (w : World) (hrow1 : IsRow eAcl 2 w v1 l1) (hl : l1.length ≤ 9223372036854775807) (hrow2 : IsRow eAcl 2 w v2 l2) (hl2 : l2.length ≤ 9223372036854775807)
    (h1 : ∀ x ∈ l1, (eAcl x).toArray.all (·.oneCell') = true) (h2 : ∀ x ∈ l2, (eAcl x).toArray.all (·.oneCell') = true)
    (hp : ∀ (W : World) (x y : Acl), x ∈ l1 → y ∈ l2 → Below w.heap.size w W → Calls Tryz.prog g (#[.agg (eAcl x).toArray, .agg (eAcl y).toArray] ++ lb) W fun e w' => e = .returned (.bool (p x y)) ∧ Below W.heap.size W w') :
    Calls Tryz.prog 55 #[v1, v2, .func (.func g) #[] lb] w fun e w' => e = .returned (.bool (eqBy p l1 l2)) ∧ Below w.heap.size w w' := by
  obtain ⟨a, cap, rfl, hcap, hcell⟩ := rows_open (z := 2) (by decide) hrow1
  obtain ⟨a2, cap2, rfl, hcap2, hcell2⟩ := rows_open (z := 2) (by decide) hrow2
  obtain ⟨n, hn⟩ : ∃ n, n = l1.length := ⟨_, rfl⟩
  obtain ⟨m, hm⟩ : ∃ m, m = l2.length := ⟨_, rfl⟩
  rw [← hn] at hl hcap hcell ⊢
  rw [← hm] at hl2 hcap2 hcell2 ⊢
  have N := hid hn
  have M := hid hm
  clear hn hrow1 hm hrow2
  by_cases hnm : n = m
  · subst hnm
    have L := hid (show l1.length = l2.length by rw [← N.out, ← M.out])
    obtain ⟨P, hP⟩ : ∃ P, P = Tryz.prog := ⟨_, rfl⟩
    obtain ⟨z, hz⟩ : ∃ z, z = 2 := ⟨_, rfl⟩
    have mixed : P.follows .mixedOrders = true := by rw [hP]; kernel_rfl
    have FG : P.funcs[55]? = some Tryz.f55 := by rw [hP]; exact Tryz.func55
    have ts0 := Tryz.underlying3
    have as0 := Tryz.isAgg3
    have zs0 := Tryz.sizeOf3
    have ts1 := Tryz.underlying4
    have as1 := Tryz.isAgg4
    have zs1 := Tryz.sizeOf4
    have tsl := Tryz.underlying25
    have asl := Tryz.isAgg25
    have zsl := Tryz.sizeOf25
    have ael := Tryz.isAgg70
    have zel := Tryz.sizeOf70
    rw [← hz] at zel
    rw [← hP] at ts0 as0 zs0 ts1 as1 zs1 tsl asl zsl ael zel eg hp ⊢
    obtain ⟨Z, hZ, hZs⟩ : ∃ Z : Array Value, (∀ w, (zeroValue 70).run P w = .ok (.agg Z) w) ∧ Z.size = z := ⟨_, by have h := Tryz.zeroValue70; rw [← hP] at h; exact h, by rw [hz]; rfl⟩
    have hinfo : (P.info? 70).map (·.size) = some z := by rw [hP, hz]; kernel_rfl
    clear hP
    go_enter FG, Tryz.ntmps55
    repeat (first | go_skip | go_guarded | go_step | go_upon)
    go_loopg [17] n (fun gg s17 wr => ∃ k : Nat, k ≤ n ∧ n - k ≤ gg ∧ s17 = .int .i64 k ∧ Aside (Below w.heap.size w wr) ∧ Aside (eqBy p l1 l2 = eqBy p (l1.drop k) (l2.drop k)))
    case atStart => exact ⟨0, Nat.zero_le _, by omega, rfl, Below.refl _ w, rfl⟩
    case round =>
      obtain ⟨k, hk, hg, rfl, BW, E⟩ := hrel
      by_cases hlt : k < n
      · have hlti : (k : Int) < (n : Int) := by omega
        obtain ⟨x, hx⟩ := get_some (l := l1) (k := k) (by have := N.out; omega)
        obtain ⟨y, hy⟩ := get_some (l := l2) (k := k) (by have := M.out; omega)
        obtain ⟨b, off, rfl, hb, hc⟩ := hcell (by omega)
        obtain ⟨b2, off2, rfl, hb2, hc2⟩ := hcell2 (by omega)
        have BS := hid (BW.out.size)
        have g1 : Sem.run P (loadCellsFrom ⟨b, off + k * 2, none⟩ 0 2 #[]) wr = .ok (eAcl x).toArray wr :=
          ld_row (f := eAcl) (z := 2) P (fun _ => rfl) (fun j u hj => (BW.out.cell (p := ⟨b, off + j, none⟩) hb).trans (hc j u hj)) hx
        have g2 : Sem.run P (loadCellsFrom ⟨b2, off2 + k * 2, none⟩ 0 2 #[]) (wr.alloc (.cells (eAcl x).toArray 70)) = .ok (eAcl y).toArray (wr.alloc (.cells (eAcl x).toArray 70)) :=
          ld_row (f := eAcl) (z := 2) P (fun _ => rfl) (fun j u hj => ((new_below wr _).cell (p := ⟨b2, off2 + j, none⟩) (Nat.lt_of_lt_of_le hb2 BS.out)).trans ((BW.out.cell (p := ⟨b2, off2 + j, none⟩) hb2).trans (hc2 j u hj))) hy
        rw [← hz] at g1 g2
        have onx := h1 x (get_mem hx)
        have ony := h2 y (get_mem hy)
        have sx : (eAcl x).toArray.size = z := by rw [hz]; rfl
        have sy : (eAcl y).toArray.size = z := by rw [hz]; rfl
        have hcall := hp ((wr.alloc (.cells (eAcl x).toArray 70)).alloc (.cells (eAcl y).toArray 70)) x y (get_mem hx) (get_mem hy) ((BW.out.alloc BW.out.size _).alloc (by have := BS.out; simp; omega) _)
        have D : Aside (eqBy p (l1.drop k) (l2.drop k) = (p x y && eqBy p (l1.drop (k + 1)) (l2.drop (k + 1)))) := by
          show _ = _
          rw [drop_get hx, drop_get hy]; rfl
        clear hp hc hcell hx hc2 hcell2 hy hz h1 h2 BS
        obtain ⟨X, hX⟩ : ∃ X, X = (eAcl x).toArray := ⟨_, rfl⟩
        obtain ⟨Y, hY⟩ : ∃ Y, Y = (eAcl y).toArray := ⟨_, rfl⟩
        rw [← hX] at g1 g2 hcall onx sx
        rw [← hY] at g2 hcall ony sy
        clear hX hY
        have st1 := run_storeCells_new (P := P) wr 70 Z X (by rw [sx]; exact hinfo) (by rw [hZs, sx]) onx
        have st2 := run_storeCells_new (P := P) (wr.alloc (.cells X 70)) 70 Z Y (by rw [sy]; exact hinfo) (by rw [hZs, sy]) ony
        have ld1 : Sem.run P (loadCellsFrom ⟨wr.heap.size, 0, none⟩ 0 z #[]) ((wr.alloc (.cells X 70)).alloc (.cells Y 70)) = .ok X ((wr.alloc (.cells X 70)).alloc (.cells Y 70)) :=
          ld_box P (T := 70) (by rw [Below.heap_alloc _ _ _ (by simp), heap_new]) sx
        have ld2 := run_loadCellsFrom_new (P := P) (wr.alloc (.cells X 70)) 70 Y z sy
        rw [new_size] at st2 ld2
        have BA : Aside (Below wr.heap.size wr ((wr.alloc (.cells X 70)).alloc (.cells Y 70))) := al2 _ _ _
        clear onx ony hinfo
        obtain ⟨q, hq⟩ : ∃ q, q = p x y := ⟨_, rfl⟩
        rw [← hq] at hcall
        have Q : Aside (q = p x y) := hq
        clear hq
        cases q with
        | true =>
          iterate 73 (first | go_skip | go_guarded | go_step | go_upon)
          refine wp_call_fn (g := g) (lb := lb) _ rfl _ rfl rfl [.agg X, .agg Y] rfl eg ?_
          refine hcall.mono ?_; rintro e w' ⟨rfl, hb'⟩; refine ⟨_, rfl, ?_⟩
          have B2 : Aside (Below wr.heap.size wr w') := then_ BA.out hb'
          clear hcall g1 g2 st1 st2 ld1 ld2 BA hb'
          repeat (first | go_skip | go_guarded | go_step | go_upon)
          go_roundg (n - (k + 1))
          case measure => omega
          case rel =>
            refine ⟨k + 1, by omega, by omega, by go_num, then_ BW.out B2.out, ?_⟩
            show _ = _
            rw [E.out, D.out, ← Q.out, Bool.true_and]
        | false =>
          iterate 73 (first | go_skip | go_guarded | go_step | go_upon)
          refine wp_call_fn (g := g) (lb := lb) _ rfl _ rfl rfl [.agg X, .agg Y] rfl eg ?_
          refine hcall.mono ?_; rintro e w' ⟨rfl, hb'⟩; refine ⟨_, rfl, ?_⟩
          have B2 : Aside (Below wr.heap.size wr w') := then_ BA.out hb'
          clear hcall g1 g2 st1 st2 ld1 ld2 BA hb'
          repeat (first | go_skip | go_guarded | go_step | go_upon)
          go_ret
          refine ⟨?_, then_ BW.out B2.out⟩
          rw [E.out, D.out, ← Q.out, Bool.false_and]
          rfl
      · have hlti : ¬ (k : Int) < (n : Int) := by omega
        have D : Aside (eqBy p l1 l2 = true) := by
          show _ = _
          rw [E.out, drop_end (l := l1) (by have := N.out; omega), drop_end (l := l2) (by have := M.out; omega)]
          rfl
        clear hp hcell hcell2
        repeat (first | go_skip | go_guarded | go_step | go_upon)
        go_ret
        exact ⟨ret_bool D.out.symm, BW.out⟩
  · have hnm' : ¬ (n : Int) = (m : Int) := by omega
    have D : Aside (eqBy p l1 l2 = false) := by
      show _ = _
      exact eqBy_len (by rw [← N.out, ← M.out]; exact hnm)
    clear hcell hcell2 hp
    go_enter Tryz.func55, Tryz.ntmps55
    repeat (first | go_skip | go_guarded | go_step | go_upon)
    go_ret
    exact ⟨ret_bool D.out.symm, Below.refl _ _⟩


set_option maxHeartbeats 1000000 in
/-- slices.EqualFunc. -/
theorem eqfPList (v1 v2 : Value) (l1 l2 : List PList) (p : PList → PList → Bool) (g : Nat) (lb : Array Value) (eg : ∀ args w, (callFunc g args).run Tryz.prog w = .ok (.enter g args) w) (w : World) (hrow1 : IsRow ePList 2 w v1 l1) (hl : l1.length ≤ 9223372036854775807) (hrow2 : IsRow ePList 2 w v2 l2) (hl2 : l2.length ≤ 9223372036854775807)
    (h1 : ∀ x ∈ l1, (ePList x).toArray.all (·.oneCell') = true) (h2 : ∀ x ∈ l2, (ePList x).toArray.all (·.oneCell') = true)
    (hp : ∀ (W : World) (x y : PList), x ∈ l1 → y ∈ l2 → Below w.heap.size w W → Calls Tryz.prog g (#[.agg (ePList x).toArray, .agg (ePList y).toArray] ++ lb) W fun e w' => e = .returned (.bool (p x y)) ∧ Below W.heap.size W w') :
    Calls Tryz.prog 51 #[v1, v2, .func (.func g) #[] lb] w fun e w' => e = .returned (.bool (eqBy p l1 l2)) ∧ Below w.heap.size w w' := by
  obtain ⟨a, cap, rfl, hcap, hcell⟩ := rows_open (z := 2) (by decide) hrow1
  obtain ⟨a2, cap2, rfl, hcap2, hcell2⟩ := rows_open (z := 2) (by decide) hrow2
  obtain ⟨n, hn⟩ : ∃ n, n = l1.length := ⟨_, rfl⟩
  obtain ⟨m, hm⟩ : ∃ m, m = l2.length := ⟨_, rfl⟩
  rw [← hn] at hl hcap hcell ⊢
  rw [← hm] at hl2 hcap2 hcell2 ⊢
  have N := hid hn
  have M := hid hm
  clear hn hrow1 hm hrow2
  by_cases hnm : n = m
  · subst hnm
    have L := hid (show l1.length = l2.length by rw [← N.out, ← M.out])
    obtain ⟨P, hP⟩ : ∃ P, P = Tryz.prog := ⟨_, rfl⟩
    obtain ⟨z, hz⟩ : ∃ z, z = 2 := ⟨_, rfl⟩
    have mixed : P.follows .mixedOrders = true := by rw [hP]; kernel_rfl
    have FG : P.funcs[51]? = some Tryz.f51 := by rw [hP]; exact Tryz.func51
    have ts0 := Tryz.underlying3
    have as0 := Tryz.isAgg3
    have zs0 := Tryz.sizeOf3
    have ts1 := Tryz.underlying4
    have as1 := Tryz.isAgg4
    have zs1 := Tryz.sizeOf4
    have tsl := Tryz.underlying23
    have asl := Tryz.isAgg23
    have zsl := Tryz.sizeOf23
    have ael := Tryz.isAgg64
    have zel := Tryz.sizeOf64
    rw [← hz] at zel
    rw [← hP] at ts0 as0 zs0 ts1 as1 zs1 tsl asl zsl ael zel eg hp ⊢
    obtain ⟨Z, hZ, hZs⟩ : ∃ Z : Array Value, (∀ w, (zeroValue 64).run P w = .ok (.agg Z) w) ∧ Z.size = z := ⟨_, by have h := Tryz.zeroValue64; rw [← hP] at h; exact h, by rw [hz]; rfl⟩
    have hinfo : (P.info? 64).map (·.size) = some z := by rw [hP, hz]; kernel_rfl
    clear hP
    go_enter FG, Tryz.ntmps51
    repeat (first | go_skip | go_guarded | go_step | go_upon)
    go_loopg [17] n (fun gg s17 wr => ∃ k : Nat, k ≤ n ∧ n - k ≤ gg ∧ s17 = .int .i64 k ∧ Aside (Below w.heap.size w wr) ∧ Aside (eqBy p l1 l2 = eqBy p (l1.drop k) (l2.drop k)))
    case atStart => exact ⟨0, Nat.zero_le _, by omega, rfl, Below.refl _ w, rfl⟩
    case round =>
      obtain ⟨k, hk, hg, rfl, BW, E⟩ := hrel
      by_cases hlt : k < n
      · have hlti : (k : Int) < (n : Int) := by omega
        obtain ⟨x, hx⟩ := get_some (l := l1) (k := k) (by have := N.out; omega)
        obtain ⟨y, hy⟩ := get_some (l := l2) (k := k) (by have := M.out; omega)
        obtain ⟨b, off, rfl, hb, hc⟩ := hcell (by omega)
        obtain ⟨b2, off2, rfl, hb2, hc2⟩ := hcell2 (by omega)
        have BS := hid (BW.out.size)
        have g1 : Sem.run P (loadCellsFrom ⟨b, off + k * 2, none⟩ 0 2 #[]) wr = .ok (ePList x).toArray wr :=
          ld_row (f := ePList) (z := 2) P (fun _ => rfl) (fun j u hj => (BW.out.cell (p := ⟨b, off + j, none⟩) hb).trans (hc j u hj)) hx
        have g2 : Sem.run P (loadCellsFrom ⟨b2, off2 + k * 2, none⟩ 0 2 #[]) (wr.alloc (.cells (ePList x).toArray 64)) = .ok (ePList y).toArray (wr.alloc (.cells (ePList x).toArray 64)) :=
          ld_row (f := ePList) (z := 2) P (fun _ => rfl) (fun j u hj => ((new_below wr _).cell (p := ⟨b2, off2 + j, none⟩) (Nat.lt_of_lt_of_le hb2 BS.out)).trans ((BW.out.cell (p := ⟨b2, off2 + j, none⟩) hb2).trans (hc2 j u hj))) hy
        rw [← hz] at g1 g2
        have onx := h1 x (get_mem hx)
        have ony := h2 y (get_mem hy)
        have sx : (ePList x).toArray.size = z := by rw [hz]; rfl
        have sy : (ePList y).toArray.size = z := by rw [hz]; rfl
        have hcall := hp ((wr.alloc (.cells (ePList x).toArray 64)).alloc (.cells (ePList y).toArray 64)) x y (get_mem hx) (get_mem hy) ((BW.out.alloc BW.out.size _).alloc (by have := BS.out; simp; omega) _)
        have D : Aside (eqBy p (l1.drop k) (l2.drop k) = (p x y && eqBy p (l1.drop (k + 1)) (l2.drop (k + 1)))) := by
          show _ = _
          rw [drop_get hx, drop_get hy]; rfl
        clear hp hc hcell hx hc2 hcell2 hy hz h1 h2 BS
        obtain ⟨X, hX⟩ : ∃ X, X = (ePList x).toArray := ⟨_, rfl⟩
        obtain ⟨Y, hY⟩ : ∃ Y, Y = (ePList y).toArray := ⟨_, rfl⟩
        rw [← hX] at g1 g2 hcall onx sx
        rw [← hY] at g2 hcall ony sy
        clear hX hY
        have st1 := run_storeCells_new (P := P) wr 64 Z X (by rw [sx]; exact hinfo) (by rw [hZs, sx]) onx
        have st2 := run_storeCells_new (P := P) (wr.alloc (.cells X 64)) 64 Z Y (by rw [sy]; exact hinfo) (by rw [hZs, sy]) ony
        have ld1 : Sem.run P (loadCellsFrom ⟨wr.heap.size, 0, none⟩ 0 z #[]) ((wr.alloc (.cells X 64)).alloc (.cells Y 64)) = .ok X ((wr.alloc (.cells X 64)).alloc (.cells Y 64)) :=
          ld_box P (T := 64) (by rw [Below.heap_alloc _ _ _ (by simp), heap_new]) sx
        have ld2 := run_loadCellsFrom_new (P := P) (wr.alloc (.cells X 64)) 64 Y z sy
        rw [new_size] at st2 ld2
        have BA : Aside (Below wr.heap.size wr ((wr.alloc (.cells X 64)).alloc (.cells Y 64))) := al2 _ _ _
        clear onx ony hinfo
        obtain ⟨q, hq⟩ : ∃ q, q = p x y := ⟨_, rfl⟩
        rw [← hq] at hcall
        have Q : Aside (q = p x y) := hq
        clear hq
        cases q with
        | true =>
          iterate 73 (first | go_skip | go_guarded | go_step | go_upon)
          refine wp_call_fn (g := g) (lb := lb) _ rfl _ rfl rfl [.agg X, .agg Y] rfl eg ?_
          refine hcall.mono ?_; rintro e w' ⟨rfl, hb'⟩; refine ⟨_, rfl, ?_⟩
          have B2 : Aside (Below wr.heap.size wr w') := then_ BA.out hb'
          clear hcall g1 g2 st1 st2 ld1 ld2 BA hb'
          repeat (first | go_skip | go_guarded | go_step | go_upon)
          go_roundg (n - (k + 1))
          case measure => omega
          case rel =>
            refine ⟨k + 1, by omega, by omega, by go_num, then_ BW.out B2.out, ?_⟩
            show _ = _
            rw [E.out, D.out, ← Q.out, Bool.true_and]
        | false =>
          iterate 73 (first | go_skip | go_guarded | go_step | go_upon)
          refine wp_call_fn (g := g) (lb := lb) _ rfl _ rfl rfl [.agg X, .agg Y] rfl eg ?_
          refine hcall.mono ?_; rintro e w' ⟨rfl, hb'⟩; refine ⟨_, rfl, ?_⟩
          have B2 : Aside (Below wr.heap.size wr w') := then_ BA.out hb'
          clear hcall g1 g2 st1 st2 ld1 ld2 BA hb'
          repeat (first | go_skip | go_guarded | go_step | go_upon)
          go_ret
          refine ⟨?_, then_ BW.out B2.out⟩
          rw [E.out, D.out, ← Q.out, Bool.false_and]
          rfl
      · have hlti : ¬ (k : Int) < (n : Int) := by omega
        have D : Aside (eqBy p l1 l2 = true) := by
          show _ = _
          rw [E.out, drop_end (l := l1) (by have := N.out; omega), drop_end (l := l2) (by have := M.out; omega)]
          rfl
        clear hp hcell hcell2
        repeat (first | go_skip | go_guarded | go_step | go_upon)
        go_ret
        exact ⟨ret_bool D.out.symm, BW.out⟩
  · have hnm' : ¬ (n : Int) = (m : Int) := by omega
    have D : Aside (eqBy p l1 l2 = false) := by
      show _ = _
      exact eqBy_len (by rw [← N.out, ← M.out]; exact hnm)
    clear hcell hcell2 hp
    go_enter Tryz.func51, Tryz.ntmps51
    repeat (first | go_skip | go_guarded | go_step | go_upon)
    go_ret
    exact ⟨ret_bool D.out.symm, Below.refl _ _⟩


set_option maxHeartbeats 1000000 in
/-- slices.EqualFunc. -/
theorem eqfRMap (v1 v2 : Value) (l1 l2 : List RMap) (p : RMap → RMap → Bool) (g : Nat) (lb : Array Value) (eg : ∀ args w, (callFunc g args).run Tryz.prog w = .ok (.enter g args) w) (w : World) (hrow1 : IsRow eRMap 2 w v1 l1) (hl : l1.length ≤ 9223372036854775807) (hrow2 : IsRow eRMap 2 w v2 l2) (hl2 : l2.length ≤ 9223372036854775807)
    (h1 : ∀ x ∈ l1, (eRMap x).toArray.all (·.oneCell') = true) (h2 : ∀ x ∈ l2, (eRMap x).toArray.all (·.oneCell') = true)
    (hp : ∀ (W : World) (x y : RMap), x ∈ l1 → y ∈ l2 → Below w.heap.size w W → Calls Tryz.prog g (#[.agg (eRMap x).toArray, .agg (eRMap y).toArray] ++ lb) W fun e w' => e = .returned (.bool (p x y)) ∧ Below W.heap.size W w') :
    Calls Tryz.prog 53 #[v1, v2, .func (.func g) #[] lb] w fun e w' => e = .returned (.bool (eqBy p l1 l2)) ∧ Below w.heap.size w w' := by
  obtain ⟨a, cap, rfl, hcap, hcell⟩ := rows_open (z := 2) (by decide) hrow1
  obtain ⟨a2, cap2, rfl, hcap2, hcell2⟩ := rows_open (z := 2) (by decide) hrow2
  obtain ⟨n, hn⟩ : ∃ n, n = l1.length := ⟨_, rfl⟩
  obtain ⟨m, hm⟩ : ∃ m, m = l2.length := ⟨_, rfl⟩
  rw [← hn] at hl hcap hcell ⊢
  rw [← hm] at hl2 hcap2 hcell2 ⊢
  have N := hid hn
  have M := hid hm
  clear hn hrow1 hm hrow2
  by_cases hnm : n = m
  · subst hnm
    have L := hid (show l1.length = l2.length by rw [← N.out, ← M.out])
    obtain ⟨P, hP⟩ : ∃ P, P = Tryz.prog := ⟨_, rfl⟩
    obtain ⟨z, hz⟩ : ∃ z, z = 2 := ⟨_, rfl⟩
    have mixed : P.follows .mixedOrders = true := by rw [hP]; kernel_rfl
    have FG : P.funcs[53]? = some Tryz.f53 := by rw [hP]; exact Tryz.func53
    have ts0 := Tryz.underlying3
    have as0 := Tryz.isAgg3
    have zs0 := Tryz.sizeOf3
    have ts1 := Tryz.underlying4
    have as1 := Tryz.isAgg4
    have zs1 := Tryz.sizeOf4
    have tsl := Tryz.underlying24
    have asl := Tryz.isAgg24
    have zsl := Tryz.sizeOf24
    have ael := Tryz.isAgg67
    have zel := Tryz.sizeOf67
    rw [← hz] at zel
    rw [← hP] at ts0 as0 zs0 ts1 as1 zs1 tsl asl zsl ael zel eg hp ⊢
    obtain ⟨Z, hZ, hZs⟩ : ∃ Z : Array Value, (∀ w, (zeroValue 67).run P w = .ok (.agg Z) w) ∧ Z.size = z := ⟨_, by have h := Tryz.zeroValue67; rw [← hP] at h; exact h, by rw [hz]; rfl⟩
    have hinfo : (P.info? 67).map (·.size) = some z := by rw [hP, hz]; kernel_rfl
    clear hP
    go_enter FG, Tryz.ntmps53
    repeat (first | go_skip | go_guarded | go_step | go_upon)
    go_loopg [17] n (fun gg s17 wr => ∃ k : Nat, k ≤ n ∧ n - k ≤ gg ∧ s17 = .int .i64 k ∧ Aside (Below w.heap.size w wr) ∧ Aside (eqBy p l1 l2 = eqBy p (l1.drop k) (l2.drop k)))
    case atStart => exact ⟨0, Nat.zero_le _, by omega, rfl, Below.refl _ w, rfl⟩
    case round =>
      obtain ⟨k, hk, hg, rfl, BW, E⟩ := hrel
      by_cases hlt : k < n
      · have hlti : (k : Int) < (n : Int) := by omega
        obtain ⟨x, hx⟩ := get_some (l := l1) (k := k) (by have := N.out; omega)
        obtain ⟨y, hy⟩ := get_some (l := l2) (k := k) (by have := M.out; omega)
        obtain ⟨b, off, rfl, hb, hc⟩ := hcell (by omega)
        obtain ⟨b2, off2, rfl, hb2, hc2⟩ := hcell2 (by omega)
        have BS := hid (BW.out.size)
        have g1 : Sem.run P (loadCellsFrom ⟨b, off + k * 2, none⟩ 0 2 #[]) wr = .ok (eRMap x).toArray wr :=
          ld_row (f := eRMap) (z := 2) P (fun _ => rfl) (fun j u hj => (BW.out.cell (p := ⟨b, off + j, none⟩) hb).trans (hc j u hj)) hx
        have g2 : Sem.run P (loadCellsFrom ⟨b2, off2 + k * 2, none⟩ 0 2 #[]) (wr.alloc (.cells (eRMap x).toArray 67)) = .ok (eRMap y).toArray (wr.alloc (.cells (eRMap x).toArray 67)) :=
          ld_row (f := eRMap) (z := 2) P (fun _ => rfl) (fun j u hj => ((new_below wr _).cell (p := ⟨b2, off2 + j, none⟩) (Nat.lt_of_lt_of_le hb2 BS.out)).trans ((BW.out.cell (p := ⟨b2, off2 + j, none⟩) hb2).trans (hc2 j u hj))) hy
        rw [← hz] at g1 g2
        have onx := h1 x (get_mem hx)
        have ony := h2 y (get_mem hy)
        have sx : (eRMap x).toArray.size = z := by rw [hz]; rfl
        have sy : (eRMap y).toArray.size = z := by rw [hz]; rfl
        have hcall := hp ((wr.alloc (.cells (eRMap x).toArray 67)).alloc (.cells (eRMap y).toArray 67)) x y (get_mem hx) (get_mem hy) ((BW.out.alloc BW.out.size _).alloc (by have := BS.out; simp; omega) _)
        have D : Aside (eqBy p (l1.drop k) (l2.drop k) = (p x y && eqBy p (l1.drop (k + 1)) (l2.drop (k + 1)))) := by
          show _ = _
          rw [drop_get hx, drop_get hy]; rfl
        clear hp hc hcell hx hc2 hcell2 hy hz h1 h2 BS
        obtain ⟨X, hX⟩ : ∃ X, X = (eRMap x).toArray := ⟨_, rfl⟩
        obtain ⟨Y, hY⟩ : ∃ Y, Y = (eRMap y).toArray := ⟨_, rfl⟩
        rw [← hX] at g1 g2 hcall onx sx
        rw [← hY] at g2 hcall ony sy
        clear hX hY
        have st1 := run_storeCells_new (P := P) wr 67 Z X (by rw [sx]; exact hinfo) (by rw [hZs, sx]) onx
        have st2 := run_storeCells_new (P := P) (wr.alloc (.cells X 67)) 67 Z Y (by rw [sy]; exact hinfo) (by rw [hZs, sy]) ony
        have ld1 : Sem.run P (loadCellsFrom ⟨wr.heap.size, 0, none⟩ 0 z #[]) ((wr.alloc (.cells X 67)).alloc (.cells Y 67)) = .ok X ((wr.alloc (.cells X 67)).alloc (.cells Y 67)) :=
          ld_box P (T := 67) (by rw [Below.heap_alloc _ _ _ (by simp), heap_new]) sx
        have ld2 := run_loadCellsFrom_new (P := P) (wr.alloc (.cells X 67)) 67 Y z sy
        rw [new_size] at st2 ld2
        have BA : Aside (Below wr.heap.size wr ((wr.alloc (.cells X 67)).alloc (.cells Y 67))) := al2 _ _ _
        clear onx ony hinfo
        obtain ⟨q, hq⟩ : ∃ q, q = p x y := ⟨_, rfl⟩
        rw [← hq] at hcall
        have Q : Aside (q = p x y) := hq
        clear hq
        cases q with
        | true =>
          iterate 73 (first | go_skip | go_guarded | go_step | go_upon)
          refine wp_call_fn (g := g) (lb := lb) _ rfl _ rfl rfl [.agg X, .agg Y] rfl eg ?_
          refine hcall.mono ?_; rintro e w' ⟨rfl, hb'⟩; refine ⟨_, rfl, ?_⟩
          have B2 : Aside (Below wr.heap.size wr w') := then_ BA.out hb'
          clear hcall g1 g2 st1 st2 ld1 ld2 BA hb'
          repeat (first | go_skip | go_guarded | go_step | go_upon)
          go_roundg (n - (k + 1))
          case measure => omega
          case rel =>
            refine ⟨k + 1, by omega, by omega, by go_num, then_ BW.out B2.out, ?_⟩
            show _ = _
            rw [E.out, D.out, ← Q.out, Bool.true_and]
        | false =>
          iterate 73 (first | go_skip | go_guarded | go_step | go_upon)
          refine wp_call_fn (g := g) (lb := lb) _ rfl _ rfl rfl [.agg X, .agg Y] rfl eg ?_
          refine hcall.mono ?_; rintro e w' ⟨rfl, hb'⟩; refine ⟨_, rfl, ?_⟩
          have B2 : Aside (Below wr.heap.size wr w') := then_ BA.out hb'
          clear hcall g1 g2 st1 st2 ld1 ld2 BA hb'
          repeat (first | go_skip | go_guarded | go_step | go_upon)
          go_ret
          refine ⟨?_, then_ BW.out B2.out⟩
          rw [E.out, D.out, ← Q.out, Bool.false_and]
          rfl
      · have hlti : ¬ (k : Int) < (n : Int) := by omega
        have D : Aside (eqBy p l1 l2 = true) := by
          show _ = _
          rw [E.out, drop_end (l := l1) (by have := N.out; omega), drop_end (l := l2) (by have := M.out; omega)]
          rfl
        clear hp hcell hcell2
        repeat (first | go_skip | go_guarded | go_step | go_upon)
        go_ret
        exact ⟨ret_bool D.out.symm, BW.out⟩
  · have hnm' : ¬ (n : Int) = (m : Int) := by omega
    have D : Aside (eqBy p l1 l2 = false) := by
      show _ = _
      exact eqBy_len (by rw [← N.out, ← M.out]; exact hnm)
    clear hcell hcell2 hp
    go_enter Tryz.func53, Tryz.ntmps53
    repeat (first | go_skip | go_guarded | go_step | go_upon)
    go_ret
    exact ⟨ret_bool D.out.symm, Below.refl _ _⟩


set_option maxHeartbeats 1000000 in
/-- slices.EqualFunc. -/
theorem eqfRtr (v1 v2 : Value) (l1 l2 : List Rtr) (p : Rtr → Rtr → Bool) (g : Nat) (lb : Array Value) (eg : ∀ args w, (callFunc g args).run Tryz.prog w = .ok (.enter g args) w) (w : World) (hrow1 : IsRow eRtr 25 w v1 l1) (hl : l1.length ≤ 9223372036854775807) (hrow2 : IsRow eRtr 25 w v2 l2) (hl2 : l2.length ≤ 9223372036854775807)
    (h1 : ∀ x ∈ l1, (eRtr x).toArray.all (·.oneCell') = true) (h2 : ∀ x ∈ l2, (eRtr x).toArray.all (·.oneCell') = true)
    (hp : ∀ (W : World) (x y : Rtr), x ∈ l1 → y ∈ l2 → Below w.heap.size w W → Calls Tryz.prog g (#[.agg (eRtr x).toArray, .agg (eRtr y).toArray] ++ lb) W fun e w' => e = .returned (.bool (p x y)) ∧ Below W.heap.size W w') :
    Calls Tryz.prog 62 #[v1, v2, .func (.func g) #[] lb] w fun e w' => e = .returned (.bool (eqBy p l1 l2)) ∧ Below w.heap.size w w' := by
  obtain ⟨a, cap, rfl, hcap, hcell⟩ := rows_open (z := 25) (by decide) hrow1
  obtain ⟨a2, cap2, rfl, hcap2, hcell2⟩ := rows_open (z := 25) (by decide) hrow2
  obtain ⟨n, hn⟩ : ∃ n, n = l1.length := ⟨_, rfl⟩
  obtain ⟨m, hm⟩ : ∃ m, m = l2.length := ⟨_, rfl⟩
  rw [← hn] at hl hcap hcell ⊢
  rw [← hm] at hl2 hcap2 hcell2 ⊢
  have N := hid hn
  have M := hid hm
  clear hn hrow1 hm hrow2
  by_cases hnm : n = m
  · subst hnm
    have L := hid (show l1.length = l2.length by rw [← N.out, ← M.out])
    obtain ⟨P, hP⟩ : ∃ P, P = Tryz.prog := ⟨_, rfl⟩
    obtain ⟨z, hz⟩ : ∃ z, z = 25 := ⟨_, rfl⟩
    have mixed : P.follows .mixedOrders = true := by rw [hP]; kernel_rfl
    have FG : P.funcs[62]? = some Tryz.f62 := by rw [hP]; exact Tryz.func62
    have ts0 := Tryz.underlying3
    have as0 := Tryz.isAgg3
    have zs0 := Tryz.sizeOf3
    have ts1 := Tryz.underlying4
    have as1 := Tryz.isAgg4
    have zs1 := Tryz.sizeOf4
    have tsl := Tryz.underlying46
    have asl := Tryz.isAgg46
    have zsl := Tryz.sizeOf46
    have ael := Tryz.isAgg41
    have zel := Tryz.sizeOf41
    rw [← hz] at zel
    rw [← hP] at ts0 as0 zs0 ts1 as1 zs1 tsl asl zsl ael zel eg hp ⊢
    obtain ⟨Z, hZ, hZs⟩ : ∃ Z : Array Value, (∀ w, (zeroValue 41).run P w = .ok (.agg Z) w) ∧ Z.size = z := ⟨_, by have h := Tryz.zeroValue41; rw [← hP] at h; exact h, by rw [hz]; rfl⟩
    have hinfo : (P.info? 41).map (·.size) = some z := by rw [hP, hz]; kernel_rfl
    clear hP
    go_enter FG, Tryz.ntmps62
    repeat (first | go_skip | go_guarded | go_step | go_upon)
    go_loopg [17] n (fun gg s17 wr => ∃ k : Nat, k ≤ n ∧ n - k ≤ gg ∧ s17 = .int .i64 k ∧ Aside (Below w.heap.size w wr) ∧ Aside (eqBy p l1 l2 = eqBy p (l1.drop k) (l2.drop k)))
    case atStart => exact ⟨0, Nat.zero_le _, by omega, rfl, Below.refl _ w, rfl⟩
    case round =>
      obtain ⟨k, hk, hg, rfl, BW, E⟩ := hrel
      by_cases hlt : k < n
      · have hlti : (k : Int) < (n : Int) := by omega
        obtain ⟨x, hx⟩ := get_some (l := l1) (k := k) (by have := N.out; omega)
        obtain ⟨y, hy⟩ := get_some (l := l2) (k := k) (by have := M.out; omega)
        obtain ⟨b, off, rfl, hb, hc⟩ := hcell (by omega)
        obtain ⟨b2, off2, rfl, hb2, hc2⟩ := hcell2 (by omega)
        have BS := hid (BW.out.size)
        have g1 : Sem.run P (loadCellsFrom ⟨b, off + k * 25, none⟩ 0 25 #[]) wr = .ok (eRtr x).toArray wr :=
          ld_row (f := eRtr) (z := 25) P (fun _ => rfl) (fun j u hj => (BW.out.cell (p := ⟨b, off + j, none⟩) hb).trans (hc j u hj)) hx
        have g2 : Sem.run P (loadCellsFrom ⟨b2, off2 + k * 25, none⟩ 0 25 #[]) (wr.alloc (.cells (eRtr x).toArray 41)) = .ok (eRtr y).toArray (wr.alloc (.cells (eRtr x).toArray 41)) :=
          ld_row (f := eRtr) (z := 25) P (fun _ => rfl) (fun j u hj => ((new_below wr _).cell (p := ⟨b2, off2 + j, none⟩) (Nat.lt_of_lt_of_le hb2 BS.out)).trans ((BW.out.cell (p := ⟨b2, off2 + j, none⟩) hb2).trans (hc2 j u hj))) hy
        rw [← hz] at g1 g2
        have onx := h1 x (get_mem hx)
        have ony := h2 y (get_mem hy)
        have sx : (eRtr x).toArray.size = z := by rw [hz]; rfl
        have sy : (eRtr y).toArray.size = z := by rw [hz]; rfl
        have hcall := hp ((wr.alloc (.cells (eRtr x).toArray 41)).alloc (.cells (eRtr y).toArray 41)) x y (get_mem hx) (get_mem hy) ((BW.out.alloc BW.out.size _).alloc (by have := BS.out; simp; omega) _)
        have D : Aside (eqBy p (l1.drop k) (l2.drop k) = (p x y && eqBy p (l1.drop (k + 1)) (l2.drop (k + 1)))) := by
          show _ = _
          rw [drop_get hx, drop_get hy]; rfl
        clear hp hc hcell hx hc2 hcell2 hy hz h1 h2 BS
        obtain ⟨X, hX⟩ : ∃ X, X = (eRtr x).toArray := ⟨_, rfl⟩
        obtain ⟨Y, hY⟩ : ∃ Y, Y = (eRtr y).toArray := ⟨_, rfl⟩
        rw [← hX] at g1 g2 hcall onx sx
        rw [← hY] at g2 hcall ony sy
        clear hX hY
        have st1 := run_storeCells_new (P := P) wr 41 Z X (by rw [sx]; exact hinfo) (by rw [hZs, sx]) onx
        have st2 := run_storeCells_new (P := P) (wr.alloc (.cells X 41)) 41 Z Y (by rw [sy]; exact hinfo) (by rw [hZs, sy]) ony
        have ld1 : Sem.run P (loadCellsFrom ⟨wr.heap.size, 0, none⟩ 0 z #[]) ((wr.alloc (.cells X 41)).alloc (.cells Y 41)) = .ok X ((wr.alloc (.cells X 41)).alloc (.cells Y 41)) :=
          ld_box P (T := 41) (by rw [Below.heap_alloc _ _ _ (by simp), heap_new]) sx
        have ld2 := run_loadCellsFrom_new (P := P) (wr.alloc (.cells X 41)) 41 Y z sy
        rw [new_size] at st2 ld2
        have BA : Aside (Below wr.heap.size wr ((wr.alloc (.cells X 41)).alloc (.cells Y 41))) := al2 _ _ _
        clear onx ony hinfo
        obtain ⟨q, hq⟩ : ∃ q, q = p x y := ⟨_, rfl⟩
        rw [← hq] at hcall
        have Q : Aside (q = p x y) := hq
        clear hq
        cases q with
        | true =>
          iterate 73 (first | go_skip | go_guarded | go_step | go_upon)
          refine wp_call_fn (g := g) (lb := lb) _ rfl _ rfl rfl [.agg X, .agg Y] rfl eg ?_
          refine hcall.mono ?_; rintro e w' ⟨rfl, hb'⟩; refine ⟨_, rfl, ?_⟩
          have B2 : Aside (Below wr.heap.size wr w') := then_ BA.out hb'
          clear hcall g1 g2 st1 st2 ld1 ld2 BA hb'
          repeat (first | go_skip | go_guarded | go_step | go_upon)
          go_roundg (n - (k + 1))
          case measure => omega
          case rel =>
            refine ⟨k + 1, by omega, by omega, by go_num, then_ BW.out B2.out, ?_⟩
            show _ = _
            rw [E.out, D.out, ← Q.out, Bool.true_and]
        | false =>
          iterate 73 (first | go_skip | go_guarded | go_step | go_upon)
          refine wp_call_fn (g := g) (lb := lb) _ rfl _ rfl rfl [.agg X, .agg Y] rfl eg ?_
          refine hcall.mono ?_; rintro e w' ⟨rfl, hb'⟩; refine ⟨_, rfl, ?_⟩
          have B2 : Aside (Below wr.heap.size wr w') := then_ BA.out hb'
          clear hcall g1 g2 st1 st2 ld1 ld2 BA hb'
          repeat (first | go_skip | go_guarded | go_step | go_upon)
          go_ret
          refine ⟨?_, then_ BW.out B2.out⟩
          rw [E.out, D.out, ← Q.out, Bool.false_and]
          rfl
      · have hlti : ¬ (k : Int) < (n : Int) := by omega
        have D : Aside (eqBy p l1 l2 = true) := by
          show _ = _
          rw [E.out, drop_end (l := l1) (by have := N.out; omega), drop_end (l := l2) (by have := M.out; omega)]
          rfl
        clear hp hcell hcell2
        repeat (first | go_skip | go_guarded | go_step | go_upon)
        go_ret
        exact ⟨ret_bool D.out.symm, BW.out⟩
  · have hnm' : ¬ (n : Int) = (m : Int) := by omega
    have D : Aside (eqBy p l1 l2 = false) := by
      show _ = _
      exact eqBy_len (by rw [← N.out, ← M.out]; exact hnm)
    clear hcell hcell2 hp
    go_enter Tryz.func62, Tryz.ntmps62
    repeat (first | go_skip | go_guarded | go_step | go_upon)
    go_ret
    exact ⟨ret_bool D.out.symm, Below.refl _ _⟩

end Go.Proofs.YtlhbfpapmolohaaGreat.Mw
