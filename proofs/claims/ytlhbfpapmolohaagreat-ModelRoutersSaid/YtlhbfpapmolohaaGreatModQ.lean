/-
  THE CONTRACTS OF slices.Equal AT EACH TYPE.
-/
import Derived.Test.YtlhbfpapmolohaaGreatModE
import Derived.Test.YtlhbfpapmolohaaGreatModM
import Derived.Deep.LoopGhost
import Derived.Deep.WholeRow
import Derived.WalkKit
import Derived.WalkSpells
import Derived.IntWalk
import Derived.Shelf.RegionOpenPlain
import Derived.Deep.Draws
import Derived.BigQuiet
import Derived.Deep.QuietTactic
namespace Go.Proofs.YtlhbfpapmolohaaGreat.Mw
set_option linter.unusedSimpArgs false
set_option linter.unusedVariables false
open Go.RowKit Kt Mm Mp



set_option maxHeartbeats 1000000 in
set_option maxRecDepth 100000 in
/-- slices.Equal. -/
theorem eqIfc (v1 v2 : Value) (l1 l2 : List Ifc) (w : World) (hrow1 : IsRow eIfc 12 w v1 l1) (hl : l1.length ≤ 9223372036854775807) (hrow2 : IsRow eIfc 12 w v2 l2) (hl2 : l2.length ≤ 9223372036854775807) :
    Calls Tryz.prog 50 #[v1, v2] w fun e w' => e = .returned (.bool (decide (l1 = l2))) ∧ Below w.heap.size w w' := by
  obtain ⟨a, cap, rfl, hcap, hcell⟩ := rows_open (z := 12) (by decide) hrow1
  obtain ⟨a2, cap2, rfl, hcap2, hcell2⟩ := rows_open (z := 12) (by decide) hrow2
  obtain ⟨n, hn⟩ : ∃ n, n = l1.length := ⟨_, rfl⟩
  obtain ⟨m, hm⟩ : ∃ m, m = l2.length := ⟨_, rfl⟩
  rw [← hn] at hl hcap hcell ⊢
  rw [← hm] at hl2 hcap2 hcell2 ⊢
  have N := hid hn
  have M := hid hm
  clear hn hrow1 hm hrow2
  by_cases hnm : n = m
  · subst hnm
    obtain ⟨P, hP⟩ : ∃ P, P = Tryz.prog := ⟨_, rfl⟩
    obtain ⟨z, hz⟩ : ∃ z, z = 12 := ⟨_, rfl⟩
    have mixed : P.follows .mixedOrders = true := by rw [hP]; kernel_rfl
    have FG : P.funcs[50]? = some Tryz.f50 := by rw [hP]; exact Tryz.func50
    have ts0 := Tryz.underlying3
    have as0 := Tryz.isAgg3
    have zs0 := Tryz.sizeOf3
    have ts1 := Tryz.underlying4
    have as1 := Tryz.isAgg4
    have zs1 := Tryz.sizeOf4
    have tsl := Tryz.underlying22
    have asl := Tryz.isAgg22
    have zsl := Tryz.sizeOf22
    have ael := Tryz.isAgg53
    have zel := Tryz.sizeOf53
    rw [← hz] at zel
    rw [← hP] at ts0 as0 zs0 ts1 as1 zs1 tsl asl zsl ael zel ⊢
    have heq : ∀ (x y : Ifc) (w : World), (Op.equalIn 10000 53 (.agg (eIfc x).toArray) (.agg (eIfc y).toArray)).run P w = .ok (decide (x = y)) w := by rw [hP]; exact fun x y w => eqInIfc 9998 x y w
    have hgd : ∀ (op : BinOp) (a b : Operand) (X Y : Array Value) (w : World), (eqGuard op 53 a b (.agg X) (.agg Y)).run P w = .ok () w := fun op a b X Y w => run_eqGuard_agg w op _ a b X Y (by rw [hP]; kernel_rfl)
    clear hP
    go_enter FG, Tryz.ntmps50
    repeat (first | go_skip | go_guarded | go_step | go_upon)
    go_loopg [13] n (fun gg s13 wr => ∃ k q : Nat, k ≤ n ∧ n - k ≤ gg ∧ s13 = .int .i64 k ∧ wr = w.drewN q ∧ Aside (decide (l1 = l2) = decide (l1.drop k = l2.drop k)))
    case atStart => exact ⟨0, 0, Nat.zero_le _, by omega, rfl, rfl, rfl⟩
    case round =>
      obtain ⟨k, q, hk, hg, rfl, rfl, E⟩ := hrel
      by_cases hlt : k < n
      · have hlti : (k : Int) < (n : Int) := by omega
        obtain ⟨x, hx⟩ := get_some (l := l1) (k := k) (by have := N.out; omega)
        obtain ⟨y, hy⟩ := get_some (l := l2) (k := k) (by have := M.out; omega)
        obtain ⟨b, off, rfl, hb, hc⟩ := hcell (by omega)
        obtain ⟨b2, off2, rfl, hb2, hc2⟩ := hcell2 (by omega)
        have g1 : ∀ j, Sem.run P (loadCellsFrom ⟨b, off + k * 12, none⟩ 0 12 #[]) ((w.drewN q).drewN j) = .ok (eIfc x).toArray ((w.drewN q).drewN j) := fun j =>
          ld_row (f := eIfc) (z := 12) P (fun _ => rfl) (fun j u hj => by rw [World.drewN_drewN, World.cell?_drewN]; exact hc j u hj) hx
        have g2 : ∀ j, Sem.run P (loadCellsFrom ⟨b2, off2 + k * 12, none⟩ 0 12 #[]) ((w.drewN q).drewN j) = .ok (eIfc y).toArray ((w.drewN q).drewN j) := fun j =>
          ld_row (f := eIfc) (z := 12) P (fun _ => rfl) (fun j u hj => by rw [World.drewN_drewN, World.cell?_drewN]; exact hc2 j u hj) hy
        rw [← hz] at g1 g2
        have D : Aside (decide (l1.drop k = l2.drop k) = (decide (x = y) && decide (l1.drop (k + 1) = l2.drop (k + 1)))) := by
          show _ = _
          rw [drop_get hx, drop_get hy]; exact cons_dec _ _ _ _
        have he := fun w => heq x y w
        clear hc hcell hx hc2 hcell2 hy hz heq
        generalize hX : (eIfc x).toArray = X at g1 he
        generalize hY : (eIfc y).toArray = Y at g2 he
        clear hX hY
        generalize hwq : w.drewN q = wq at g1 g2 ⊢
        cases hxy : decide (x = y) with
        | true =>
          rw [hxy] at he
          have D2 : Aside (decide (l1 = l2) = decide (l1.drop (k + 1) = l2.drop (k + 1))) := by show _ = _; rw [E.out, D.out, hxy, Bool.true_and]
          clear hxy D
          go_wp2_with fail
          go_quiet_o (fail)
          repeat (first | go_skip | go_guarded | go_step | go_upon)
          go_roundg (n - (k + 1))
          case measure => omega
          case rel => exact ⟨k + 1, q + nq, by omega, by omega, by go_num, by rw [← hwq, World.drewN_drewN], D2.out⟩
        | false =>
          rw [hxy] at he
          have D2 : Aside (decide (l1 = l2) = false) := by show _ = _; rw [E.out, D.out, hxy, Bool.false_and]
          clear hxy D
          go_wp2_with fail
          go_quiet_o (fail)
          repeat (first | go_skip | go_guarded | go_step | go_upon)
          go_ret
          refine ⟨ret_bool D2.out.symm, ?_⟩
          rw [← hwq, World.drewN_drewN]
          exact drewN_below _ _ _
      · have hlti : ¬ (k : Int) < (n : Int) := by omega
        have D : Aside (decide (l1 = l2) = true) := by
          show _ = _
          rw [E.out, drop_end (l := l1) (by have := N.out; omega), drop_end (l := l2) (by have := M.out; omega)]
          simp
        clear hcell hcell2
        repeat (first | go_skip | go_guarded | go_step | go_upon)
        go_ret
        exact ⟨ret_bool D.out.symm, drewN_below _ _ _⟩
  · have hnm' : ¬ (n : Int) = (m : Int) := by omega
    have D : Aside (decide (l1 = l2) = false) := by
      show _ = _
      rw [decide_eq_false]
      intro h
      have := congrArg List.length h
      have := N.out
      have := M.out
      omega
    clear hcell hcell2
    go_enter Tryz.func50, Tryz.ntmps50
    repeat (first | go_skip | go_guarded | go_step | go_upon)
    go_ret
    exact ⟨ret_bool D.out.symm, Below.refl _ _⟩


set_option maxHeartbeats 1000000 in
set_option maxRecDepth 100000 in
/-- slices.Equal. -/
theorem eqPRule (v1 v2 : Value) (l1 l2 : List PRule) (w : World) (hrow1 : IsRow ePRule 5 w v1 l1) (hl : l1.length ≤ 9223372036854775807) (hrow2 : IsRow ePRule 5 w v2 l2) (hl2 : l2.length ≤ 9223372036854775807) :
    Calls Tryz.prog 125 #[v1, v2] w fun e w' => e = .returned (.bool (decide (l1 = l2))) ∧ Below w.heap.size w w' := by
  obtain ⟨a, cap, rfl, hcap, hcell⟩ := rows_open (z := 5) (by decide) hrow1
  obtain ⟨a2, cap2, rfl, hcap2, hcell2⟩ := rows_open (z := 5) (by decide) hrow2
  obtain ⟨n, hn⟩ : ∃ n, n = l1.length := ⟨_, rfl⟩
  obtain ⟨m, hm⟩ : ∃ m, m = l2.length := ⟨_, rfl⟩
  rw [← hn] at hl hcap hcell ⊢
  rw [← hm] at hl2 hcap2 hcell2 ⊢
  have N := hid hn
  have M := hid hm
  clear hn hrow1 hm hrow2
  by_cases hnm : n = m
  · subst hnm
    obtain ⟨P, hP⟩ : ∃ P, P = Tryz.prog := ⟨_, rfl⟩
    obtain ⟨z, hz⟩ : ∃ z, z = 5 := ⟨_, rfl⟩
    have mixed : P.follows .mixedOrders = true := by rw [hP]; kernel_rfl
    have FG : P.funcs[125]? = some Tryz.f125 := by rw [hP]; exact Tryz.func125
    have ts0 := Tryz.underlying3
    have as0 := Tryz.isAgg3
    have zs0 := Tryz.sizeOf3
    have ts1 := Tryz.underlying4
    have as1 := Tryz.isAgg4
    have zs1 := Tryz.sizeOf4
    have tsl := Tryz.underlying62
    have asl := Tryz.isAgg62
    have zsl := Tryz.sizeOf62
    have ael := Tryz.isAgg107
    have zel := Tryz.sizeOf107
    rw [← hz] at zel
    rw [← hP] at ts0 as0 zs0 ts1 as1 zs1 tsl asl zsl ael zel ⊢
    have heq : ∀ (x y : PRule) (w : World), (Op.equalIn 10000 107 (.agg (ePRule x).toArray) (.agg (ePRule y).toArray)).run P w = .ok (decide (x = y)) w := by rw [hP]; exact fun x y w => eqInPRule 9997 x y w
    have hgd : ∀ (op : BinOp) (a b : Operand) (X Y : Array Value) (w : World), (eqGuard op 107 a b (.agg X) (.agg Y)).run P w = .ok () w := fun op a b X Y w => run_eqGuard_agg w op _ a b X Y (by rw [hP]; kernel_rfl)
    clear hP
    go_enter FG, Tryz.ntmps125
    repeat (first | go_skip | go_guarded | go_step | go_upon)
    go_loopg [13] n (fun gg s13 wr => ∃ k q : Nat, k ≤ n ∧ n - k ≤ gg ∧ s13 = .int .i64 k ∧ wr = w.drewN q ∧ Aside (decide (l1 = l2) = decide (l1.drop k = l2.drop k)))
    case atStart => exact ⟨0, 0, Nat.zero_le _, by omega, rfl, rfl, rfl⟩
    case round =>
      obtain ⟨k, q, hk, hg, rfl, rfl, E⟩ := hrel
      by_cases hlt : k < n
      · have hlti : (k : Int) < (n : Int) := by omega
        obtain ⟨x, hx⟩ := get_some (l := l1) (k := k) (by have := N.out; omega)
        obtain ⟨y, hy⟩ := get_some (l := l2) (k := k) (by have := M.out; omega)
        obtain ⟨b, off, rfl, hb, hc⟩ := hcell (by omega)
        obtain ⟨b2, off2, rfl, hb2, hc2⟩ := hcell2 (by omega)
        have g1 : ∀ j, Sem.run P (loadCellsFrom ⟨b, off + k * 5, none⟩ 0 5 #[]) ((w.drewN q).drewN j) = .ok (ePRule x).toArray ((w.drewN q).drewN j) := fun j =>
          ld_row (f := ePRule) (z := 5) P (fun _ => rfl) (fun j u hj => by rw [World.drewN_drewN, World.cell?_drewN]; exact hc j u hj) hx
        have g2 : ∀ j, Sem.run P (loadCellsFrom ⟨b2, off2 + k * 5, none⟩ 0 5 #[]) ((w.drewN q).drewN j) = .ok (ePRule y).toArray ((w.drewN q).drewN j) := fun j =>
          ld_row (f := ePRule) (z := 5) P (fun _ => rfl) (fun j u hj => by rw [World.drewN_drewN, World.cell?_drewN]; exact hc2 j u hj) hy
        rw [← hz] at g1 g2
        have D : Aside (decide (l1.drop k = l2.drop k) = (decide (x = y) && decide (l1.drop (k + 1) = l2.drop (k + 1)))) := by
          show _ = _
          rw [drop_get hx, drop_get hy]; exact cons_dec _ _ _ _
        have he := fun w => heq x y w
        clear hc hcell hx hc2 hcell2 hy hz heq
        generalize hX : (ePRule x).toArray = X at g1 he
        generalize hY : (ePRule y).toArray = Y at g2 he
        clear hX hY
        generalize hwq : w.drewN q = wq at g1 g2 ⊢
        cases hxy : decide (x = y) with
        | true =>
          rw [hxy] at he
          have D2 : Aside (decide (l1 = l2) = decide (l1.drop (k + 1) = l2.drop (k + 1))) := by show _ = _; rw [E.out, D.out, hxy, Bool.true_and]
          clear hxy D
          go_wp2_with fail
          go_quiet_o (fail)
          repeat (first | go_skip | go_guarded | go_step | go_upon)
          go_roundg (n - (k + 1))
          case measure => omega
          case rel => exact ⟨k + 1, q + nq, by omega, by omega, by go_num, by rw [← hwq, World.drewN_drewN], D2.out⟩
        | false =>
          rw [hxy] at he
          have D2 : Aside (decide (l1 = l2) = false) := by show _ = _; rw [E.out, D.out, hxy, Bool.false_and]
          clear hxy D
          go_wp2_with fail
          go_quiet_o (fail)
          repeat (first | go_skip | go_guarded | go_step | go_upon)
          go_ret
          refine ⟨ret_bool D2.out.symm, ?_⟩
          rw [← hwq, World.drewN_drewN]
          exact drewN_below _ _ _
      · have hlti : ¬ (k : Int) < (n : Int) := by omega
        have D : Aside (decide (l1 = l2) = true) := by
          show _ = _
          rw [E.out, drop_end (l := l1) (by have := N.out; omega), drop_end (l := l2) (by have := M.out; omega)]
          simp
        clear hcell hcell2
        repeat (first | go_skip | go_guarded | go_step | go_upon)
        go_ret
        exact ⟨ret_bool D.out.symm, drewN_below _ _ _⟩
  · have hnm' : ¬ (n : Int) = (m : Int) := by omega
    have D : Aside (decide (l1 = l2) = false) := by
      show _ = _
      rw [decide_eq_false]
      intro h
      have := congrArg List.length h
      have := N.out
      have := M.out
      omega
    clear hcell hcell2
    go_enter Tryz.func125, Tryz.ntmps125
    repeat (first | go_skip | go_guarded | go_step | go_upon)
    go_ret
    exact ⟨ret_bool D.out.symm, Below.refl _ _⟩


set_option maxHeartbeats 1000000 in
set_option maxRecDepth 100000 in
/-- slices.Equal. -/
theorem eqCla (v1 v2 : Value) (l1 l2 : List Cla) (w : World) (hrow1 : IsRow eCla 7 w v1 l1) (hl : l1.length ≤ 9223372036854775807) (hrow2 : IsRow eCla 7 w v2 l2) (hl2 : l2.length ≤ 9223372036854775807) :
    Calls Tryz.prog 126 #[v1, v2] w fun e w' => e = .returned (.bool (decide (l1 = l2))) ∧ Below w.heap.size w w' := by
  obtain ⟨a, cap, rfl, hcap, hcell⟩ := rows_open (z := 7) (by decide) hrow1
  obtain ⟨a2, cap2, rfl, hcap2, hcell2⟩ := rows_open (z := 7) (by decide) hrow2
  obtain ⟨n, hn⟩ : ∃ n, n = l1.length := ⟨_, rfl⟩
  obtain ⟨m, hm⟩ : ∃ m, m = l2.length := ⟨_, rfl⟩
  rw [← hn] at hl hcap hcell ⊢
  rw [← hm] at hl2 hcap2 hcell2 ⊢
  have N := hid hn
  have M := hid hm
  clear hn hrow1 hm hrow2
  by_cases hnm : n = m
  · subst hnm
    obtain ⟨P, hP⟩ : ∃ P, P = Tryz.prog := ⟨_, rfl⟩
    obtain ⟨z, hz⟩ : ∃ z, z = 7 := ⟨_, rfl⟩
    have mixed : P.follows .mixedOrders = true := by rw [hP]; kernel_rfl
    have FG : P.funcs[126]? = some Tryz.f126 := by rw [hP]; exact Tryz.func126
    have ts0 := Tryz.underlying3
    have as0 := Tryz.isAgg3
    have zs0 := Tryz.sizeOf3
    have ts1 := Tryz.underlying4
    have as1 := Tryz.isAgg4
    have zs1 := Tryz.sizeOf4
    have tsl := Tryz.underlying65
    have asl := Tryz.isAgg65
    have zsl := Tryz.sizeOf65
    have ael := Tryz.isAgg114
    have zel := Tryz.sizeOf114
    rw [← hz] at zel
    rw [← hP] at ts0 as0 zs0 ts1 as1 zs1 tsl asl zsl ael zel ⊢
    have heq : ∀ (x y : Cla) (w : World), (Op.equalIn 10000 114 (.agg (eCla x).toArray) (.agg (eCla y).toArray)).run P w = .ok (decide (x = y)) w := by rw [hP]; exact fun x y w => eqInCla 9998 x y w
    have hgd : ∀ (op : BinOp) (a b : Operand) (X Y : Array Value) (w : World), (eqGuard op 114 a b (.agg X) (.agg Y)).run P w = .ok () w := fun op a b X Y w => run_eqGuard_agg w op _ a b X Y (by rw [hP]; kernel_rfl)
    clear hP
    go_enter FG, Tryz.ntmps126
    repeat (first | go_skip | go_guarded | go_step | go_upon)
    go_loopg [13] n (fun gg s13 wr => ∃ k q : Nat, k ≤ n ∧ n - k ≤ gg ∧ s13 = .int .i64 k ∧ wr = w.drewN q ∧ Aside (decide (l1 = l2) = decide (l1.drop k = l2.drop k)))
    case atStart => exact ⟨0, 0, Nat.zero_le _, by omega, rfl, rfl, rfl⟩
    case round =>
      obtain ⟨k, q, hk, hg, rfl, rfl, E⟩ := hrel
      by_cases hlt : k < n
      · have hlti : (k : Int) < (n : Int) := by omega
        obtain ⟨x, hx⟩ := get_some (l := l1) (k := k) (by have := N.out; omega)
        obtain ⟨y, hy⟩ := get_some (l := l2) (k := k) (by have := M.out; omega)
        obtain ⟨b, off, rfl, hb, hc⟩ := hcell (by omega)
        obtain ⟨b2, off2, rfl, hb2, hc2⟩ := hcell2 (by omega)
        have g1 : ∀ j, Sem.run P (loadCellsFrom ⟨b, off + k * 7, none⟩ 0 7 #[]) ((w.drewN q).drewN j) = .ok (eCla x).toArray ((w.drewN q).drewN j) := fun j =>
          ld_row (f := eCla) (z := 7) P (fun _ => rfl) (fun j u hj => by rw [World.drewN_drewN, World.cell?_drewN]; exact hc j u hj) hx
        have g2 : ∀ j, Sem.run P (loadCellsFrom ⟨b2, off2 + k * 7, none⟩ 0 7 #[]) ((w.drewN q).drewN j) = .ok (eCla y).toArray ((w.drewN q).drewN j) := fun j =>
          ld_row (f := eCla) (z := 7) P (fun _ => rfl) (fun j u hj => by rw [World.drewN_drewN, World.cell?_drewN]; exact hc2 j u hj) hy
        rw [← hz] at g1 g2
        have D : Aside (decide (l1.drop k = l2.drop k) = (decide (x = y) && decide (l1.drop (k + 1) = l2.drop (k + 1)))) := by
          show _ = _
          rw [drop_get hx, drop_get hy]; exact cons_dec _ _ _ _
        have he := fun w => heq x y w
        clear hc hcell hx hc2 hcell2 hy hz heq
        generalize hX : (eCla x).toArray = X at g1 he
        generalize hY : (eCla y).toArray = Y at g2 he
        clear hX hY
        generalize hwq : w.drewN q = wq at g1 g2 ⊢
        cases hxy : decide (x = y) with
        | true =>
          rw [hxy] at he
          have D2 : Aside (decide (l1 = l2) = decide (l1.drop (k + 1) = l2.drop (k + 1))) := by show _ = _; rw [E.out, D.out, hxy, Bool.true_and]
          clear hxy D
          go_wp2_with fail
          go_quiet_o (fail)
          repeat (first | go_skip | go_guarded | go_step | go_upon)
          go_roundg (n - (k + 1))
          case measure => omega
          case rel => exact ⟨k + 1, q + nq, by omega, by omega, by go_num, by rw [← hwq, World.drewN_drewN], D2.out⟩
        | false =>
          rw [hxy] at he
          have D2 : Aside (decide (l1 = l2) = false) := by show _ = _; rw [E.out, D.out, hxy, Bool.false_and]
          clear hxy D
          go_wp2_with fail
          go_quiet_o (fail)
          repeat (first | go_skip | go_guarded | go_step | go_upon)
          go_ret
          refine ⟨ret_bool D2.out.symm, ?_⟩
          rw [← hwq, World.drewN_drewN]
          exact drewN_below _ _ _
      · have hlti : ¬ (k : Int) < (n : Int) := by omega
        have D : Aside (decide (l1 = l2) = true) := by
          show _ = _
          rw [E.out, drop_end (l := l1) (by have := N.out; omega), drop_end (l := l2) (by have := M.out; omega)]
          simp
        clear hcell hcell2
        repeat (first | go_skip | go_guarded | go_step | go_upon)
        go_ret
        exact ⟨ret_bool D.out.symm, drewN_below _ _ _⟩
  · have hnm' : ¬ (n : Int) = (m : Int) := by omega
    have D : Aside (decide (l1 = l2) = false) := by
      show _ = _
      rw [decide_eq_false]
      intro h
      have := congrArg List.length h
      have := N.out
      have := M.out
      omega
    clear hcell hcell2
    go_enter Tryz.func126, Tryz.ntmps126
    repeat (first | go_skip | go_guarded | go_step | go_upon)
    go_ret
    exact ⟨ret_bool D.out.symm, Below.refl _ _⟩


set_option maxHeartbeats 1000000 in
set_option maxRecDepth 100000 in
/-- slices.Equal. -/
theorem eqRule (v1 v2 : Value) (l1 l2 : List Rule) (w : World) (hrow1 : IsRow eRule 10 w v1 l1) (hl : l1.length ≤ 9223372036854775807) (hrow2 : IsRow eRule 10 w v2 l2) (hl2 : l2.length ≤ 9223372036854775807) :
    Calls Tryz.prog 127 #[v1, v2] w fun e w' => e = .returned (.bool (decide (l1 = l2))) ∧ Below w.heap.size w w' := by
  obtain ⟨a, cap, rfl, hcap, hcell⟩ := rows_open (z := 10) (by decide) hrow1
  obtain ⟨a2, cap2, rfl, hcap2, hcell2⟩ := rows_open (z := 10) (by decide) hrow2
  obtain ⟨n, hn⟩ : ∃ n, n = l1.length := ⟨_, rfl⟩
  obtain ⟨m, hm⟩ : ∃ m, m = l2.length := ⟨_, rfl⟩
  rw [← hn] at hl hcap hcell ⊢
  rw [← hm] at hl2 hcap2 hcell2 ⊢
  have N := hid hn
  have M := hid hm
  clear hn hrow1 hm hrow2
  by_cases hnm : n = m
  · subst hnm
    obtain ⟨P, hP⟩ : ∃ P, P = Tryz.prog := ⟨_, rfl⟩
    obtain ⟨z, hz⟩ : ∃ z, z = 10 := ⟨_, rfl⟩
    have mixed : P.follows .mixedOrders = true := by rw [hP]; kernel_rfl
    have FG : P.funcs[127]? = some Tryz.f127 := by rw [hP]; exact Tryz.func127
    have ts0 := Tryz.underlying3
    have as0 := Tryz.isAgg3
    have zs0 := Tryz.sizeOf3
    have ts1 := Tryz.underlying4
    have as1 := Tryz.isAgg4
    have zs1 := Tryz.sizeOf4
    have tsl := Tryz.underlying68
    have asl := Tryz.isAgg68
    have zsl := Tryz.sizeOf68
    have ael := Tryz.isAgg126
    have zel := Tryz.sizeOf126
    rw [← hz] at zel
    rw [← hP] at ts0 as0 zs0 ts1 as1 zs1 tsl asl zsl ael zel ⊢
    have heq : ∀ (x y : Rule) (w : World), (Op.equalIn 10000 126 (.agg (eRule x).toArray) (.agg (eRule y).toArray)).run P w = .ok (decide (x = y)) w := by rw [hP]; exact fun x y w => eqInRule 9997 x y w
    have hgd : ∀ (op : BinOp) (a b : Operand) (X Y : Array Value) (w : World), (eqGuard op 126 a b (.agg X) (.agg Y)).run P w = .ok () w := fun op a b X Y w => run_eqGuard_agg w op _ a b X Y (by rw [hP]; kernel_rfl)
    clear hP
    go_enter FG, Tryz.ntmps127
    repeat (first | go_skip | go_guarded | go_step | go_upon)
    go_loopg [13] n (fun gg s13 wr => ∃ k q : Nat, k ≤ n ∧ n - k ≤ gg ∧ s13 = .int .i64 k ∧ wr = w.drewN q ∧ Aside (decide (l1 = l2) = decide (l1.drop k = l2.drop k)))
    case atStart => exact ⟨0, 0, Nat.zero_le _, by omega, rfl, rfl, rfl⟩
    case round =>
      obtain ⟨k, q, hk, hg, rfl, rfl, E⟩ := hrel
      by_cases hlt : k < n
      · have hlti : (k : Int) < (n : Int) := by omega
        obtain ⟨x, hx⟩ := get_some (l := l1) (k := k) (by have := N.out; omega)
        obtain ⟨y, hy⟩ := get_some (l := l2) (k := k) (by have := M.out; omega)
        obtain ⟨b, off, rfl, hb, hc⟩ := hcell (by omega)
        obtain ⟨b2, off2, rfl, hb2, hc2⟩ := hcell2 (by omega)
        have g1 : ∀ j, Sem.run P (loadCellsFrom ⟨b, off + k * 10, none⟩ 0 10 #[]) ((w.drewN q).drewN j) = .ok (eRule x).toArray ((w.drewN q).drewN j) := fun j =>
          ld_row (f := eRule) (z := 10) P (fun _ => rfl) (fun j u hj => by rw [World.drewN_drewN, World.cell?_drewN]; exact hc j u hj) hx
        have g2 : ∀ j, Sem.run P (loadCellsFrom ⟨b2, off2 + k * 10, none⟩ 0 10 #[]) ((w.drewN q).drewN j) = .ok (eRule y).toArray ((w.drewN q).drewN j) := fun j =>
          ld_row (f := eRule) (z := 10) P (fun _ => rfl) (fun j u hj => by rw [World.drewN_drewN, World.cell?_drewN]; exact hc2 j u hj) hy
        rw [← hz] at g1 g2
        have D : Aside (decide (l1.drop k = l2.drop k) = (decide (x = y) && decide (l1.drop (k + 1) = l2.drop (k + 1)))) := by
          show _ = _
          rw [drop_get hx, drop_get hy]; exact cons_dec _ _ _ _
        have he := fun w => heq x y w
        clear hc hcell hx hc2 hcell2 hy hz heq
        generalize hX : (eRule x).toArray = X at g1 he
        generalize hY : (eRule y).toArray = Y at g2 he
        clear hX hY
        generalize hwq : w.drewN q = wq at g1 g2 ⊢
        cases hxy : decide (x = y) with
        | true =>
          rw [hxy] at he
          have D2 : Aside (decide (l1 = l2) = decide (l1.drop (k + 1) = l2.drop (k + 1))) := by show _ = _; rw [E.out, D.out, hxy, Bool.true_and]
          clear hxy D
          go_wp2_with fail
          go_quiet_o (fail)
          repeat (first | go_skip | go_guarded | go_step | go_upon)
          go_roundg (n - (k + 1))
          case measure => omega
          case rel => exact ⟨k + 1, q + nq, by omega, by omega, by go_num, by rw [← hwq, World.drewN_drewN], D2.out⟩
        | false =>
          rw [hxy] at he
          have D2 : Aside (decide (l1 = l2) = false) := by show _ = _; rw [E.out, D.out, hxy, Bool.false_and]
          clear hxy D
          go_wp2_with fail
          go_quiet_o (fail)
          repeat (first | go_skip | go_guarded | go_step | go_upon)
          go_ret
          refine ⟨ret_bool D2.out.symm, ?_⟩
          rw [← hwq, World.drewN_drewN]
          exact drewN_below _ _ _
      · have hlti : ¬ (k : Int) < (n : Int) := by omega
        have D : Aside (decide (l1 = l2) = true) := by
          show _ = _
          rw [E.out, drop_end (l := l1) (by have := N.out; omega), drop_end (l := l2) (by have := M.out; omega)]
          simp
        clear hcell hcell2
        repeat (first | go_skip | go_guarded | go_step | go_upon)
        go_ret
        exact ⟨ret_bool D.out.symm, drewN_below _ _ _⟩
  · have hnm' : ¬ (n : Int) = (m : Int) := by omega
    have D : Aside (decide (l1 = l2) = false) := by
      show _ = _
      rw [decide_eq_false]
      intro h
      have := congrArg List.length h
      have := N.out
      have := M.out
      omega
    clear hcell hcell2
    go_enter Tryz.func127, Tryz.ntmps127
    repeat (first | go_skip | go_guarded | go_step | go_upon)
    go_ret
    exact ⟨ret_bool D.out.symm, Below.refl _ _⟩


set_option maxHeartbeats 1000000 in
set_option maxRecDepth 100000 in
/-- slices.Equal. -/
theorem eqTran (v1 v2 : Value) (l1 l2 : List Tran) (w : World) (hrow1 : IsRow eTran 9 w v1 l1) (hl : l1.length ≤ 9223372036854775807) (hrow2 : IsRow eTran 9 w v2 l2) (hl2 : l2.length ≤ 9223372036854775807) :
    Calls Tryz.prog 57 #[v1, v2] w fun e w' => e = .returned (.bool (decide (l1 = l2))) ∧ Below w.heap.size w w' := by
  obtain ⟨a, cap, rfl, hcap, hcell⟩ := rows_open (z := 9) (by decide) hrow1
  obtain ⟨a2, cap2, rfl, hcap2, hcell2⟩ := rows_open (z := 9) (by decide) hrow2
  obtain ⟨n, hn⟩ : ∃ n, n = l1.length := ⟨_, rfl⟩
  obtain ⟨m, hm⟩ : ∃ m, m = l2.length := ⟨_, rfl⟩
  rw [← hn] at hl hcap hcell ⊢
  rw [← hm] at hl2 hcap2 hcell2 ⊢
  have N := hid hn
  have M := hid hm
  clear hn hrow1 hm hrow2
  by_cases hnm : n = m
  · subst hnm
    obtain ⟨P, hP⟩ : ∃ P, P = Tryz.prog := ⟨_, rfl⟩
    obtain ⟨z, hz⟩ : ∃ z, z = 9 := ⟨_, rfl⟩
    have mixed : P.follows .mixedOrders = true := by rw [hP]; kernel_rfl
    have FG : P.funcs[57]? = some Tryz.f57 := by rw [hP]; exact Tryz.func57
    have ts0 := Tryz.underlying3
    have as0 := Tryz.isAgg3
    have zs0 := Tryz.sizeOf3
    have ts1 := Tryz.underlying4
    have as1 := Tryz.isAgg4
    have zs1 := Tryz.sizeOf4
    have tsl := Tryz.underlying26
    have asl := Tryz.isAgg26
    have zsl := Tryz.sizeOf26
    have ael := Tryz.isAgg85
    have zel := Tryz.sizeOf85
    rw [← hz] at zel
    rw [← hP] at ts0 as0 zs0 ts1 as1 zs1 tsl asl zsl ael zel ⊢
    have heq : ∀ (x y : Tran) (w : World), (Op.equalIn 10000 85 (.agg (eTran x).toArray) (.agg (eTran y).toArray)).run P w = .ok (decide (x = y)) w := by rw [hP]; exact fun x y w => eqInTran 9998 x y w
    have hgd : ∀ (op : BinOp) (a b : Operand) (X Y : Array Value) (w : World), (eqGuard op 85 a b (.agg X) (.agg Y)).run P w = .ok () w := fun op a b X Y w => run_eqGuard_agg w op _ a b X Y (by rw [hP]; kernel_rfl)
    clear hP
    go_enter FG, Tryz.ntmps57
    repeat (first | go_skip | go_guarded | go_step | go_upon)
    go_loopg [13] n (fun gg s13 wr => ∃ k q : Nat, k ≤ n ∧ n - k ≤ gg ∧ s13 = .int .i64 k ∧ wr = w.drewN q ∧ Aside (decide (l1 = l2) = decide (l1.drop k = l2.drop k)))
    case atStart => exact ⟨0, 0, Nat.zero_le _, by omega, rfl, rfl, rfl⟩
    case round =>
      obtain ⟨k, q, hk, hg, rfl, rfl, E⟩ := hrel
      by_cases hlt : k < n
      · have hlti : (k : Int) < (n : Int) := by omega
        obtain ⟨x, hx⟩ := get_some (l := l1) (k := k) (by have := N.out; omega)
        obtain ⟨y, hy⟩ := get_some (l := l2) (k := k) (by have := M.out; omega)
        obtain ⟨b, off, rfl, hb, hc⟩ := hcell (by omega)
        obtain ⟨b2, off2, rfl, hb2, hc2⟩ := hcell2 (by omega)
        have g1 : ∀ j, Sem.run P (loadCellsFrom ⟨b, off + k * 9, none⟩ 0 9 #[]) ((w.drewN q).drewN j) = .ok (eTran x).toArray ((w.drewN q).drewN j) := fun j =>
          ld_row (f := eTran) (z := 9) P (fun _ => rfl) (fun j u hj => by rw [World.drewN_drewN, World.cell?_drewN]; exact hc j u hj) hx
        have g2 : ∀ j, Sem.run P (loadCellsFrom ⟨b2, off2 + k * 9, none⟩ 0 9 #[]) ((w.drewN q).drewN j) = .ok (eTran y).toArray ((w.drewN q).drewN j) := fun j =>
          ld_row (f := eTran) (z := 9) P (fun _ => rfl) (fun j u hj => by rw [World.drewN_drewN, World.cell?_drewN]; exact hc2 j u hj) hy
        rw [← hz] at g1 g2
        have D : Aside (decide (l1.drop k = l2.drop k) = (decide (x = y) && decide (l1.drop (k + 1) = l2.drop (k + 1)))) := by
          show _ = _
          rw [drop_get hx, drop_get hy]; exact cons_dec _ _ _ _
        have he := fun w => heq x y w
        clear hc hcell hx hc2 hcell2 hy hz heq
        generalize hX : (eTran x).toArray = X at g1 he
        generalize hY : (eTran y).toArray = Y at g2 he
        clear hX hY
        generalize hwq : w.drewN q = wq at g1 g2 ⊢
        cases hxy : decide (x = y) with
        | true =>
          rw [hxy] at he
          have D2 : Aside (decide (l1 = l2) = decide (l1.drop (k + 1) = l2.drop (k + 1))) := by show _ = _; rw [E.out, D.out, hxy, Bool.true_and]
          clear hxy D
          go_wp2_with fail
          go_quiet_o (fail)
          repeat (first | go_skip | go_guarded | go_step | go_upon)
          go_roundg (n - (k + 1))
          case measure => omega
          case rel => exact ⟨k + 1, q + nq, by omega, by omega, by go_num, by rw [← hwq, World.drewN_drewN], D2.out⟩
        | false =>
          rw [hxy] at he
          have D2 : Aside (decide (l1 = l2) = false) := by show _ = _; rw [E.out, D.out, hxy, Bool.false_and]
          clear hxy D
          go_wp2_with fail
          go_quiet_o (fail)
          repeat (first | go_skip | go_guarded | go_step | go_upon)
          go_ret
          refine ⟨ret_bool D2.out.symm, ?_⟩
          rw [← hwq, World.drewN_drewN]
          exact drewN_below _ _ _
      · have hlti : ¬ (k : Int) < (n : Int) := by omega
        have D : Aside (decide (l1 = l2) = true) := by
          show _ = _
          rw [E.out, drop_end (l := l1) (by have := N.out; omega), drop_end (l := l2) (by have := M.out; omega)]
          simp
        clear hcell hcell2
        repeat (first | go_skip | go_guarded | go_step | go_upon)
        go_ret
        exact ⟨ret_bool D.out.symm, drewN_below _ _ _⟩
  · have hnm' : ¬ (n : Int) = (m : Int) := by omega
    have D : Aside (decide (l1 = l2) = false) := by
      show _ = _
      rw [decide_eq_false]
      intro h
      have := congrArg List.length h
      have := N.out
      have := M.out
      omega
    clear hcell hcell2
    go_enter Tryz.func57, Tryz.ntmps57
    repeat (first | go_skip | go_guarded | go_step | go_upon)
    go_ret
    exact ⟨ret_bool D.out.symm, Below.refl _ _⟩


set_option maxHeartbeats 1000000 in
set_option maxRecDepth 100000 in
/-- slices.Equal. -/
theorem eqStc (v1 v2 : Value) (l1 l2 : List Stc) (w : World) (hrow1 : IsRow eStc 7 w v1 l1) (hl : l1.length ≤ 9223372036854775807) (hrow2 : IsRow eStc 7 w v2 l2) (hl2 : l2.length ≤ 9223372036854775807) :
    Calls Tryz.prog 58 #[v1, v2] w fun e w' => e = .returned (.bool (decide (l1 = l2))) ∧ Below w.heap.size w w' := by
  obtain ⟨a, cap, rfl, hcap, hcell⟩ := rows_open (z := 7) (by decide) hrow1
  obtain ⟨a2, cap2, rfl, hcap2, hcell2⟩ := rows_open (z := 7) (by decide) hrow2
  obtain ⟨n, hn⟩ : ∃ n, n = l1.length := ⟨_, rfl⟩
  obtain ⟨m, hm⟩ : ∃ m, m = l2.length := ⟨_, rfl⟩
  rw [← hn] at hl hcap hcell ⊢
  rw [← hm] at hl2 hcap2 hcell2 ⊢
  have N := hid hn
  have M := hid hm
  clear hn hrow1 hm hrow2
  by_cases hnm : n = m
  · subst hnm
    obtain ⟨P, hP⟩ : ∃ P, P = Tryz.prog := ⟨_, rfl⟩
    obtain ⟨z, hz⟩ : ∃ z, z = 7 := ⟨_, rfl⟩
    have mixed : P.follows .mixedOrders = true := by rw [hP]; kernel_rfl
    have FG : P.funcs[58]? = some Tryz.f58 := by rw [hP]; exact Tryz.func58
    have ts0 := Tryz.underlying3
    have as0 := Tryz.isAgg3
    have zs0 := Tryz.sizeOf3
    have ts1 := Tryz.underlying4
    have as1 := Tryz.isAgg4
    have zs1 := Tryz.sizeOf4
    have tsl := Tryz.underlying27
    have asl := Tryz.isAgg27
    have zsl := Tryz.sizeOf27
    have ael := Tryz.isAgg58
    have zel := Tryz.sizeOf58
    rw [← hz] at zel
    rw [← hP] at ts0 as0 zs0 ts1 as1 zs1 tsl asl zsl ael zel ⊢
    have heq : ∀ (x y : Stc) (w : World), (Op.equalIn 10000 58 (.agg (eStc x).toArray) (.agg (eStc y).toArray)).run P w = .ok (decide (x = y)) w := by rw [hP]; exact fun x y w => eqInStc 9997 x y w
    have hgd : ∀ (op : BinOp) (a b : Operand) (X Y : Array Value) (w : World), (eqGuard op 58 a b (.agg X) (.agg Y)).run P w = .ok () w := fun op a b X Y w => run_eqGuard_agg w op _ a b X Y (by rw [hP]; kernel_rfl)
    clear hP
    go_enter FG, Tryz.ntmps58
    repeat (first | go_skip | go_guarded | go_step | go_upon)
    go_loopg [13] n (fun gg s13 wr => ∃ k q : Nat, k ≤ n ∧ n - k ≤ gg ∧ s13 = .int .i64 k ∧ wr = w.drewN q ∧ Aside (decide (l1 = l2) = decide (l1.drop k = l2.drop k)))
    case atStart => exact ⟨0, 0, Nat.zero_le _, by omega, rfl, rfl, rfl⟩
    case round =>
      obtain ⟨k, q, hk, hg, rfl, rfl, E⟩ := hrel
      by_cases hlt : k < n
      · have hlti : (k : Int) < (n : Int) := by omega
        obtain ⟨x, hx⟩ := get_some (l := l1) (k := k) (by have := N.out; omega)
        obtain ⟨y, hy⟩ := get_some (l := l2) (k := k) (by have := M.out; omega)
        obtain ⟨b, off, rfl, hb, hc⟩ := hcell (by omega)
        obtain ⟨b2, off2, rfl, hb2, hc2⟩ := hcell2 (by omega)
        have g1 : ∀ j, Sem.run P (loadCellsFrom ⟨b, off + k * 7, none⟩ 0 7 #[]) ((w.drewN q).drewN j) = .ok (eStc x).toArray ((w.drewN q).drewN j) := fun j =>
          ld_row (f := eStc) (z := 7) P (fun _ => rfl) (fun j u hj => by rw [World.drewN_drewN, World.cell?_drewN]; exact hc j u hj) hx
        have g2 : ∀ j, Sem.run P (loadCellsFrom ⟨b2, off2 + k * 7, none⟩ 0 7 #[]) ((w.drewN q).drewN j) = .ok (eStc y).toArray ((w.drewN q).drewN j) := fun j =>
          ld_row (f := eStc) (z := 7) P (fun _ => rfl) (fun j u hj => by rw [World.drewN_drewN, World.cell?_drewN]; exact hc2 j u hj) hy
        rw [← hz] at g1 g2
        have D : Aside (decide (l1.drop k = l2.drop k) = (decide (x = y) && decide (l1.drop (k + 1) = l2.drop (k + 1)))) := by
          show _ = _
          rw [drop_get hx, drop_get hy]; exact cons_dec _ _ _ _
        have he := fun w => heq x y w
        clear hc hcell hx hc2 hcell2 hy hz heq
        generalize hX : (eStc x).toArray = X at g1 he
        generalize hY : (eStc y).toArray = Y at g2 he
        clear hX hY
        generalize hwq : w.drewN q = wq at g1 g2 ⊢
        cases hxy : decide (x = y) with
        | true =>
          rw [hxy] at he
          have D2 : Aside (decide (l1 = l2) = decide (l1.drop (k + 1) = l2.drop (k + 1))) := by show _ = _; rw [E.out, D.out, hxy, Bool.true_and]
          clear hxy D
          go_wp2_with fail
          go_quiet_o (fail)
          repeat (first | go_skip | go_guarded | go_step | go_upon)
          go_roundg (n - (k + 1))
          case measure => omega
          case rel => exact ⟨k + 1, q + nq, by omega, by omega, by go_num, by rw [← hwq, World.drewN_drewN], D2.out⟩
        | false =>
          rw [hxy] at he
          have D2 : Aside (decide (l1 = l2) = false) := by show _ = _; rw [E.out, D.out, hxy, Bool.false_and]
          clear hxy D
          go_wp2_with fail
          go_quiet_o (fail)
          repeat (first | go_skip | go_guarded | go_step | go_upon)
          go_ret
          refine ⟨ret_bool D2.out.symm, ?_⟩
          rw [← hwq, World.drewN_drewN]
          exact drewN_below _ _ _
      · have hlti : ¬ (k : Int) < (n : Int) := by omega
        have D : Aside (decide (l1 = l2) = true) := by
          show _ = _
          rw [E.out, drop_end (l := l1) (by have := N.out; omega), drop_end (l := l2) (by have := M.out; omega)]
          simp
        clear hcell hcell2
        repeat (first | go_skip | go_guarded | go_step | go_upon)
        go_ret
        exact ⟨ret_bool D.out.symm, drewN_below _ _ _⟩
  · have hnm' : ¬ (n : Int) = (m : Int) := by omega
    have D : Aside (decide (l1 = l2) = false) := by
      show _ = _
      rw [decide_eq_false]
      intro h
      have := congrArg List.length h
      have := N.out
      have := M.out
      omega
    clear hcell hcell2
    go_enter Tryz.func58, Tryz.ntmps58
    repeat (first | go_skip | go_guarded | go_step | go_upon)
    go_ret
    exact ⟨ret_bool D.out.symm, Below.refl _ _⟩


set_option maxHeartbeats 1000000 in
set_option maxRecDepth 100000 in
/-- slices.Equal. -/
theorem eqRed (v1 v2 : Value) (l1 l2 : List Red) (w : World) (hrow1 : IsRow eRed 5 w v1 l1) (hl : l1.length ≤ 9223372036854775807) (hrow2 : IsRow eRed 5 w v2 l2) (hl2 : l2.length ≤ 9223372036854775807) :
    Calls Tryz.prog 129 #[v1, v2] w fun e w' => e = .returned (.bool (decide (l1 = l2))) ∧ Below w.heap.size w w' := by
  obtain ⟨a, cap, rfl, hcap, hcell⟩ := rows_open (z := 5) (by decide) hrow1
  obtain ⟨a2, cap2, rfl, hcap2, hcell2⟩ := rows_open (z := 5) (by decide) hrow2
  obtain ⟨n, hn⟩ : ∃ n, n = l1.length := ⟨_, rfl⟩
  obtain ⟨m, hm⟩ : ∃ m, m = l2.length := ⟨_, rfl⟩
  rw [← hn] at hl hcap hcell ⊢
  rw [← hm] at hl2 hcap2 hcell2 ⊢
  have N := hid hn
  have M := hid hm
  clear hn hrow1 hm hrow2
  by_cases hnm : n = m
  · subst hnm
    obtain ⟨P, hP⟩ : ∃ P, P = Tryz.prog := ⟨_, rfl⟩
    obtain ⟨z, hz⟩ : ∃ z, z = 5 := ⟨_, rfl⟩
    have mixed : P.follows .mixedOrders = true := by rw [hP]; kernel_rfl
    have FG : P.funcs[129]? = some Tryz.f129 := by rw [hP]; exact Tryz.func129
    have ts0 := Tryz.underlying3
    have as0 := Tryz.isAgg3
    have zs0 := Tryz.sizeOf3
    have ts1 := Tryz.underlying4
    have as1 := Tryz.isAgg4
    have zs1 := Tryz.sizeOf4
    have tsl := Tryz.underlying29
    have asl := Tryz.isAgg29
    have zsl := Tryz.sizeOf29
    have ael := Tryz.isAgg154
    have zel := Tryz.sizeOf154
    rw [← hz] at zel
    rw [← hP] at ts0 as0 zs0 ts1 as1 zs1 tsl asl zsl ael zel ⊢
    have heq : ∀ (x y : Red) (w : World), (Op.equalIn 10000 154 (.agg (eRed x).toArray) (.agg (eRed y).toArray)).run P w = .ok (decide (x = y)) w := by rw [hP]; exact fun x y w => eqInRed 9998 x y w
    have hgd : ∀ (op : BinOp) (a b : Operand) (X Y : Array Value) (w : World), (eqGuard op 154 a b (.agg X) (.agg Y)).run P w = .ok () w := fun op a b X Y w => run_eqGuard_agg w op _ a b X Y (by rw [hP]; kernel_rfl)
    clear hP
    go_enter FG, Tryz.ntmps129
    repeat (first | go_skip | go_guarded | go_step | go_upon)
    go_loopg [13] n (fun gg s13 wr => ∃ k q : Nat, k ≤ n ∧ n - k ≤ gg ∧ s13 = .int .i64 k ∧ wr = w.drewN q ∧ Aside (decide (l1 = l2) = decide (l1.drop k = l2.drop k)))
    case atStart => exact ⟨0, 0, Nat.zero_le _, by omega, rfl, rfl, rfl⟩
    case round =>
      obtain ⟨k, q, hk, hg, rfl, rfl, E⟩ := hrel
      by_cases hlt : k < n
      · have hlti : (k : Int) < (n : Int) := by omega
        obtain ⟨x, hx⟩ := get_some (l := l1) (k := k) (by have := N.out; omega)
        obtain ⟨y, hy⟩ := get_some (l := l2) (k := k) (by have := M.out; omega)
        obtain ⟨b, off, rfl, hb, hc⟩ := hcell (by omega)
        obtain ⟨b2, off2, rfl, hb2, hc2⟩ := hcell2 (by omega)
        have g1 : ∀ j, Sem.run P (loadCellsFrom ⟨b, off + k * 5, none⟩ 0 5 #[]) ((w.drewN q).drewN j) = .ok (eRed x).toArray ((w.drewN q).drewN j) := fun j =>
          ld_row (f := eRed) (z := 5) P (fun _ => rfl) (fun j u hj => by rw [World.drewN_drewN, World.cell?_drewN]; exact hc j u hj) hx
        have g2 : ∀ j, Sem.run P (loadCellsFrom ⟨b2, off2 + k * 5, none⟩ 0 5 #[]) ((w.drewN q).drewN j) = .ok (eRed y).toArray ((w.drewN q).drewN j) := fun j =>
          ld_row (f := eRed) (z := 5) P (fun _ => rfl) (fun j u hj => by rw [World.drewN_drewN, World.cell?_drewN]; exact hc2 j u hj) hy
        rw [← hz] at g1 g2
        have D : Aside (decide (l1.drop k = l2.drop k) = (decide (x = y) && decide (l1.drop (k + 1) = l2.drop (k + 1)))) := by
          show _ = _
          rw [drop_get hx, drop_get hy]; exact cons_dec _ _ _ _
        have he := fun w => heq x y w
        clear hc hcell hx hc2 hcell2 hy hz heq
        generalize hX : (eRed x).toArray = X at g1 he
        generalize hY : (eRed y).toArray = Y at g2 he
        clear hX hY
        generalize hwq : w.drewN q = wq at g1 g2 ⊢
        cases hxy : decide (x = y) with
        | true =>
          rw [hxy] at he
          have D2 : Aside (decide (l1 = l2) = decide (l1.drop (k + 1) = l2.drop (k + 1))) := by show _ = _; rw [E.out, D.out, hxy, Bool.true_and]
          clear hxy D
          go_wp2_with fail
          go_quiet_o (fail)
          repeat (first | go_skip | go_guarded | go_step | go_upon)
          go_roundg (n - (k + 1))
          case measure => omega
          case rel => exact ⟨k + 1, q + nq, by omega, by omega, by go_num, by rw [← hwq, World.drewN_drewN], D2.out⟩
        | false =>
          rw [hxy] at he
          have D2 : Aside (decide (l1 = l2) = false) := by show _ = _; rw [E.out, D.out, hxy, Bool.false_and]
          clear hxy D
          go_wp2_with fail
          go_quiet_o (fail)
          repeat (first | go_skip | go_guarded | go_step | go_upon)
          go_ret
          refine ⟨ret_bool D2.out.symm, ?_⟩
          rw [← hwq, World.drewN_drewN]
          exact drewN_below _ _ _
      · have hlti : ¬ (k : Int) < (n : Int) := by omega
        have D : Aside (decide (l1 = l2) = true) := by
          show _ = _
          rw [E.out, drop_end (l := l1) (by have := N.out; omega), drop_end (l := l2) (by have := M.out; omega)]
          simp
        clear hcell hcell2
        repeat (first | go_skip | go_guarded | go_step | go_upon)
        go_ret
        exact ⟨ret_bool D.out.symm, drewN_below _ _ _⟩
  · have hnm' : ¬ (n : Int) = (m : Int) := by omega
    have D : Aside (decide (l1 = l2) = false) := by
      show _ = _
      rw [decide_eq_false]
      intro h
      have := congrArg List.length h
      have := N.out
      have := M.out
      omega
    clear hcell hcell2
    go_enter Tryz.func129, Tryz.ntmps129
    repeat (first | go_skip | go_guarded | go_step | go_upon)
    go_ret
    exact ⟨ret_bool D.out.symm, Below.refl _ _⟩


set_option maxHeartbeats 1000000 in
set_option maxRecDepth 100000 in
/-- slices.Equal. -/
theorem eqRng (v1 v2 : Value) (l1 l2 : List Rng) (w : World) (hrow1 : IsRow eRng 3 w v1 l1) (hl : l1.length ≤ 9223372036854775807) (hrow2 : IsRow eRng 3 w v2 l2) (hl2 : l2.length ≤ 9223372036854775807) :
    Calls Tryz.prog 128 #[v1, v2] w fun e w' => e = .returned (.bool (decide (l1 = l2))) ∧ Below w.heap.size w w' := by
  obtain ⟨a, cap, rfl, hcap, hcell⟩ := rows_open (z := 3) (by decide) hrow1
  obtain ⟨a2, cap2, rfl, hcap2, hcell2⟩ := rows_open (z := 3) (by decide) hrow2
  obtain ⟨n, hn⟩ : ∃ n, n = l1.length := ⟨_, rfl⟩
  obtain ⟨m, hm⟩ : ∃ m, m = l2.length := ⟨_, rfl⟩
  rw [← hn] at hl hcap hcell ⊢
  rw [← hm] at hl2 hcap2 hcell2 ⊢
  have N := hid hn
  have M := hid hm
  clear hn hrow1 hm hrow2
  by_cases hnm : n = m
  · subst hnm
    obtain ⟨P, hP⟩ : ∃ P, P = Tryz.prog := ⟨_, rfl⟩
    obtain ⟨z, hz⟩ : ∃ z, z = 3 := ⟨_, rfl⟩
    have mixed : P.follows .mixedOrders = true := by rw [hP]; kernel_rfl
    have FG : P.funcs[128]? = some Tryz.f128 := by rw [hP]; exact Tryz.func128
    have ts0 := Tryz.underlying3
    have as0 := Tryz.isAgg3
    have zs0 := Tryz.sizeOf3
    have ts1 := Tryz.underlying4
    have as1 := Tryz.isAgg4
    have zs1 := Tryz.sizeOf4
    have tsl := Tryz.underlying28
    have asl := Tryz.isAgg28
    have zsl := Tryz.sizeOf28
    have ael := Tryz.isAgg150
    have zel := Tryz.sizeOf150
    rw [← hz] at zel
    rw [← hP] at ts0 as0 zs0 ts1 as1 zs1 tsl asl zsl ael zel ⊢
    have heq : ∀ (x y : Rng) (w : World), (Op.equalIn 10000 150 (.agg (eRng x).toArray) (.agg (eRng y).toArray)).run P w = .ok (decide (x = y)) w := by rw [hP]; exact fun x y w => eqInRng 9997 x y w
    have hgd : ∀ (op : BinOp) (a b : Operand) (X Y : Array Value) (w : World), (eqGuard op 150 a b (.agg X) (.agg Y)).run P w = .ok () w := fun op a b X Y w => run_eqGuard_agg w op _ a b X Y (by rw [hP]; kernel_rfl)
    clear hP
    go_enter FG, Tryz.ntmps128
    repeat (first | go_skip | go_guarded | go_step | go_upon)
    go_loopg [13] n (fun gg s13 wr => ∃ k q : Nat, k ≤ n ∧ n - k ≤ gg ∧ s13 = .int .i64 k ∧ wr = w.drewN q ∧ Aside (decide (l1 = l2) = decide (l1.drop k = l2.drop k)))
    case atStart => exact ⟨0, 0, Nat.zero_le _, by omega, rfl, rfl, rfl⟩
    case round =>
      obtain ⟨k, q, hk, hg, rfl, rfl, E⟩ := hrel
      by_cases hlt : k < n
      · have hlti : (k : Int) < (n : Int) := by omega
        obtain ⟨x, hx⟩ := get_some (l := l1) (k := k) (by have := N.out; omega)
        obtain ⟨y, hy⟩ := get_some (l := l2) (k := k) (by have := M.out; omega)
        obtain ⟨b, off, rfl, hb, hc⟩ := hcell (by omega)
        obtain ⟨b2, off2, rfl, hb2, hc2⟩ := hcell2 (by omega)
        have g1 : ∀ j, Sem.run P (loadCellsFrom ⟨b, off + k * 3, none⟩ 0 3 #[]) ((w.drewN q).drewN j) = .ok (eRng x).toArray ((w.drewN q).drewN j) := fun j =>
          ld_row (f := eRng) (z := 3) P (fun _ => rfl) (fun j u hj => by rw [World.drewN_drewN, World.cell?_drewN]; exact hc j u hj) hx
        have g2 : ∀ j, Sem.run P (loadCellsFrom ⟨b2, off2 + k * 3, none⟩ 0 3 #[]) ((w.drewN q).drewN j) = .ok (eRng y).toArray ((w.drewN q).drewN j) := fun j =>
          ld_row (f := eRng) (z := 3) P (fun _ => rfl) (fun j u hj => by rw [World.drewN_drewN, World.cell?_drewN]; exact hc2 j u hj) hy
        rw [← hz] at g1 g2
        have D : Aside (decide (l1.drop k = l2.drop k) = (decide (x = y) && decide (l1.drop (k + 1) = l2.drop (k + 1)))) := by
          show _ = _
          rw [drop_get hx, drop_get hy]; exact cons_dec _ _ _ _
        have he := fun w => heq x y w
        clear hc hcell hx hc2 hcell2 hy hz heq
        generalize hX : (eRng x).toArray = X at g1 he
        generalize hY : (eRng y).toArray = Y at g2 he
        clear hX hY
        generalize hwq : w.drewN q = wq at g1 g2 ⊢
        cases hxy : decide (x = y) with
        | true =>
          rw [hxy] at he
          have D2 : Aside (decide (l1 = l2) = decide (l1.drop (k + 1) = l2.drop (k + 1))) := by show _ = _; rw [E.out, D.out, hxy, Bool.true_and]
          clear hxy D
          go_wp2_with fail
          go_quiet_o (fail)
          repeat (first | go_skip | go_guarded | go_step | go_upon)
          go_roundg (n - (k + 1))
          case measure => omega
          case rel => exact ⟨k + 1, q + nq, by omega, by omega, by go_num, by rw [← hwq, World.drewN_drewN], D2.out⟩
        | false =>
          rw [hxy] at he
          have D2 : Aside (decide (l1 = l2) = false) := by show _ = _; rw [E.out, D.out, hxy, Bool.false_and]
          clear hxy D
          go_wp2_with fail
          go_quiet_o (fail)
          repeat (first | go_skip | go_guarded | go_step | go_upon)
          go_ret
          refine ⟨ret_bool D2.out.symm, ?_⟩
          rw [← hwq, World.drewN_drewN]
          exact drewN_below _ _ _
      · have hlti : ¬ (k : Int) < (n : Int) := by omega
        have D : Aside (decide (l1 = l2) = true) := by
          show _ = _
          rw [E.out, drop_end (l := l1) (by have := N.out; omega), drop_end (l := l2) (by have := M.out; omega)]
          simp
        clear hcell hcell2
        repeat (first | go_skip | go_guarded | go_step | go_upon)
        go_ret
        exact ⟨ret_bool D.out.symm, drewN_below _ _ _⟩
  · have hnm' : ¬ (n : Int) = (m : Int) := by omega
    have D : Aside (decide (l1 = l2) = false) := by
      show _ = _
      rw [decide_eq_false]
      intro h
      have := congrArg List.length h
      have := N.out
      have := M.out
      omega
    clear hcell hcell2
    go_enter Tryz.func128, Tryz.ntmps128
    repeat (first | go_skip | go_guarded | go_step | go_upon)
    go_ret
    exact ⟨ret_bool D.out.symm, Below.refl _ _⟩


set_option maxHeartbeats 1000000 in
set_option maxRecDepth 100000 in
/-- slices.Equal. -/
theorem eqNbr (v1 v2 : Value) (l1 l2 : List Nbr) (w : World) (hrow1 : IsRow eNbr 4 w v1 l1) (hl : l1.length ≤ 9223372036854775807) (hrow2 : IsRow eNbr 4 w v2 l2) (hl2 : l2.length ≤ 9223372036854775807) :
    Calls Tryz.prog 130 #[v1, v2] w fun e w' => e = .returned (.bool (decide (l1 = l2))) ∧ Below w.heap.size w w' := by
  obtain ⟨a, cap, rfl, hcap, hcell⟩ := rows_open (z := 4) (by decide) hrow1
  obtain ⟨a2, cap2, rfl, hcap2, hcell2⟩ := rows_open (z := 4) (by decide) hrow2
  obtain ⟨n, hn⟩ : ∃ n, n = l1.length := ⟨_, rfl⟩
  obtain ⟨m, hm⟩ : ∃ m, m = l2.length := ⟨_, rfl⟩
  rw [← hn] at hl hcap hcell ⊢
  rw [← hm] at hl2 hcap2 hcell2 ⊢
  have N := hid hn
  have M := hid hm
  clear hn hrow1 hm hrow2
  by_cases hnm : n = m
  · subst hnm
    obtain ⟨P, hP⟩ : ∃ P, P = Tryz.prog := ⟨_, rfl⟩
    obtain ⟨z, hz⟩ : ∃ z, z = 4 := ⟨_, rfl⟩
    have mixed : P.follows .mixedOrders = true := by rw [hP]; kernel_rfl
    have FG : P.funcs[130]? = some Tryz.f130 := by rw [hP]; exact Tryz.func130
    have ts0 := Tryz.underlying3
    have as0 := Tryz.isAgg3
    have zs0 := Tryz.sizeOf3
    have ts1 := Tryz.underlying4
    have as1 := Tryz.isAgg4
    have zs1 := Tryz.sizeOf4
    have tsl := Tryz.underlying34
    have asl := Tryz.isAgg34
    have zsl := Tryz.sizeOf34
    have ael := Tryz.isAgg156
    have zel := Tryz.sizeOf156
    rw [← hz] at zel
    rw [← hP] at ts0 as0 zs0 ts1 as1 zs1 tsl asl zsl ael zel ⊢
    have heq : ∀ (x y : Nbr) (w : World), (Op.equalIn 10000 156 (.agg (eNbr x).toArray) (.agg (eNbr y).toArray)).run P w = .ok (decide (x = y)) w := by rw [hP]; exact fun x y w => eqInNbr 9998 x y w
    have hgd : ∀ (op : BinOp) (a b : Operand) (X Y : Array Value) (w : World), (eqGuard op 156 a b (.agg X) (.agg Y)).run P w = .ok () w := fun op a b X Y w => run_eqGuard_agg w op _ a b X Y (by rw [hP]; kernel_rfl)
    clear hP
    go_enter FG, Tryz.ntmps130
    repeat (first | go_skip | go_guarded | go_step | go_upon)
    go_loopg [13] n (fun gg s13 wr => ∃ k q : Nat, k ≤ n ∧ n - k ≤ gg ∧ s13 = .int .i64 k ∧ wr = w.drewN q ∧ Aside (decide (l1 = l2) = decide (l1.drop k = l2.drop k)))
    case atStart => exact ⟨0, 0, Nat.zero_le _, by omega, rfl, rfl, rfl⟩
    case round =>
      obtain ⟨k, q, hk, hg, rfl, rfl, E⟩ := hrel
      by_cases hlt : k < n
      · have hlti : (k : Int) < (n : Int) := by omega
        obtain ⟨x, hx⟩ := get_some (l := l1) (k := k) (by have := N.out; omega)
        obtain ⟨y, hy⟩ := get_some (l := l2) (k := k) (by have := M.out; omega)
        obtain ⟨b, off, rfl, hb, hc⟩ := hcell (by omega)
        obtain ⟨b2, off2, rfl, hb2, hc2⟩ := hcell2 (by omega)
        have g1 : ∀ j, Sem.run P (loadCellsFrom ⟨b, off + k * 4, none⟩ 0 4 #[]) ((w.drewN q).drewN j) = .ok (eNbr x).toArray ((w.drewN q).drewN j) := fun j =>
          ld_row (f := eNbr) (z := 4) P (fun _ => rfl) (fun j u hj => by rw [World.drewN_drewN, World.cell?_drewN]; exact hc j u hj) hx
        have g2 : ∀ j, Sem.run P (loadCellsFrom ⟨b2, off2 + k * 4, none⟩ 0 4 #[]) ((w.drewN q).drewN j) = .ok (eNbr y).toArray ((w.drewN q).drewN j) := fun j =>
          ld_row (f := eNbr) (z := 4) P (fun _ => rfl) (fun j u hj => by rw [World.drewN_drewN, World.cell?_drewN]; exact hc2 j u hj) hy
        rw [← hz] at g1 g2
        have D : Aside (decide (l1.drop k = l2.drop k) = (decide (x = y) && decide (l1.drop (k + 1) = l2.drop (k + 1)))) := by
          show _ = _
          rw [drop_get hx, drop_get hy]; exact cons_dec _ _ _ _
        have he := fun w => heq x y w
        clear hc hcell hx hc2 hcell2 hy hz heq
        generalize hX : (eNbr x).toArray = X at g1 he
        generalize hY : (eNbr y).toArray = Y at g2 he
        clear hX hY
        generalize hwq : w.drewN q = wq at g1 g2 ⊢
        cases hxy : decide (x = y) with
        | true =>
          rw [hxy] at he
          have D2 : Aside (decide (l1 = l2) = decide (l1.drop (k + 1) = l2.drop (k + 1))) := by show _ = _; rw [E.out, D.out, hxy, Bool.true_and]
          clear hxy D
          go_wp2_with fail
          go_quiet_o (fail)
          repeat (first | go_skip | go_guarded | go_step | go_upon)
          go_roundg (n - (k + 1))
          case measure => omega
          case rel => exact ⟨k + 1, q + nq, by omega, by omega, by go_num, by rw [← hwq, World.drewN_drewN], D2.out⟩
        | false =>
          rw [hxy] at he
          have D2 : Aside (decide (l1 = l2) = false) := by show _ = _; rw [E.out, D.out, hxy, Bool.false_and]
          clear hxy D
          go_wp2_with fail
          go_quiet_o (fail)
          repeat (first | go_skip | go_guarded | go_step | go_upon)
          go_ret
          refine ⟨ret_bool D2.out.symm, ?_⟩
          rw [← hwq, World.drewN_drewN]
          exact drewN_below _ _ _
      · have hlti : ¬ (k : Int) < (n : Int) := by omega
        have D : Aside (decide (l1 = l2) = true) := by
          show _ = _
          rw [E.out, drop_end (l := l1) (by have := N.out; omega), drop_end (l := l2) (by have := M.out; omega)]
          simp
        clear hcell hcell2
        repeat (first | go_skip | go_guarded | go_step | go_upon)
        go_ret
        exact ⟨ret_bool D.out.symm, drewN_below _ _ _⟩
  · have hnm' : ¬ (n : Int) = (m : Int) := by omega
    have D : Aside (decide (l1 = l2) = false) := by
      show _ = _
      rw [decide_eq_false]
      intro h
      have := congrArg List.length h
      have := N.out
      have := M.out
      omega
    clear hcell hcell2
    go_enter Tryz.func130, Tryz.ntmps130
    repeat (first | go_skip | go_guarded | go_step | go_upon)
    go_ret
    exact ⟨ret_bool D.out.symm, Below.refl _ _⟩


set_option maxHeartbeats 1000000 in
set_option maxRecDepth 100000 in
/-- slices.Equal. -/
theorem eqPfx (v1 v2 : Value) (l1 l2 : List Pfx) (w : World) (hrow1 : IsRow ePfx 2 w v1 l1) (hl : l1.length ≤ 9223372036854775807) (hrow2 : IsRow ePfx 2 w v2 l2) (hl2 : l2.length ≤ 9223372036854775807) :
    Calls Tryz.prog 131 #[v1, v2] w fun e w' => e = .returned (.bool (decide (l1 = l2))) ∧ Below w.heap.size w w' := by
  obtain ⟨a, cap, rfl, hcap, hcell⟩ := rows_open (z := 2) (by decide) hrow1
  obtain ⟨a2, cap2, rfl, hcap2, hcell2⟩ := rows_open (z := 2) (by decide) hrow2
  obtain ⟨n, hn⟩ : ∃ n, n = l1.length := ⟨_, rfl⟩
  obtain ⟨m, hm⟩ : ∃ m, m = l2.length := ⟨_, rfl⟩
  rw [← hn] at hl hcap hcell ⊢
  rw [← hm] at hl2 hcap2 hcell2 ⊢
  have N := hid hn
  have M := hid hm
  clear hn hrow1 hm hrow2
  by_cases hnm : n = m
  · subst hnm
    obtain ⟨P, hP⟩ : ∃ P, P = Tryz.prog := ⟨_, rfl⟩
    obtain ⟨z, hz⟩ : ∃ z, z = 2 := ⟨_, rfl⟩
    have mixed : P.follows .mixedOrders = true := by rw [hP]; kernel_rfl
    have FG : P.funcs[131]? = some Tryz.f131 := by rw [hP]; exact Tryz.func131
    have ts0 := Tryz.underlying3
    have as0 := Tryz.isAgg3
    have zs0 := Tryz.sizeOf3
    have ts1 := Tryz.underlying4
    have as1 := Tryz.isAgg4
    have zs1 := Tryz.sizeOf4
    have tsl := Tryz.underlying35
    have asl := Tryz.isAgg35
    have zsl := Tryz.sizeOf35
    have ael := Tryz.isAgg56
    have zel := Tryz.sizeOf56
    rw [← hz] at zel
    rw [← hP] at ts0 as0 zs0 ts1 as1 zs1 tsl asl zsl ael zel ⊢
    have heq : ∀ (x y : Pfx) (w : World), (Op.equalIn 10000 56 (.agg (ePfx x).toArray) (.agg (ePfx y).toArray)).run P w = .ok (decide (x = y)) w := by rw [hP]; exact fun x y w => eqInPfx 9998 x y w
    have hgd : ∀ (op : BinOp) (a b : Operand) (X Y : Array Value) (w : World), (eqGuard op 56 a b (.agg X) (.agg Y)).run P w = .ok () w := fun op a b X Y w => run_eqGuard_agg w op _ a b X Y (by rw [hP]; kernel_rfl)
    clear hP
    go_enter FG, Tryz.ntmps131
    repeat (first | go_skip | go_guarded | go_step | go_upon)
    go_loopg [13] n (fun gg s13 wr => ∃ k q : Nat, k ≤ n ∧ n - k ≤ gg ∧ s13 = .int .i64 k ∧ wr = w.drewN q ∧ Aside (decide (l1 = l2) = decide (l1.drop k = l2.drop k)))
    case atStart => exact ⟨0, 0, Nat.zero_le _, by omega, rfl, rfl, rfl⟩
    case round =>
      obtain ⟨k, q, hk, hg, rfl, rfl, E⟩ := hrel
      by_cases hlt : k < n
      · have hlti : (k : Int) < (n : Int) := by omega
        obtain ⟨x, hx⟩ := get_some (l := l1) (k := k) (by have := N.out; omega)
        obtain ⟨y, hy⟩ := get_some (l := l2) (k := k) (by have := M.out; omega)
        obtain ⟨b, off, rfl, hb, hc⟩ := hcell (by omega)
        obtain ⟨b2, off2, rfl, hb2, hc2⟩ := hcell2 (by omega)
        have g1 : ∀ j, Sem.run P (loadCellsFrom ⟨b, off + k * 2, none⟩ 0 2 #[]) ((w.drewN q).drewN j) = .ok (ePfx x).toArray ((w.drewN q).drewN j) := fun j =>
          ld_row (f := ePfx) (z := 2) P (fun _ => rfl) (fun j u hj => by rw [World.drewN_drewN, World.cell?_drewN]; exact hc j u hj) hx
        have g2 : ∀ j, Sem.run P (loadCellsFrom ⟨b2, off2 + k * 2, none⟩ 0 2 #[]) ((w.drewN q).drewN j) = .ok (ePfx y).toArray ((w.drewN q).drewN j) := fun j =>
          ld_row (f := ePfx) (z := 2) P (fun _ => rfl) (fun j u hj => by rw [World.drewN_drewN, World.cell?_drewN]; exact hc2 j u hj) hy
        rw [← hz] at g1 g2
        have D : Aside (decide (l1.drop k = l2.drop k) = (decide (x = y) && decide (l1.drop (k + 1) = l2.drop (k + 1)))) := by
          show _ = _
          rw [drop_get hx, drop_get hy]; exact cons_dec _ _ _ _
        have he := fun w => heq x y w
        clear hc hcell hx hc2 hcell2 hy hz heq
        generalize hX : (ePfx x).toArray = X at g1 he
        generalize hY : (ePfx y).toArray = Y at g2 he
        clear hX hY
        generalize hwq : w.drewN q = wq at g1 g2 ⊢
        cases hxy : decide (x = y) with
        | true =>
          rw [hxy] at he
          have D2 : Aside (decide (l1 = l2) = decide (l1.drop (k + 1) = l2.drop (k + 1))) := by show _ = _; rw [E.out, D.out, hxy, Bool.true_and]
          clear hxy D
          go_wp2_with fail
          go_quiet_o (fail)
          repeat (first | go_skip | go_guarded | go_step | go_upon)
          go_roundg (n - (k + 1))
          case measure => omega
          case rel => exact ⟨k + 1, q + nq, by omega, by omega, by go_num, by rw [← hwq, World.drewN_drewN], D2.out⟩
        | false =>
          rw [hxy] at he
          have D2 : Aside (decide (l1 = l2) = false) := by show _ = _; rw [E.out, D.out, hxy, Bool.false_and]
          clear hxy D
          go_wp2_with fail
          go_quiet_o (fail)
          repeat (first | go_skip | go_guarded | go_step | go_upon)
          go_ret
          refine ⟨ret_bool D2.out.symm, ?_⟩
          rw [← hwq, World.drewN_drewN]
          exact drewN_below _ _ _
      · have hlti : ¬ (k : Int) < (n : Int) := by omega
        have D : Aside (decide (l1 = l2) = true) := by
          show _ = _
          rw [E.out, drop_end (l := l1) (by have := N.out; omega), drop_end (l := l2) (by have := M.out; omega)]
          simp
        clear hcell hcell2
        repeat (first | go_skip | go_guarded | go_step | go_upon)
        go_ret
        exact ⟨ret_bool D.out.symm, drewN_below _ _ _⟩
  · have hnm' : ¬ (n : Int) = (m : Int) := by omega
    have D : Aside (decide (l1 = l2) = false) := by
      show _ = _
      rw [decide_eq_false]
      intro h
      have := congrArg List.length h
      have := N.out
      have := M.out
      omega
    clear hcell hcell2
    go_enter Tryz.func131, Tryz.ntmps131
    repeat (first | go_skip | go_guarded | go_step | go_upon)
    go_ret
    exact ⟨ret_bool D.out.symm, Below.refl _ _⟩


set_option maxHeartbeats 1000000 in
set_option maxRecDepth 100000 in
/-- slices.Equal. -/
theorem eqAggr (v1 v2 : Value) (l1 l2 : List Aggr) (w : World) (hrow1 : IsRow eAggr 3 w v1 l1) (hl : l1.length ≤ 9223372036854775807) (hrow2 : IsRow eAggr 3 w v2 l2) (hl2 : l2.length ≤ 9223372036854775807) :
    Calls Tryz.prog 132 #[v1, v2] w fun e w' => e = .returned (.bool (decide (l1 = l2))) ∧ Below w.heap.size w w' := by
  obtain ⟨a, cap, rfl, hcap, hcell⟩ := rows_open (z := 3) (by decide) hrow1
  obtain ⟨a2, cap2, rfl, hcap2, hcell2⟩ := rows_open (z := 3) (by decide) hrow2
  obtain ⟨n, hn⟩ : ∃ n, n = l1.length := ⟨_, rfl⟩
  obtain ⟨m, hm⟩ : ∃ m, m = l2.length := ⟨_, rfl⟩
  rw [← hn] at hl hcap hcell ⊢
  rw [← hm] at hl2 hcap2 hcell2 ⊢
  have N := hid hn
  have M := hid hm
  clear hn hrow1 hm hrow2
  by_cases hnm : n = m
  · subst hnm
    obtain ⟨P, hP⟩ : ∃ P, P = Tryz.prog := ⟨_, rfl⟩
    obtain ⟨z, hz⟩ : ∃ z, z = 3 := ⟨_, rfl⟩
    have mixed : P.follows .mixedOrders = true := by rw [hP]; kernel_rfl
    have FG : P.funcs[132]? = some Tryz.f132 := by rw [hP]; exact Tryz.func132
    have ts0 := Tryz.underlying3
    have as0 := Tryz.isAgg3
    have zs0 := Tryz.sizeOf3
    have ts1 := Tryz.underlying4
    have as1 := Tryz.isAgg4
    have zs1 := Tryz.sizeOf4
    have tsl := Tryz.underlying36
    have asl := Tryz.isAgg36
    have zsl := Tryz.sizeOf36
    have ael := Tryz.isAgg163
    have zel := Tryz.sizeOf163
    rw [← hz] at zel
    rw [← hP] at ts0 as0 zs0 ts1 as1 zs1 tsl asl zsl ael zel ⊢
    have heq : ∀ (x y : Aggr) (w : World), (Op.equalIn 10000 163 (.agg (eAggr x).toArray) (.agg (eAggr y).toArray)).run P w = .ok (decide (x = y)) w := by rw [hP]; exact fun x y w => eqInAggr 9997 x y w
    have hgd : ∀ (op : BinOp) (a b : Operand) (X Y : Array Value) (w : World), (eqGuard op 163 a b (.agg X) (.agg Y)).run P w = .ok () w := fun op a b X Y w => run_eqGuard_agg w op _ a b X Y (by rw [hP]; kernel_rfl)
    clear hP
    go_enter FG, Tryz.ntmps132
    repeat (first | go_skip | go_guarded | go_step | go_upon)
    go_loopg [13] n (fun gg s13 wr => ∃ k q : Nat, k ≤ n ∧ n - k ≤ gg ∧ s13 = .int .i64 k ∧ wr = w.drewN q ∧ Aside (decide (l1 = l2) = decide (l1.drop k = l2.drop k)))
    case atStart => exact ⟨0, 0, Nat.zero_le _, by omega, rfl, rfl, rfl⟩
    case round =>
      obtain ⟨k, q, hk, hg, rfl, rfl, E⟩ := hrel
      by_cases hlt : k < n
      · have hlti : (k : Int) < (n : Int) := by omega
        obtain ⟨x, hx⟩ := get_some (l := l1) (k := k) (by have := N.out; omega)
        obtain ⟨y, hy⟩ := get_some (l := l2) (k := k) (by have := M.out; omega)
        obtain ⟨b, off, rfl, hb, hc⟩ := hcell (by omega)
        obtain ⟨b2, off2, rfl, hb2, hc2⟩ := hcell2 (by omega)
        have g1 : ∀ j, Sem.run P (loadCellsFrom ⟨b, off + k * 3, none⟩ 0 3 #[]) ((w.drewN q).drewN j) = .ok (eAggr x).toArray ((w.drewN q).drewN j) := fun j =>
          ld_row (f := eAggr) (z := 3) P (fun _ => rfl) (fun j u hj => by rw [World.drewN_drewN, World.cell?_drewN]; exact hc j u hj) hx
        have g2 : ∀ j, Sem.run P (loadCellsFrom ⟨b2, off2 + k * 3, none⟩ 0 3 #[]) ((w.drewN q).drewN j) = .ok (eAggr y).toArray ((w.drewN q).drewN j) := fun j =>
          ld_row (f := eAggr) (z := 3) P (fun _ => rfl) (fun j u hj => by rw [World.drewN_drewN, World.cell?_drewN]; exact hc2 j u hj) hy
        rw [← hz] at g1 g2
        have D : Aside (decide (l1.drop k = l2.drop k) = (decide (x = y) && decide (l1.drop (k + 1) = l2.drop (k + 1)))) := by
          show _ = _
          rw [drop_get hx, drop_get hy]; exact cons_dec _ _ _ _
        have he := fun w => heq x y w
        clear hc hcell hx hc2 hcell2 hy hz heq
        generalize hX : (eAggr x).toArray = X at g1 he
        generalize hY : (eAggr y).toArray = Y at g2 he
        clear hX hY
        generalize hwq : w.drewN q = wq at g1 g2 ⊢
        cases hxy : decide (x = y) with
        | true =>
          rw [hxy] at he
          have D2 : Aside (decide (l1 = l2) = decide (l1.drop (k + 1) = l2.drop (k + 1))) := by show _ = _; rw [E.out, D.out, hxy, Bool.true_and]
          clear hxy D
          go_wp2_with fail
          go_quiet_o (fail)
          repeat (first | go_skip | go_guarded | go_step | go_upon)
          go_roundg (n - (k + 1))
          case measure => omega
          case rel => exact ⟨k + 1, q + nq, by omega, by omega, by go_num, by rw [← hwq, World.drewN_drewN], D2.out⟩
        | false =>
          rw [hxy] at he
          have D2 : Aside (decide (l1 = l2) = false) := by show _ = _; rw [E.out, D.out, hxy, Bool.false_and]
          clear hxy D
          go_wp2_with fail
          go_quiet_o (fail)
          repeat (first | go_skip | go_guarded | go_step | go_upon)
          go_ret
          refine ⟨ret_bool D2.out.symm, ?_⟩
          rw [← hwq, World.drewN_drewN]
          exact drewN_below _ _ _
      · have hlti : ¬ (k : Int) < (n : Int) := by omega
        have D : Aside (decide (l1 = l2) = true) := by
          show _ = _
          rw [E.out, drop_end (l := l1) (by have := N.out; omega), drop_end (l := l2) (by have := M.out; omega)]
          simp
        clear hcell hcell2
        repeat (first | go_skip | go_guarded | go_step | go_upon)
        go_ret
        exact ⟨ret_bool D.out.symm, drewN_below _ _ _⟩
  · have hnm' : ¬ (n : Int) = (m : Int) := by omega
    have D : Aside (decide (l1 = l2) = false) := by
      show _ = _
      rw [decide_eq_false]
      intro h
      have := congrArg List.length h
      have := N.out
      have := M.out
      omega
    clear hcell hcell2
    go_enter Tryz.func132, Tryz.ntmps132
    repeat (first | go_skip | go_guarded | go_step | go_upon)
    go_ret
    exact ⟨ret_bool D.out.symm, Below.refl _ _⟩


set_option maxHeartbeats 1000000 in
set_option maxRecDepth 100000 in
/-- slices.Equal. -/
theorem eqCnd (v1 v2 : Value) (l1 l2 : List Cnd) (w : World) (hrow1 : IsRow eCnd 5 w v1 l1) (hl : l1.length ≤ 9223372036854775807) (hrow2 : IsRow eCnd 5 w v2 l2) (hl2 : l2.length ≤ 9223372036854775807) :
    Calls Tryz.prog 133 #[v1, v2] w fun e w' => e = .returned (.bool (decide (l1 = l2))) ∧ Below w.heap.size w w' := by
  obtain ⟨a, cap, rfl, hcap, hcell⟩ := rows_open (z := 5) (by decide) hrow1
  obtain ⟨a2, cap2, rfl, hcap2, hcell2⟩ := rows_open (z := 5) (by decide) hrow2
  obtain ⟨n, hn⟩ : ∃ n, n = l1.length := ⟨_, rfl⟩
  obtain ⟨m, hm⟩ : ∃ m, m = l2.length := ⟨_, rfl⟩
  rw [← hn] at hl hcap hcell ⊢
  rw [← hm] at hl2 hcap2 hcell2 ⊢
  have N := hid hn
  have M := hid hm
  clear hn hrow1 hm hrow2
  by_cases hnm : n = m
  · subst hnm
    obtain ⟨P, hP⟩ : ∃ P, P = Tryz.prog := ⟨_, rfl⟩
    obtain ⟨z, hz⟩ : ∃ z, z = 5 := ⟨_, rfl⟩
    have mixed : P.follows .mixedOrders = true := by rw [hP]; kernel_rfl
    have FG : P.funcs[133]? = some Tryz.f133 := by rw [hP]; exact Tryz.func133
    have ts0 := Tryz.underlying3
    have as0 := Tryz.isAgg3
    have zs0 := Tryz.sizeOf3
    have ts1 := Tryz.underlying4
    have as1 := Tryz.isAgg4
    have zs1 := Tryz.sizeOf4
    have tsl := Tryz.underlying37
    have asl := Tryz.isAgg37
    have zsl := Tryz.sizeOf37
    have ael := Tryz.isAgg165
    have zel := Tryz.sizeOf165
    rw [← hz] at zel
    rw [← hP] at ts0 as0 zs0 ts1 as1 zs1 tsl asl zsl ael zel ⊢
    have heq : ∀ (x y : Cnd) (w : World), (Op.equalIn 10000 165 (.agg (eCnd x).toArray) (.agg (eCnd y).toArray)).run P w = .ok (decide (x = y)) w := by rw [hP]; exact fun x y w => eqInCnd 9997 x y w
    have hgd : ∀ (op : BinOp) (a b : Operand) (X Y : Array Value) (w : World), (eqGuard op 165 a b (.agg X) (.agg Y)).run P w = .ok () w := fun op a b X Y w => run_eqGuard_agg w op _ a b X Y (by rw [hP]; kernel_rfl)
    clear hP
    go_enter FG, Tryz.ntmps133
    repeat (first | go_skip | go_guarded | go_step | go_upon)
    go_loopg [13] n (fun gg s13 wr => ∃ k q : Nat, k ≤ n ∧ n - k ≤ gg ∧ s13 = .int .i64 k ∧ wr = w.drewN q ∧ Aside (decide (l1 = l2) = decide (l1.drop k = l2.drop k)))
    case atStart => exact ⟨0, 0, Nat.zero_le _, by omega, rfl, rfl, rfl⟩
    case round =>
      obtain ⟨k, q, hk, hg, rfl, rfl, E⟩ := hrel
      by_cases hlt : k < n
      · have hlti : (k : Int) < (n : Int) := by omega
        obtain ⟨x, hx⟩ := get_some (l := l1) (k := k) (by have := N.out; omega)
        obtain ⟨y, hy⟩ := get_some (l := l2) (k := k) (by have := M.out; omega)
        obtain ⟨b, off, rfl, hb, hc⟩ := hcell (by omega)
        obtain ⟨b2, off2, rfl, hb2, hc2⟩ := hcell2 (by omega)
        have g1 : ∀ j, Sem.run P (loadCellsFrom ⟨b, off + k * 5, none⟩ 0 5 #[]) ((w.drewN q).drewN j) = .ok (eCnd x).toArray ((w.drewN q).drewN j) := fun j =>
          ld_row (f := eCnd) (z := 5) P (fun _ => rfl) (fun j u hj => by rw [World.drewN_drewN, World.cell?_drewN]; exact hc j u hj) hx
        have g2 : ∀ j, Sem.run P (loadCellsFrom ⟨b2, off2 + k * 5, none⟩ 0 5 #[]) ((w.drewN q).drewN j) = .ok (eCnd y).toArray ((w.drewN q).drewN j) := fun j =>
          ld_row (f := eCnd) (z := 5) P (fun _ => rfl) (fun j u hj => by rw [World.drewN_drewN, World.cell?_drewN]; exact hc2 j u hj) hy
        rw [← hz] at g1 g2
        have D : Aside (decide (l1.drop k = l2.drop k) = (decide (x = y) && decide (l1.drop (k + 1) = l2.drop (k + 1)))) := by
          show _ = _
          rw [drop_get hx, drop_get hy]; exact cons_dec _ _ _ _
        have he := fun w => heq x y w
        clear hc hcell hx hc2 hcell2 hy hz heq
        generalize hX : (eCnd x).toArray = X at g1 he
        generalize hY : (eCnd y).toArray = Y at g2 he
        clear hX hY
        generalize hwq : w.drewN q = wq at g1 g2 ⊢
        cases hxy : decide (x = y) with
        | true =>
          rw [hxy] at he
          have D2 : Aside (decide (l1 = l2) = decide (l1.drop (k + 1) = l2.drop (k + 1))) := by show _ = _; rw [E.out, D.out, hxy, Bool.true_and]
          clear hxy D
          go_wp2_with fail
          go_quiet_o (fail)
          repeat (first | go_skip | go_guarded | go_step | go_upon)
          go_roundg (n - (k + 1))
          case measure => omega
          case rel => exact ⟨k + 1, q + nq, by omega, by omega, by go_num, by rw [← hwq, World.drewN_drewN], D2.out⟩
        | false =>
          rw [hxy] at he
          have D2 : Aside (decide (l1 = l2) = false) := by show _ = _; rw [E.out, D.out, hxy, Bool.false_and]
          clear hxy D
          go_wp2_with fail
          go_quiet_o (fail)
          repeat (first | go_skip | go_guarded | go_step | go_upon)
          go_ret
          refine ⟨ret_bool D2.out.symm, ?_⟩
          rw [← hwq, World.drewN_drewN]
          exact drewN_below _ _ _
      · have hlti : ¬ (k : Int) < (n : Int) := by omega
        have D : Aside (decide (l1 = l2) = true) := by
          show _ = _
          rw [E.out, drop_end (l := l1) (by have := N.out; omega), drop_end (l := l2) (by have := M.out; omega)]
          simp
        clear hcell hcell2
        repeat (first | go_skip | go_guarded | go_step | go_upon)
        go_ret
        exact ⟨ret_bool D.out.symm, drewN_below _ _ _⟩
  · have hnm' : ¬ (n : Int) = (m : Int) := by omega
    have D : Aside (decide (l1 = l2) = false) := by
      show _ = _
      rw [decide_eq_false]
      intro h
      have := congrArg List.length h
      have := N.out
      have := M.out
      omega
    clear hcell hcell2
    go_enter Tryz.func133, Tryz.ntmps133
    repeat (first | go_skip | go_guarded | go_step | go_upon)
    go_ret
    exact ⟨ret_bool D.out.symm, Below.refl _ _⟩

end Go.Proofs.YtlhbfpapmolohaaGreat.Mw
