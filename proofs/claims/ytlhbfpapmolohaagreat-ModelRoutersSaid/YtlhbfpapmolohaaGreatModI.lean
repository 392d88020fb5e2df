/-
  THE CONTRACTS OF slices.IndexFunc AT EACH TYPE.
-/
import Derived.Test.YtlhbfpapmolohaaGreatProg
import Derived.Test.YtlhbfpapmolohaaGreatModP
import Derived.Test.YtlhbfpapmolohaaGreatModM
import Derived.Deep.LoopGhost
import Derived.Deep.WholeRow
import Derived.WalkKit
import Derived.WalkSpells
import Derived.IntWalk
namespace Go.Proofs.YtlhbfpapmolohaaGreat.Mw
set_option linter.unusedSimpArgs false
set_option linter.unusedVariables false
open Go.RowKit Kt Mm Mp



set_option maxHeartbeats 1000000 in
/-- slices.IndexFunc. -/
theorem ixIfc (v : Value) (l : List Ifc) (p : Ifc → Bool) (g : Nat) (lb : Array Value) (eg : ∀ args w, (callFunc g args).run Tryz.prog w = .ok (.enter g args) w) (w : World) (hrow : IsRow eIfc 12 w v l) (hl : l.length ≤ 9223372036854775807) (hp : Pred Tryz.prog g lb eIfc p l w) :
    Calls Tryz.prog 115 #[v, .func (.func g) #[] lb] w fun e w' => e = .returned (.int .i64 (ixB p l)) ∧ Below w.heap.size w w' := by
  obtain ⟨a, cap, rfl, hcap, hcell⟩ := rows_open (z := 12) (by decide) hrow
  obtain ⟨n, hn⟩ : ∃ n, n = l.length := ⟨_, rfl⟩
  rw [← hn] at hl hcap hcell ⊢
  have N := hid hn
  clear hn hrow
  obtain ⟨P, hP⟩ : ∃ P, P = Tryz.prog := ⟨_, rfl⟩
  obtain ⟨z, hz⟩ : ∃ z, z = 12 := ⟨_, rfl⟩
  have mixed : P.follows .mixedOrders = true := by rw [hP]; kernel_rfl
  have FG : P.funcs[115]? = some Tryz.f115 := by rw [hP]; exact Tryz.func115
  have ts0 := Tryz.underlying3
  have as0 := Tryz.isAgg3
  have zs0 := Tryz.sizeOf3
  have ts1 := Tryz.underlying4
  have as1 := Tryz.isAgg4
  have zs1 := Tryz.sizeOf4
  have tsl := Tryz.underlying22
  have asl := Tryz.isAgg22
  have zsl := Tryz.sizeOf22
  have ael := Tryz.isAgg53
  have zel := Tryz.sizeOf53
  rw [← hz] at zel
  rw [← hP] at ts0 as0 zs0 ts1 as1 zs1 tsl asl zsl ael zel eg hp ⊢
  clear hP
  go_enter FG, Tryz.ntmps115
  go_wp2
  go_loopg [5, 8] n (fun gg _ s8 wr => ∃ k : Nat, k ≤ n ∧ n - k ≤ gg ∧ s8 = .int .i64 k ∧ Aside (Below w.heap.size w wr) ∧ Aside (ixB p l = ixF p k (l.drop k)))
  case atStart => exact ⟨0, Nat.zero_le _, by omega, rfl, Below.refl _ w, rfl⟩
  case round =>
    obtain ⟨k, hk, hg, rfl, BW, E⟩ := hrel
    by_cases hlt : k < n
    · have hlti : (k : Int) < (n : Int) := by omega
      obtain ⟨x, hx⟩ := get_some (l := l) (k := k) (by have := N.out; omega)
      obtain ⟨b, off, rfl, hb, hc⟩ := hcell (by omega)
      have hl2 : Sem.run P (loadCellsFrom ⟨b, off + k * 12, none⟩ 0 12 #[]) wr = .ok (eIfc x).toArray wr :=
        ld_row (f := eIfc) (z := 12) P (fun _ => rfl) (fun j u hj => (BW.out.cell (p := ⟨b, off + j, none⟩) hb).trans (hc j u hj)) hx
      rw [← hz] at hl2
      have hcall := hp wr x (get_mem hx) BW.out
      have D : Aside (l.drop k = x :: l.drop (k + 1)) := drop_get hx
      clear hp hc hcell hx hz
      obtain ⟨X, hX⟩ : ∃ X, X = (eIfc x).toArray := ⟨_, rfl⟩
      rw [← hX] at hl2 hcall
      clear hX
      cases hq : p x with
      | true =>
        have Q : Aside (p x = true) := hq
        rw [hq] at hcall
        clear hq
        iterate 44 (first | go_skip | go_guarded | go_step | go_upon)
        refine wp_call_fn (g := g) (lb := lb) _ rfl _ rfl rfl [.agg X] rfl eg ?_
        refine hcall.mono ?_; rintro e w' ⟨rfl, hb'⟩; refine ⟨_, rfl, ?_⟩
        clear hcall hl2
        repeat (first | go_skip | go_guarded | go_step | go_upon)
        go_ret
        refine ⟨?_, then_ BW.out hb'⟩
        rw [E.out, D.out, ixF_hit Q.out]
        rfl
      | false =>
        have Q : Aside (p x = false) := hq
        rw [hq] at hcall
        clear hq
        iterate 44 (first | go_skip | go_guarded | go_step | go_upon)
        refine wp_call_fn (g := g) (lb := lb) _ rfl _ rfl rfl [.agg X] rfl eg ?_
        refine hcall.mono ?_; rintro e w' ⟨rfl, hb'⟩; refine ⟨_, rfl, ?_⟩
        clear hcall hl2
        repeat (first | go_skip | go_guarded | go_step | go_upon)
        go_roundg (n - (k + 1))
        case measure => omega
        case rel =>
          refine ⟨k + 1, by omega, by omega, by go_num, then_ BW.out hb', ?_⟩
          show _ = _
          rw [E.out, D.out, ixF_next Q.out]
    · have hlti : ¬ (k : Int) < (n : Int) := by omega
      have D : Aside (l.drop k = []) := drop_end (by have := N.out; omega)
      clear hp hcell
      go_wp2
      go_ret
      refine ⟨?_, BW.out⟩
      rw [E.out, D.out]
      rfl


set_option maxHeartbeats 1000000 in
/-- slices.IndexFunc. -/
theorem ixPList (v : Value) (l : List PList) (p : PList → Bool) (g : Nat) (lb : Array Value) (eg : ∀ args w, (callFunc g args).run Tryz.prog w = .ok (.enter g args) w) (w : World) (hrow : IsRow ePList 2 w v l) (hl : l.length ≤ 9223372036854775807) (hp : Pred Tryz.prog g lb ePList p l w) :
    Calls Tryz.prog 141 #[v, .func (.func g) #[] lb] w fun e w' => e = .returned (.int .i64 (ixB p l)) ∧ Below w.heap.size w w' := by
  obtain ⟨a, cap, rfl, hcap, hcell⟩ := rows_open (z := 2) (by decide) hrow
  obtain ⟨n, hn⟩ : ∃ n, n = l.length := ⟨_, rfl⟩
  rw [← hn] at hl hcap hcell ⊢
  have N := hid hn
  clear hn hrow
  obtain ⟨P, hP⟩ : ∃ P, P = Tryz.prog := ⟨_, rfl⟩
  obtain ⟨z, hz⟩ : ∃ z, z = 2 := ⟨_, rfl⟩
  have mixed : P.follows .mixedOrders = true := by rw [hP]; kernel_rfl
  have FG : P.funcs[141]? = some Tryz.f141 := by rw [hP]; exact Tryz.func141
  have ts0 := Tryz.underlying3
  have as0 := Tryz.isAgg3
  have zs0 := Tryz.sizeOf3
  have ts1 := Tryz.underlying4
  have as1 := Tryz.isAgg4
  have zs1 := Tryz.sizeOf4
  have tsl := Tryz.underlying23
  have asl := Tryz.isAgg23
  have zsl := Tryz.sizeOf23
  have ael := Tryz.isAgg64
  have zel := Tryz.sizeOf64
  rw [← hz] at zel
  rw [← hP] at ts0 as0 zs0 ts1 as1 zs1 tsl asl zsl ael zel eg hp ⊢
  clear hP
  go_enter FG, Tryz.ntmps141
  go_wp2
  go_loopg [5, 8] n (fun gg _ s8 wr => ∃ k : Nat, k ≤ n ∧ n - k ≤ gg ∧ s8 = .int .i64 k ∧ Aside (Below w.heap.size w wr) ∧ Aside (ixB p l = ixF p k (l.drop k)))
  case atStart => exact ⟨0, Nat.zero_le _, by omega, rfl, Below.refl _ w, rfl⟩
  case round =>
    obtain ⟨k, hk, hg, rfl, BW, E⟩ := hrel
    by_cases hlt : k < n
    · have hlti : (k : Int) < (n : Int) := by omega
      obtain ⟨x, hx⟩ := get_some (l := l) (k := k) (by have := N.out; omega)
      obtain ⟨b, off, rfl, hb, hc⟩ := hcell (by omega)
      have hl2 : Sem.run P (loadCellsFrom ⟨b, off + k * 2, none⟩ 0 2 #[]) wr = .ok (ePList x).toArray wr :=
        ld_row (f := ePList) (z := 2) P (fun _ => rfl) (fun j u hj => (BW.out.cell (p := ⟨b, off + j, none⟩) hb).trans (hc j u hj)) hx
      rw [← hz] at hl2
      have hcall := hp wr x (get_mem hx) BW.out
      have D : Aside (l.drop k = x :: l.drop (k + 1)) := drop_get hx
      clear hp hc hcell hx hz
      obtain ⟨X, hX⟩ : ∃ X, X = (ePList x).toArray := ⟨_, rfl⟩
      rw [← hX] at hl2 hcall
      clear hX
      cases hq : p x with
      | true =>
        have Q : Aside (p x = true) := hq
        rw [hq] at hcall
        clear hq
        iterate 44 (first | go_skip | go_guarded | go_step | go_upon)
        refine wp_call_fn (g := g) (lb := lb) _ rfl _ rfl rfl [.agg X] rfl eg ?_
        refine hcall.mono ?_; rintro e w' ⟨rfl, hb'⟩; refine ⟨_, rfl, ?_⟩
        clear hcall hl2
        repeat (first | go_skip | go_guarded | go_step | go_upon)
        go_ret
        refine ⟨?_, then_ BW.out hb'⟩
        rw [E.out, D.out, ixF_hit Q.out]
        rfl
      | false =>
        have Q : Aside (p x = false) := hq
        rw [hq] at hcall
        clear hq
        iterate 44 (first | go_skip | go_guarded | go_step | go_upon)
        refine wp_call_fn (g := g) (lb := lb) _ rfl _ rfl rfl [.agg X] rfl eg ?_
        refine hcall.mono ?_; rintro e w' ⟨rfl, hb'⟩; refine ⟨_, rfl, ?_⟩
        clear hcall hl2
        repeat (first | go_skip | go_guarded | go_step | go_upon)
        go_roundg (n - (k + 1))
        case measure => omega
        case rel =>
          refine ⟨k + 1, by omega, by omega, by go_num, then_ BW.out hb', ?_⟩
          show _ = _
          rw [E.out, D.out, ixF_next Q.out]
    · have hlti : ¬ (k : Int) < (n : Int) := by omega
      have D : Aside (l.drop k = []) := drop_end (by have := N.out; omega)
      clear hp hcell
      go_wp2
      go_ret
      refine ⟨?_, BW.out⟩
      rw [E.out, D.out]
      rfl


set_option maxHeartbeats 1000000 in
/-- slices.IndexFunc. -/
theorem ixRMap (v : Value) (l : List RMap) (p : RMap → Bool) (g : Nat) (lb : Array Value) (eg : ∀ args w, (callFunc g args).run Tryz.prog w = .ok (.enter g args) w) (w : World) (hrow : IsRow eRMap 2 w v l) (hl : l.length ≤ 9223372036854775807) (hp : Pred Tryz.prog g lb eRMap p l w) :
    Calls Tryz.prog 145 #[v, .func (.func g) #[] lb] w fun e w' => e = .returned (.int .i64 (ixB p l)) ∧ Below w.heap.size w w' := by
  obtain ⟨a, cap, rfl, hcap, hcell⟩ := rows_open (z := 2) (by decide) hrow
  obtain ⟨n, hn⟩ : ∃ n, n = l.length := ⟨_, rfl⟩
  rw [← hn] at hl hcap hcell ⊢
  have N := hid hn
  clear hn hrow
  obtain ⟨P, hP⟩ : ∃ P, P = Tryz.prog := ⟨_, rfl⟩
  obtain ⟨z, hz⟩ : ∃ z, z = 2 := ⟨_, rfl⟩
  have mixed : P.follows .mixedOrders = true := by rw [hP]; kernel_rfl
  have FG : P.funcs[145]? = some Tryz.f145 := by rw [hP]; exact Tryz.func145
  have ts0 := Tryz.underlying3
  have as0 := Tryz.isAgg3
  have zs0 := Tryz.sizeOf3
  have ts1 := Tryz.underlying4
  have as1 := Tryz.isAgg4
  have zs1 := Tryz.sizeOf4
  have tsl := Tryz.underlying24
  have asl := Tryz.isAgg24
  have zsl := Tryz.sizeOf24
  have ael := Tryz.isAgg67
  have zel := Tryz.sizeOf67
  rw [← hz] at zel
  rw [← hP] at ts0 as0 zs0 ts1 as1 zs1 tsl asl zsl ael zel eg hp ⊢
  clear hP
  go_enter FG, Tryz.ntmps145
  go_wp2
  go_loopg [5, 8] n (fun gg _ s8 wr => ∃ k : Nat, k ≤ n ∧ n - k ≤ gg ∧ s8 = .int .i64 k ∧ Aside (Below w.heap.size w wr) ∧ Aside (ixB p l = ixF p k (l.drop k)))
  case atStart => exact ⟨0, Nat.zero_le _, by omega, rfl, Below.refl _ w, rfl⟩
  case round =>
    obtain ⟨k, hk, hg, rfl, BW, E⟩ := hrel
    by_cases hlt : k < n
    · have hlti : (k : Int) < (n : Int) := by omega
      obtain ⟨x, hx⟩ := get_some (l := l) (k := k) (by have := N.out; omega)
      obtain ⟨b, off, rfl, hb, hc⟩ := hcell (by omega)
      have hl2 : Sem.run P (loadCellsFrom ⟨b, off + k * 2, none⟩ 0 2 #[]) wr = .ok (eRMap x).toArray wr :=
        ld_row (f := eRMap) (z := 2) P (fun _ => rfl) (fun j u hj => (BW.out.cell (p := ⟨b, off + j, none⟩) hb).trans (hc j u hj)) hx
      rw [← hz] at hl2
      have hcall := hp wr x (get_mem hx) BW.out
      have D : Aside (l.drop k = x :: l.drop (k + 1)) := drop_get hx
      clear hp hc hcell hx hz
      obtain ⟨X, hX⟩ : ∃ X, X = (eRMap x).toArray := ⟨_, rfl⟩
      rw [← hX] at hl2 hcall
      clear hX
      cases hq : p x with
      | true =>
        have Q : Aside (p x = true) := hq
        rw [hq] at hcall
        clear hq
        iterate 44 (first | go_skip | go_guarded | go_step | go_upon)
        refine wp_call_fn (g := g) (lb := lb) _ rfl _ rfl rfl [.agg X] rfl eg ?_
        refine hcall.mono ?_; rintro e w' ⟨rfl, hb'⟩; refine ⟨_, rfl, ?_⟩
        clear hcall hl2
        repeat (first | go_skip | go_guarded | go_step | go_upon)
        go_ret
        refine ⟨?_, then_ BW.out hb'⟩
        rw [E.out, D.out, ixF_hit Q.out]
        rfl
      | false =>
        have Q : Aside (p x = false) := hq
        rw [hq] at hcall
        clear hq
        iterate 44 (first | go_skip | go_guarded | go_step | go_upon)
        refine wp_call_fn (g := g) (lb := lb) _ rfl _ rfl rfl [.agg X] rfl eg ?_
        refine hcall.mono ?_; rintro e w' ⟨rfl, hb'⟩; refine ⟨_, rfl, ?_⟩
        clear hcall hl2
        repeat (first | go_skip | go_guarded | go_step | go_upon)
        go_roundg (n - (k + 1))
        case measure => omega
        case rel =>
          refine ⟨k + 1, by omega, by omega, by go_num, then_ BW.out hb', ?_⟩
          show _ = _
          rw [E.out, D.out, ixF_next Q.out]
    · have hlti : ¬ (k : Int) < (n : Int) := by omega
      have D : Aside (l.drop k = []) := drop_end (by have := N.out; omega)
      clear hp hcell
      go_wp2
      go_ret
      refine ⟨?_, BW.out⟩
      rw [E.out, D.out]
      rfl


set_option maxHeartbeats 1000000 in
/-- slices.IndexFunc. -/
theorem ixAcl (v : Value) (l : List Acl) (p : Acl → Bool) (g : Nat) (lb : Array Value) (eg : ∀ args w, (callFunc g args).run Tryz.prog w = .ok (.enter g args) w) (w : World) (hrow : IsRow eAcl 2 w v l) (hl : l.length ≤ 9223372036854775807) (hp : Pred Tryz.prog g lb eAcl p l w) :
    Calls Tryz.prog 147 #[v, .func (.func g) #[] lb] w fun e w' => e = .returned (.int .i64 (ixB p l)) ∧ Below w.heap.size w w' := by
  obtain ⟨a, cap, rfl, hcap, hcell⟩ := rows_open (z := 2) (by decide) hrow
  obtain ⟨n, hn⟩ : ∃ n, n = l.length := ⟨_, rfl⟩
  rw [← hn] at hl hcap hcell ⊢
  have N := hid hn
  clear hn hrow
  obtain ⟨P, hP⟩ : ∃ P, P = Tryz.prog := ⟨_, rfl⟩
  obtain ⟨z, hz⟩ : ∃ z, z = 2 := ⟨_, rfl⟩
  have mixed : P.follows .mixedOrders = true := by rw [hP]; kernel_rfl
  have FG : P.funcs[147]? = some Tryz.f147 := by rw [hP]; exact Tryz.func147
  have ts0 := Tryz.underlying3
  have as0 := Tryz.isAgg3
  have zs0 := Tryz.sizeOf3
  have ts1 := Tryz.underlying4
  have as1 := Tryz.isAgg4
  have zs1 := Tryz.sizeOf4
  have tsl := Tryz.underlying25
  have asl := Tryz.isAgg25
  have zsl := Tryz.sizeOf25
  have ael := Tryz.isAgg70
  have zel := Tryz.sizeOf70
  rw [← hz] at zel
  rw [← hP] at ts0 as0 zs0 ts1 as1 zs1 tsl asl zsl ael zel eg hp ⊢
  clear hP
  go_enter FG, Tryz.ntmps147
  go_wp2
  go_loopg [5, 8] n (fun gg _ s8 wr => ∃ k : Nat, k ≤ n ∧ n - k ≤ gg ∧ s8 = .int .i64 k ∧ Aside (Below w.heap.size w wr) ∧ Aside (ixB p l = ixF p k (l.drop k)))
  case atStart => exact ⟨0, Nat.zero_le _, by omega, rfl, Below.refl _ w, rfl⟩
  case round =>
    obtain ⟨k, hk, hg, rfl, BW, E⟩ := hrel
    by_cases hlt : k < n
    · have hlti : (k : Int) < (n : Int) := by omega
      obtain ⟨x, hx⟩ := get_some (l := l) (k := k) (by have := N.out; omega)
      obtain ⟨b, off, rfl, hb, hc⟩ := hcell (by omega)
      have hl2 : Sem.run P (loadCellsFrom ⟨b, off + k * 2, none⟩ 0 2 #[]) wr = .ok (eAcl x).toArray wr :=
        ld_row (f := eAcl) (z := 2) P (fun _ => rfl) (fun j u hj => (BW.out.cell (p := ⟨b, off + j, none⟩) hb).trans (hc j u hj)) hx
      rw [← hz] at hl2
      have hcall := hp wr x (get_mem hx) BW.out
      have D : Aside (l.drop k = x :: l.drop (k + 1)) := drop_get hx
      clear hp hc hcell hx hz
      obtain ⟨X, hX⟩ : ∃ X, X = (eAcl x).toArray := ⟨_, rfl⟩
      rw [← hX] at hl2 hcall
      clear hX
      cases hq : p x with
      | true =>
        have Q : Aside (p x = true) := hq
        rw [hq] at hcall
        clear hq
        iterate 44 (first | go_skip | go_guarded | go_step | go_upon)
        refine wp_call_fn (g := g) (lb := lb) _ rfl _ rfl rfl [.agg X] rfl eg ?_
        refine hcall.mono ?_; rintro e w' ⟨rfl, hb'⟩; refine ⟨_, rfl, ?_⟩
        clear hcall hl2
        repeat (first | go_skip | go_guarded | go_step | go_upon)
        go_ret
        refine ⟨?_, then_ BW.out hb'⟩
        rw [E.out, D.out, ixF_hit Q.out]
        rfl
      | false =>
        have Q : Aside (p x = false) := hq
        rw [hq] at hcall
        clear hq
        iterate 44 (first | go_skip | go_guarded | go_step | go_upon)
        refine wp_call_fn (g := g) (lb := lb) _ rfl _ rfl rfl [.agg X] rfl eg ?_
        refine hcall.mono ?_; rintro e w' ⟨rfl, hb'⟩; refine ⟨_, rfl, ?_⟩
        clear hcall hl2
        repeat (first | go_skip | go_guarded | go_step | go_upon)
        go_roundg (n - (k + 1))
        case measure => omega
        case rel =>
          refine ⟨k + 1, by omega, by omega, by go_num, then_ BW.out hb', ?_⟩
          show _ = _
          rw [E.out, D.out, ixF_next Q.out]
    · have hlti : ¬ (k : Int) < (n : Int) := by omega
      have D : Aside (l.drop k = []) := drop_end (by have := N.out; omega)
      clear hp hcell
      go_wp2
      go_ret
      refine ⟨?_, BW.out⟩
      rw [E.out, D.out]
      rfl


set_option maxHeartbeats 1000000 in
/-- slices.IndexFunc. -/
theorem ixRtr (v : Value) (l : List Rtr) (p : Rtr → Bool) (g : Nat) (lb : Array Value) (eg : ∀ args w, (callFunc g args).run Tryz.prog w = .ok (.enter g args) w) (w : World) (hrow : IsRow eRtr 25 w v l) (hl : l.length ≤ 9223372036854775807) (hp : Pred Tryz.prog g lb eRtr p l w) :
    Calls Tryz.prog 118 #[v, .func (.func g) #[] lb] w fun e w' => e = .returned (.int .i64 (ixB p l)) ∧ Below w.heap.size w w' := by
  obtain ⟨a, cap, rfl, hcap, hcell⟩ := rows_open (z := 25) (by decide) hrow
  obtain ⟨n, hn⟩ : ∃ n, n = l.length := ⟨_, rfl⟩
  rw [← hn] at hl hcap hcell ⊢
  have N := hid hn
  clear hn hrow
  obtain ⟨P, hP⟩ : ∃ P, P = Tryz.prog := ⟨_, rfl⟩
  obtain ⟨z, hz⟩ : ∃ z, z = 25 := ⟨_, rfl⟩
  have mixed : P.follows .mixedOrders = true := by rw [hP]; kernel_rfl
  have FG : P.funcs[118]? = some Tryz.f118 := by rw [hP]; exact Tryz.func118
  have ts0 := Tryz.underlying3
  have as0 := Tryz.isAgg3
  have zs0 := Tryz.sizeOf3
  have ts1 := Tryz.underlying4
  have as1 := Tryz.isAgg4
  have zs1 := Tryz.sizeOf4
  have tsl := Tryz.underlying46
  have asl := Tryz.isAgg46
  have zsl := Tryz.sizeOf46
  have ael := Tryz.isAgg41
  have zel := Tryz.sizeOf41
  rw [← hz] at zel
  rw [← hP] at ts0 as0 zs0 ts1 as1 zs1 tsl asl zsl ael zel eg hp ⊢
  clear hP
  go_enter FG, Tryz.ntmps118
  go_wp2
  go_loopg [5, 8] n (fun gg _ s8 wr => ∃ k : Nat, k ≤ n ∧ n - k ≤ gg ∧ s8 = .int .i64 k ∧ Aside (Below w.heap.size w wr) ∧ Aside (ixB p l = ixF p k (l.drop k)))
  case atStart => exact ⟨0, Nat.zero_le _, by omega, rfl, Below.refl _ w, rfl⟩
  case round =>
    obtain ⟨k, hk, hg, rfl, BW, E⟩ := hrel
    by_cases hlt : k < n
    · have hlti : (k : Int) < (n : Int) := by omega
      obtain ⟨x, hx⟩ := get_some (l := l) (k := k) (by have := N.out; omega)
      obtain ⟨b, off, rfl, hb, hc⟩ := hcell (by omega)
      have hl2 : Sem.run P (loadCellsFrom ⟨b, off + k * 25, none⟩ 0 25 #[]) wr = .ok (eRtr x).toArray wr :=
        ld_row (f := eRtr) (z := 25) P (fun _ => rfl) (fun j u hj => (BW.out.cell (p := ⟨b, off + j, none⟩) hb).trans (hc j u hj)) hx
      rw [← hz] at hl2
      have hcall := hp wr x (get_mem hx) BW.out
      have D : Aside (l.drop k = x :: l.drop (k + 1)) := drop_get hx
      clear hp hc hcell hx hz
      obtain ⟨X, hX⟩ : ∃ X, X = (eRtr x).toArray := ⟨_, rfl⟩
      rw [← hX] at hl2 hcall
      clear hX
      cases hq : p x with
      | true =>
        have Q : Aside (p x = true) := hq
        rw [hq] at hcall
        clear hq
        iterate 44 (first | go_skip | go_guarded | go_step | go_upon)
        refine wp_call_fn (g := g) (lb := lb) _ rfl _ rfl rfl [.agg X] rfl eg ?_
        refine hcall.mono ?_; rintro e w' ⟨rfl, hb'⟩; refine ⟨_, rfl, ?_⟩
        clear hcall hl2
        repeat (first | go_skip | go_guarded | go_step | go_upon)
        go_ret
        refine ⟨?_, then_ BW.out hb'⟩
        rw [E.out, D.out, ixF_hit Q.out]
        rfl
      | false =>
        have Q : Aside (p x = false) := hq
        rw [hq] at hcall
        clear hq
        iterate 44 (first | go_skip | go_guarded | go_step | go_upon)
        refine wp_call_fn (g := g) (lb := lb) _ rfl _ rfl rfl [.agg X] rfl eg ?_
        refine hcall.mono ?_; rintro e w' ⟨rfl, hb'⟩; refine ⟨_, rfl, ?_⟩
        clear hcall hl2
        repeat (first | go_skip | go_guarded | go_step | go_upon)
        go_roundg (n - (k + 1))
        case measure => omega
        case rel =>
          refine ⟨k + 1, by omega, by omega, by go_num, then_ BW.out hb', ?_⟩
          show _ = _
          rw [E.out, D.out, ixF_next Q.out]
    · have hlti : ¬ (k : Int) < (n : Int) := by omega
      have D : Aside (l.drop k = []) := drop_end (by have := N.out; omega)
      clear hp hcell
      go_wp2
      go_ret
      refine ⟨?_, BW.out⟩
      rw [E.out, D.out]
      rfl


set_option maxHeartbeats 1000000 in
/-- slices.IndexFunc. -/
theorem ixStc (v : Value) (l : List Stc) (p : Stc → Bool) (g : Nat) (lb : Array Value) (eg : ∀ args w, (callFunc g args).run Tryz.prog w = .ok (.enter g args) w) (w : World) (hrow : IsRow eStc 7 w v l) (hl : l.length ≤ 9223372036854775807) (hp : Pred Tryz.prog g lb eStc p l w) :
    Calls Tryz.prog 186 #[v, .func (.func g) #[] lb] w fun e w' => e = .returned (.int .i64 (ixB p l)) ∧ Below w.heap.size w w' := by
  obtain ⟨a, cap, rfl, hcap, hcell⟩ := rows_open (z := 7) (by decide) hrow
  obtain ⟨n, hn⟩ : ∃ n, n = l.length := ⟨_, rfl⟩
  rw [← hn] at hl hcap hcell ⊢
  have N := hid hn
  clear hn hrow
  obtain ⟨P, hP⟩ : ∃ P, P = Tryz.prog := ⟨_, rfl⟩
  obtain ⟨z, hz⟩ : ∃ z, z = 7 := ⟨_, rfl⟩
  have mixed : P.follows .mixedOrders = true := by rw [hP]; kernel_rfl
  have FG : P.funcs[186]? = some Tryz.f186 := by rw [hP]; exact Tryz.func186
  have ts0 := Tryz.underlying3
  have as0 := Tryz.isAgg3
  have zs0 := Tryz.sizeOf3
  have ts1 := Tryz.underlying4
  have as1 := Tryz.isAgg4
  have zs1 := Tryz.sizeOf4
  have tsl := Tryz.underlying27
  have asl := Tryz.isAgg27
  have zsl := Tryz.sizeOf27
  have ael := Tryz.isAgg58
  have zel := Tryz.sizeOf58
  rw [← hz] at zel
  rw [← hP] at ts0 as0 zs0 ts1 as1 zs1 tsl asl zsl ael zel eg hp ⊢
  clear hP
  go_enter FG, Tryz.ntmps186
  go_wp2
  go_loopg [5, 8] n (fun gg _ s8 wr => ∃ k : Nat, k ≤ n ∧ n - k ≤ gg ∧ s8 = .int .i64 k ∧ Aside (Below w.heap.size w wr) ∧ Aside (ixB p l = ixF p k (l.drop k)))
  case atStart => exact ⟨0, Nat.zero_le _, by omega, rfl, Below.refl _ w, rfl⟩
  case round =>
    obtain ⟨k, hk, hg, rfl, BW, E⟩ := hrel
    by_cases hlt : k < n
    · have hlti : (k : Int) < (n : Int) := by omega
      obtain ⟨x, hx⟩ := get_some (l := l) (k := k) (by have := N.out; omega)
      obtain ⟨b, off, rfl, hb, hc⟩ := hcell (by omega)
      have hl2 : Sem.run P (loadCellsFrom ⟨b, off + k * 7, none⟩ 0 7 #[]) wr = .ok (eStc x).toArray wr :=
        ld_row (f := eStc) (z := 7) P (fun _ => rfl) (fun j u hj => (BW.out.cell (p := ⟨b, off + j, none⟩) hb).trans (hc j u hj)) hx
      rw [← hz] at hl2
      have hcall := hp wr x (get_mem hx) BW.out
      have D : Aside (l.drop k = x :: l.drop (k + 1)) := drop_get hx
      clear hp hc hcell hx hz
      obtain ⟨X, hX⟩ : ∃ X, X = (eStc x).toArray := ⟨_, rfl⟩
      rw [← hX] at hl2 hcall
      clear hX
      cases hq : p x with
      | true =>
        have Q : Aside (p x = true) := hq
        rw [hq] at hcall
        clear hq
        iterate 44 (first | go_skip | go_guarded | go_step | go_upon)
        refine wp_call_fn (g := g) (lb := lb) _ rfl _ rfl rfl [.agg X] rfl eg ?_
        refine hcall.mono ?_; rintro e w' ⟨rfl, hb'⟩; refine ⟨_, rfl, ?_⟩
        clear hcall hl2
        repeat (first | go_skip | go_guarded | go_step | go_upon)
        go_ret
        refine ⟨?_, then_ BW.out hb'⟩
        rw [E.out, D.out, ixF_hit Q.out]
        rfl
      | false =>
        have Q : Aside (p x = false) := hq
        rw [hq] at hcall
        clear hq
        iterate 44 (first | go_skip | go_guarded | go_step | go_upon)
        refine wp_call_fn (g := g) (lb := lb) _ rfl _ rfl rfl [.agg X] rfl eg ?_
        refine hcall.mono ?_; rintro e w' ⟨rfl, hb'⟩; refine ⟨_, rfl, ?_⟩
        clear hcall hl2
        repeat (first | go_skip | go_guarded | go_step | go_upon)
        go_roundg (n - (k + 1))
        case measure => omega
        case rel =>
          refine ⟨k + 1, by omega, by omega, by go_num, then_ BW.out hb', ?_⟩
          show _ = _
          rw [E.out, D.out, ixF_next Q.out]
    · have hlti : ¬ (k : Int) < (n : Int) := by omega
      have D : Aside (l.drop k = []) := drop_end (by have := N.out; omega)
      clear hp hcell
      go_wp2
      go_ret
      refine ⟨?_, BW.out⟩
      rw [E.out, D.out]
      rfl


set_option maxHeartbeats 1000000 in
/-- slices.IndexFunc. -/
theorem ixRed (v : Value) (l : List Red) (p : Red → Bool) (g : Nat) (lb : Array Value) (eg : ∀ args w, (callFunc g args).run Tryz.prog w = .ok (.enter g args) w) (w : World) (hrow : IsRow eRed 5 w v l) (hl : l.length ≤ 9223372036854775807) (hp : Pred Tryz.prog g lb eRed p l w) :
    Calls Tryz.prog 188 #[v, .func (.func g) #[] lb] w fun e w' => e = .returned (.int .i64 (ixB p l)) ∧ Below w.heap.size w w' := by
  obtain ⟨a, cap, rfl, hcap, hcell⟩ := rows_open (z := 5) (by decide) hrow
  obtain ⟨n, hn⟩ : ∃ n, n = l.length := ⟨_, rfl⟩
  rw [← hn] at hl hcap hcell ⊢
  have N := hid hn
  clear hn hrow
  obtain ⟨P, hP⟩ : ∃ P, P = Tryz.prog := ⟨_, rfl⟩
  obtain ⟨z, hz⟩ : ∃ z, z = 5 := ⟨_, rfl⟩
  have mixed : P.follows .mixedOrders = true := by rw [hP]; kernel_rfl
  have FG : P.funcs[188]? = some Tryz.f188 := by rw [hP]; exact Tryz.func188
  have ts0 := Tryz.underlying3
  have as0 := Tryz.isAgg3
  have zs0 := Tryz.sizeOf3
  have ts1 := Tryz.underlying4
  have as1 := Tryz.isAgg4
  have zs1 := Tryz.sizeOf4
  have tsl := Tryz.underlying29
  have asl := Tryz.isAgg29
  have zsl := Tryz.sizeOf29
  have ael := Tryz.isAgg154
  have zel := Tryz.sizeOf154
  rw [← hz] at zel
  rw [← hP] at ts0 as0 zs0 ts1 as1 zs1 tsl asl zsl ael zel eg hp ⊢
  clear hP
  go_enter FG, Tryz.ntmps188
  go_wp2
  go_loopg [5, 8] n (fun gg _ s8 wr => ∃ k : Nat, k ≤ n ∧ n - k ≤ gg ∧ s8 = .int .i64 k ∧ Aside (Below w.heap.size w wr) ∧ Aside (ixB p l = ixF p k (l.drop k)))
  case atStart => exact ⟨0, Nat.zero_le _, by omega, rfl, Below.refl _ w, rfl⟩
  case round =>
    obtain ⟨k, hk, hg, rfl, BW, E⟩ := hrel
    by_cases hlt : k < n
    · have hlti : (k : Int) < (n : Int) := by omega
      obtain ⟨x, hx⟩ := get_some (l := l) (k := k) (by have := N.out; omega)
      obtain ⟨b, off, rfl, hb, hc⟩ := hcell (by omega)
      have hl2 : Sem.run P (loadCellsFrom ⟨b, off + k * 5, none⟩ 0 5 #[]) wr = .ok (eRed x).toArray wr :=
        ld_row (f := eRed) (z := 5) P (fun _ => rfl) (fun j u hj => (BW.out.cell (p := ⟨b, off + j, none⟩) hb).trans (hc j u hj)) hx
      rw [← hz] at hl2
      have hcall := hp wr x (get_mem hx) BW.out
      have D : Aside (l.drop k = x :: l.drop (k + 1)) := drop_get hx
      clear hp hc hcell hx hz
      obtain ⟨X, hX⟩ : ∃ X, X = (eRed x).toArray := ⟨_, rfl⟩
      rw [← hX] at hl2 hcall
      clear hX
      cases hq : p x with
      | true =>
        have Q : Aside (p x = true) := hq
        rw [hq] at hcall
        clear hq
        iterate 44 (first | go_skip | go_guarded | go_step | go_upon)
        refine wp_call_fn (g := g) (lb := lb) _ rfl _ rfl rfl [.agg X] rfl eg ?_
        refine hcall.mono ?_; rintro e w' ⟨rfl, hb'⟩; refine ⟨_, rfl, ?_⟩
        clear hcall hl2
        repeat (first | go_skip | go_guarded | go_step | go_upon)
        go_ret
        refine ⟨?_, then_ BW.out hb'⟩
        rw [E.out, D.out, ixF_hit Q.out]
        rfl
      | false =>
        have Q : Aside (p x = false) := hq
        rw [hq] at hcall
        clear hq
        iterate 44 (first | go_skip | go_guarded | go_step | go_upon)
        refine wp_call_fn (g := g) (lb := lb) _ rfl _ rfl rfl [.agg X] rfl eg ?_
        refine hcall.mono ?_; rintro e w' ⟨rfl, hb'⟩; refine ⟨_, rfl, ?_⟩
        clear hcall hl2
        repeat (first | go_skip | go_guarded | go_step | go_upon)
        go_roundg (n - (k + 1))
        case measure => omega
        case rel =>
          refine ⟨k + 1, by omega, by omega, by go_num, then_ BW.out hb', ?_⟩
          show _ = _
          rw [E.out, D.out, ixF_next Q.out]
    · have hlti : ¬ (k : Int) < (n : Int) := by omega
      have D : Aside (l.drop k = []) := drop_end (by have := N.out; omega)
      clear hp hcell
      go_wp2
      go_ret
      refine ⟨?_, BW.out⟩
      rw [E.out, D.out]
      rfl


set_option maxHeartbeats 1000000 in
/-- slices.IndexFunc. -/
theorem ixRng (v : Value) (l : List Rng) (p : Rng → Bool) (g : Nat) (lb : Array Value) (eg : ∀ args w, (callFunc g args).run Tryz.prog w = .ok (.enter g args) w) (w : World) (hrow : IsRow eRng 3 w v l) (hl : l.length ≤ 9223372036854775807) (hp : Pred Tryz.prog g lb eRng p l w) :
    Calls Tryz.prog 187 #[v, .func (.func g) #[] lb] w fun e w' => e = .returned (.int .i64 (ixB p l)) ∧ Below w.heap.size w w' := by
  obtain ⟨a, cap, rfl, hcap, hcell⟩ := rows_open (z := 3) (by decide) hrow
  obtain ⟨n, hn⟩ : ∃ n, n = l.length := ⟨_, rfl⟩
  rw [← hn] at hl hcap hcell ⊢
  have N := hid hn
  clear hn hrow
  obtain ⟨P, hP⟩ : ∃ P, P = Tryz.prog := ⟨_, rfl⟩
  obtain ⟨z, hz⟩ : ∃ z, z = 3 := ⟨_, rfl⟩
  have mixed : P.follows .mixedOrders = true := by rw [hP]; kernel_rfl
  have FG : P.funcs[187]? = some Tryz.f187 := by rw [hP]; exact Tryz.func187
  have ts0 := Tryz.underlying3
  have as0 := Tryz.isAgg3
  have zs0 := Tryz.sizeOf3
  have ts1 := Tryz.underlying4
  have as1 := Tryz.isAgg4
  have zs1 := Tryz.sizeOf4
  have tsl := Tryz.underlying28
  have asl := Tryz.isAgg28
  have zsl := Tryz.sizeOf28
  have ael := Tryz.isAgg150
  have zel := Tryz.sizeOf150
  rw [← hz] at zel
  rw [← hP] at ts0 as0 zs0 ts1 as1 zs1 tsl asl zsl ael zel eg hp ⊢
  clear hP
  go_enter FG, Tryz.ntmps187
  go_wp2
  go_loopg [5, 8] n (fun gg _ s8 wr => ∃ k : Nat, k ≤ n ∧ n - k ≤ gg ∧ s8 = .int .i64 k ∧ Aside (Below w.heap.size w wr) ∧ Aside (ixB p l = ixF p k (l.drop k)))
  case atStart => exact ⟨0, Nat.zero_le _, by omega, rfl, Below.refl _ w, rfl⟩
  case round =>
    obtain ⟨k, hk, hg, rfl, BW, E⟩ := hrel
    by_cases hlt : k < n
    · have hlti : (k : Int) < (n : Int) := by omega
      obtain ⟨x, hx⟩ := get_some (l := l) (k := k) (by have := N.out; omega)
      obtain ⟨b, off, rfl, hb, hc⟩ := hcell (by omega)
      have hl2 : Sem.run P (loadCellsFrom ⟨b, off + k * 3, none⟩ 0 3 #[]) wr = .ok (eRng x).toArray wr :=
        ld_row (f := eRng) (z := 3) P (fun _ => rfl) (fun j u hj => (BW.out.cell (p := ⟨b, off + j, none⟩) hb).trans (hc j u hj)) hx
      rw [← hz] at hl2
      have hcall := hp wr x (get_mem hx) BW.out
      have D : Aside (l.drop k = x :: l.drop (k + 1)) := drop_get hx
      clear hp hc hcell hx hz
      obtain ⟨X, hX⟩ : ∃ X, X = (eRng x).toArray := ⟨_, rfl⟩
      rw [← hX] at hl2 hcall
      clear hX
      cases hq : p x with
      | true =>
        have Q : Aside (p x = true) := hq
        rw [hq] at hcall
        clear hq
        iterate 44 (first | go_skip | go_guarded | go_step | go_upon)
        refine wp_call_fn (g := g) (lb := lb) _ rfl _ rfl rfl [.agg X] rfl eg ?_
        refine hcall.mono ?_; rintro e w' ⟨rfl, hb'⟩; refine ⟨_, rfl, ?_⟩
        clear hcall hl2
        repeat (first | go_skip | go_guarded | go_step | go_upon)
        go_ret
        refine ⟨?_, then_ BW.out hb'⟩
        rw [E.out, D.out, ixF_hit Q.out]
        rfl
      | false =>
        have Q : Aside (p x = false) := hq
        rw [hq] at hcall
        clear hq
        iterate 44 (first | go_skip | go_guarded | go_step | go_upon)
        refine wp_call_fn (g := g) (lb := lb) _ rfl _ rfl rfl [.agg X] rfl eg ?_
        refine hcall.mono ?_; rintro e w' ⟨rfl, hb'⟩; refine ⟨_, rfl, ?_⟩
        clear hcall hl2
        repeat (first | go_skip | go_guarded | go_step | go_upon)
        go_roundg (n - (k + 1))
        case measure => omega
        case rel =>
          refine ⟨k + 1, by omega, by omega, by go_num, then_ BW.out hb', ?_⟩
          show _ = _
          rw [E.out, D.out, ixF_next Q.out]
    · have hlti : ¬ (k : Int) < (n : Int) := by omega
      have D : Aside (l.drop k = []) := drop_end (by have := N.out; omega)
      clear hp hcell
      go_wp2
      go_ret
      refine ⟨?_, BW.out⟩
      rw [E.out, D.out]
      rfl


set_option maxHeartbeats 1000000 in
/-- slices.IndexFunc. -/
theorem ixNbr (v : Value) (l : List Nbr) (p : Nbr → Bool) (g : Nat) (lb : Array Value) (eg : ∀ args w, (callFunc g args).run Tryz.prog w = .ok (.enter g args) w) (w : World) (hrow : IsRow eNbr 4 w v l) (hl : l.length ≤ 9223372036854775807) (hp : Pred Tryz.prog g lb eNbr p l w) :
    Calls Tryz.prog 189 #[v, .func (.func g) #[] lb] w fun e w' => e = .returned (.int .i64 (ixB p l)) ∧ Below w.heap.size w w' := by
  obtain ⟨a, cap, rfl, hcap, hcell⟩ := rows_open (z := 4) (by decide) hrow
  obtain ⟨n, hn⟩ : ∃ n, n = l.length := ⟨_, rfl⟩
  rw [← hn] at hl hcap hcell ⊢
  have N := hid hn
  clear hn hrow
  obtain ⟨P, hP⟩ : ∃ P, P = Tryz.prog := ⟨_, rfl⟩
  obtain ⟨z, hz⟩ : ∃ z, z = 4 := ⟨_, rfl⟩
  have mixed : P.follows .mixedOrders = true := by rw [hP]; kernel_rfl
  have FG : P.funcs[189]? = some Tryz.f189 := by rw [hP]; exact Tryz.func189
  have ts0 := Tryz.underlying3
  have as0 := Tryz.isAgg3
  have zs0 := Tryz.sizeOf3
  have ts1 := Tryz.underlying4
  have as1 := Tryz.isAgg4
  have zs1 := Tryz.sizeOf4
  have tsl := Tryz.underlying34
  have asl := Tryz.isAgg34
  have zsl := Tryz.sizeOf34
  have ael := Tryz.isAgg156
  have zel := Tryz.sizeOf156
  rw [← hz] at zel
  rw [← hP] at ts0 as0 zs0 ts1 as1 zs1 tsl asl zsl ael zel eg hp ⊢
  clear hP
  go_enter FG, Tryz.ntmps189
  go_wp2
  go_loopg [5, 8] n (fun gg _ s8 wr => ∃ k : Nat, k ≤ n ∧ n - k ≤ gg ∧ s8 = .int .i64 k ∧ Aside (Below w.heap.size w wr) ∧ Aside (ixB p l = ixF p k (l.drop k)))
  case atStart => exact ⟨0, Nat.zero_le _, by omega, rfl, Below.refl _ w, rfl⟩
  case round =>
    obtain ⟨k, hk, hg, rfl, BW, E⟩ := hrel
    by_cases hlt : k < n
    · have hlti : (k : Int) < (n : Int) := by omega
      obtain ⟨x, hx⟩ := get_some (l := l) (k := k) (by have := N.out; omega)
      obtain ⟨b, off, rfl, hb, hc⟩ := hcell (by omega)
      have hl2 : Sem.run P (loadCellsFrom ⟨b, off + k * 4, none⟩ 0 4 #[]) wr = .ok (eNbr x).toArray wr :=
        ld_row (f := eNbr) (z := 4) P (fun _ => rfl) (fun j u hj => (BW.out.cell (p := ⟨b, off + j, none⟩) hb).trans (hc j u hj)) hx
      rw [← hz] at hl2
      have hcall := hp wr x (get_mem hx) BW.out
      have D : Aside (l.drop k = x :: l.drop (k + 1)) := drop_get hx
      clear hp hc hcell hx hz
      obtain ⟨X, hX⟩ : ∃ X, X = (eNbr x).toArray := ⟨_, rfl⟩
      rw [← hX] at hl2 hcall
      clear hX
      cases hq : p x with
      | true =>
        have Q : Aside (p x = true) := hq
        rw [hq] at hcall
        clear hq
        iterate 44 (first | go_skip | go_guarded | go_step | go_upon)
        refine wp_call_fn (g := g) (lb := lb) _ rfl _ rfl rfl [.agg X] rfl eg ?_
        refine hcall.mono ?_; rintro e w' ⟨rfl, hb'⟩; refine ⟨_, rfl, ?_⟩
        clear hcall hl2
        repeat (first | go_skip | go_guarded | go_step | go_upon)
        go_ret
        refine ⟨?_, then_ BW.out hb'⟩
        rw [E.out, D.out, ixF_hit Q.out]
        rfl
      | false =>
        have Q : Aside (p x = false) := hq
        rw [hq] at hcall
        clear hq
        iterate 44 (first | go_skip | go_guarded | go_step | go_upon)
        refine wp_call_fn (g := g) (lb := lb) _ rfl _ rfl rfl [.agg X] rfl eg ?_
        refine hcall.mono ?_; rintro e w' ⟨rfl, hb'⟩; refine ⟨_, rfl, ?_⟩
        clear hcall hl2
        repeat (first | go_skip | go_guarded | go_step | go_upon)
        go_roundg (n - (k + 1))
        case measure => omega
        case rel =>
          refine ⟨k + 1, by omega, by omega, by go_num, then_ BW.out hb', ?_⟩
          show _ = _
          rw [E.out, D.out, ixF_next Q.out]
    · have hlti : ¬ (k : Int) < (n : Int) := by omega
      have D : Aside (l.drop k = []) := drop_end (by have := N.out; omega)
      clear hp hcell
      go_wp2
      go_ret
      refine ⟨?_, BW.out⟩
      rw [E.out, D.out]
      rfl


set_option maxHeartbeats 1000000 in
/-- slices.IndexFunc. -/
theorem ixAggr (v : Value) (l : List Aggr) (p : Aggr → Bool) (g : Nat) (lb : Array Value) (eg : ∀ args w, (callFunc g args).run Tryz.prog w = .ok (.enter g args) w) (w : World) (hrow : IsRow eAggr 3 w v l) (hl : l.length ≤ 9223372036854775807) (hp : Pred Tryz.prog g lb eAggr p l w) :
    Calls Tryz.prog 191 #[v, .func (.func g) #[] lb] w fun e w' => e = .returned (.int .i64 (ixB p l)) ∧ Below w.heap.size w w' := by
  obtain ⟨a, cap, rfl, hcap, hcell⟩ := rows_open (z := 3) (by decide) hrow
  obtain ⟨n, hn⟩ : ∃ n, n = l.length := ⟨_, rfl⟩
  rw [← hn] at hl hcap hcell ⊢
  have N := hid hn
  clear hn hrow
  obtain ⟨P, hP⟩ : ∃ P, P = Tryz.prog := ⟨_, rfl⟩
  obtain ⟨z, hz⟩ : ∃ z, z = 3 := ⟨_, rfl⟩
  have mixed : P.follows .mixedOrders = true := by rw [hP]; kernel_rfl
  have FG : P.funcs[191]? = some Tryz.f191 := by rw [hP]; exact Tryz.func191
  have ts0 := Tryz.underlying3
  have as0 := Tryz.isAgg3
  have zs0 := Tryz.sizeOf3
  have ts1 := Tryz.underlying4
  have as1 := Tryz.isAgg4
  have zs1 := Tryz.sizeOf4
  have tsl := Tryz.underlying36
  have asl := Tryz.isAgg36
  have zsl := Tryz.sizeOf36
  have ael := Tryz.isAgg163
  have zel := Tryz.sizeOf163
  rw [← hz] at zel
  rw [← hP] at ts0 as0 zs0 ts1 as1 zs1 tsl asl zsl ael zel eg hp ⊢
  clear hP
  go_enter FG, Tryz.ntmps191
  go_wp2
  go_loopg [5, 8] n (fun gg _ s8 wr => ∃ k : Nat, k ≤ n ∧ n - k ≤ gg ∧ s8 = .int .i64 k ∧ Aside (Below w.heap.size w wr) ∧ Aside (ixB p l = ixF p k (l.drop k)))
  case atStart => exact ⟨0, Nat.zero_le _, by omega, rfl, Below.refl _ w, rfl⟩
  case round =>
    obtain ⟨k, hk, hg, rfl, BW, E⟩ := hrel
    by_cases hlt : k < n
    · have hlti : (k : Int) < (n : Int) := by omega
      obtain ⟨x, hx⟩ := get_some (l := l) (k := k) (by have := N.out; omega)
      obtain ⟨b, off, rfl, hb, hc⟩ := hcell (by omega)
      have hl2 : Sem.run P (loadCellsFrom ⟨b, off + k * 3, none⟩ 0 3 #[]) wr = .ok (eAggr x).toArray wr :=
        ld_row (f := eAggr) (z := 3) P (fun _ => rfl) (fun j u hj => (BW.out.cell (p := ⟨b, off + j, none⟩) hb).trans (hc j u hj)) hx
      rw [← hz] at hl2
      have hcall := hp wr x (get_mem hx) BW.out
      have D : Aside (l.drop k = x :: l.drop (k + 1)) := drop_get hx
      clear hp hc hcell hx hz
      obtain ⟨X, hX⟩ : ∃ X, X = (eAggr x).toArray := ⟨_, rfl⟩
      rw [← hX] at hl2 hcall
      clear hX
      cases hq : p x with
      | true =>
        have Q : Aside (p x = true) := hq
        rw [hq] at hcall
        clear hq
        iterate 44 (first | go_skip | go_guarded | go_step | go_upon)
        refine wp_call_fn (g := g) (lb := lb) _ rfl _ rfl rfl [.agg X] rfl eg ?_
        refine hcall.mono ?_; rintro e w' ⟨rfl, hb'⟩; refine ⟨_, rfl, ?_⟩
        clear hcall hl2
        repeat (first | go_skip | go_guarded | go_step | go_upon)
        go_ret
        refine ⟨?_, then_ BW.out hb'⟩
        rw [E.out, D.out, ixF_hit Q.out]
        rfl
      | false =>
        have Q : Aside (p x = false) := hq
        rw [hq] at hcall
        clear hq
        iterate 44 (first | go_skip | go_guarded | go_step | go_upon)
        refine wp_call_fn (g := g) (lb := lb) _ rfl _ rfl rfl [.agg X] rfl eg ?_
        refine hcall.mono ?_; rintro e w' ⟨rfl, hb'⟩; refine ⟨_, rfl, ?_⟩
        clear hcall hl2
        repeat (first | go_skip | go_guarded | go_step | go_upon)
        go_roundg (n - (k + 1))
        case measure => omega
        case rel =>
          refine ⟨k + 1, by omega, by omega, by go_num, then_ BW.out hb', ?_⟩
          show _ = _
          rw [E.out, D.out, ixF_next Q.out]
    · have hlti : ¬ (k : Int) < (n : Int) := by omega
      have D : Aside (l.drop k = []) := drop_end (by have := N.out; omega)
      clear hp hcell
      go_wp2
      go_ret
      refine ⟨?_, BW.out⟩
      rw [E.out, D.out]
      rfl


set_option maxHeartbeats 1000000 in
/-- slices.IndexFunc. -/
theorem ixCnd (v : Value) (l : List Cnd) (p : Cnd → Bool) (g : Nat) (lb : Array Value) (eg : ∀ args w, (callFunc g args).run Tryz.prog w = .ok (.enter g args) w) (w : World) (hrow : IsRow eCnd 5 w v l) (hl : l.length ≤ 9223372036854775807) (hp : Pred Tryz.prog g lb eCnd p l w) :
    Calls Tryz.prog 192 #[v, .func (.func g) #[] lb] w fun e w' => e = .returned (.int .i64 (ixB p l)) ∧ Below w.heap.size w w' := by
  obtain ⟨a, cap, rfl, hcap, hcell⟩ := rows_open (z := 5) (by decide) hrow
  obtain ⟨n, hn⟩ : ∃ n, n = l.length := ⟨_, rfl⟩
  rw [← hn] at hl hcap hcell ⊢
  have N := hid hn
  clear hn hrow
  obtain ⟨P, hP⟩ : ∃ P, P = Tryz.prog := ⟨_, rfl⟩
  obtain ⟨z, hz⟩ : ∃ z, z = 5 := ⟨_, rfl⟩
  have mixed : P.follows .mixedOrders = true := by rw [hP]; kernel_rfl
  have FG : P.funcs[192]? = some Tryz.f192 := by rw [hP]; exact Tryz.func192
  have ts0 := Tryz.underlying3
  have as0 := Tryz.isAgg3
  have zs0 := Tryz.sizeOf3
  have ts1 := Tryz.underlying4
  have as1 := Tryz.isAgg4
  have zs1 := Tryz.sizeOf4
  have tsl := Tryz.underlying37
  have asl := Tryz.isAgg37
  have zsl := Tryz.sizeOf37
  have ael := Tryz.isAgg165
  have zel := Tryz.sizeOf165
  rw [← hz] at zel
  rw [← hP] at ts0 as0 zs0 ts1 as1 zs1 tsl asl zsl ael zel eg hp ⊢
  clear hP
  go_enter FG, Tryz.ntmps192
  go_wp2
  go_loopg [5, 8] n (fun gg _ s8 wr => ∃ k : Nat, k ≤ n ∧ n - k ≤ gg ∧ s8 = .int .i64 k ∧ Aside (Below w.heap.size w wr) ∧ Aside (ixB p l = ixF p k (l.drop k)))
  case atStart => exact ⟨0, Nat.zero_le _, by omega, rfl, Below.refl _ w, rfl⟩
  case round =>
    obtain ⟨k, hk, hg, rfl, BW, E⟩ := hrel
    by_cases hlt : k < n
    · have hlti : (k : Int) < (n : Int) := by omega
      obtain ⟨x, hx⟩ := get_some (l := l) (k := k) (by have := N.out; omega)
      obtain ⟨b, off, rfl, hb, hc⟩ := hcell (by omega)
      have hl2 : Sem.run P (loadCellsFrom ⟨b, off + k * 5, none⟩ 0 5 #[]) wr = .ok (eCnd x).toArray wr :=
        ld_row (f := eCnd) (z := 5) P (fun _ => rfl) (fun j u hj => (BW.out.cell (p := ⟨b, off + j, none⟩) hb).trans (hc j u hj)) hx
      rw [← hz] at hl2
      have hcall := hp wr x (get_mem hx) BW.out
      have D : Aside (l.drop k = x :: l.drop (k + 1)) := drop_get hx
      clear hp hc hcell hx hz
      obtain ⟨X, hX⟩ : ∃ X, X = (eCnd x).toArray := ⟨_, rfl⟩
      rw [← hX] at hl2 hcall
      clear hX
      cases hq : p x with
      | true =>
        have Q : Aside (p x = true) := hq
        rw [hq] at hcall
        clear hq
        iterate 44 (first | go_skip | go_guarded | go_step | go_upon)
        refine wp_call_fn (g := g) (lb := lb) _ rfl _ rfl rfl [.agg X] rfl eg ?_
        refine hcall.mono ?_; rintro e w' ⟨rfl, hb'⟩; refine ⟨_, rfl, ?_⟩
        clear hcall hl2
        repeat (first | go_skip | go_guarded | go_step | go_upon)
        go_ret
        refine ⟨?_, then_ BW.out hb'⟩
        rw [E.out, D.out, ixF_hit Q.out]
        rfl
      | false =>
        have Q : Aside (p x = false) := hq
        rw [hq] at hcall
        clear hq
        iterate 44 (first | go_skip | go_guarded | go_step | go_upon)
        refine wp_call_fn (g := g) (lb := lb) _ rfl _ rfl rfl [.agg X] rfl eg ?_
        refine hcall.mono ?_; rintro e w' ⟨rfl, hb'⟩; refine ⟨_, rfl, ?_⟩
        clear hcall hl2
        repeat (first | go_skip | go_guarded | go_step | go_upon)
        go_roundg (n - (k + 1))
        case measure => omega
        case rel =>
          refine ⟨k + 1, by omega, by omega, by go_num, then_ BW.out hb', ?_⟩
          show _ = _
          rw [E.out, D.out, ixF_next Q.out]
    · have hlti : ¬ (k : Int) < (n : Int) := by omega
      have D : Aside (l.drop k = []) := drop_end (by have := N.out; omega)
      clear hp hcell
      go_wp2
      go_ret
      refine ⟨?_, BW.out⟩
      rw [E.out, D.out]
      rfl

end Go.Proofs.YtlhbfpapmolohaaGreat.Mw
