/-
  THE CONTRACTS OF slices.IndexFunc AT EACH TYPE.
-/
import Derived.Test.YtlhbfpapmolohaaProg
import Derived.Test.YtlhbfpapmolohaaModP
import Derived.Test.YtlhbfpapmolohaaModM
import Derived.Deep.LoopGhost
import Derived.Deep.WholeRow
import Derived.WalkKit
import Derived.WalkSpells
import Derived.IntWalk
namespace Go.Proofs.Ytlhbfpapmolohaa.Mw
set_option linter.unusedSimpArgs false
set_option linter.unusedVariables false
open Go.RowKit Kt Mm Mp



set_option maxHeartbeats 1000000 in
/-- slices.IndexFunc. -/
theorem ixPList (v : Value) (l : List PList) (p : PList → Bool) (g : Nat) (lb : Array Value) (eg : ∀ args w, (callFunc g args).run Try.prog w = .ok (.enter g args) w) (w : World) (hrow : IsRow ePList 2 w v l) (hl : l.length ≤ 9223372036854775807) (hp : Pred Try.prog g lb ePList p l w) :
    Calls Try.prog 56 #[v, .func (.func g) #[] lb] w fun e w' => e = .returned (.int .i64 (ixB p l)) ∧ Below w.heap.size w w' := by
  obtain ⟨a, cap, rfl, hcap, hcell⟩ := rows_open (z := 2) (by decide) hrow
  obtain ⟨n, hn⟩ : ∃ n, n = l.length := ⟨_, rfl⟩
  rw [← hn] at hl hcap hcell ⊢
  have N := hid hn
  clear hn hrow
  obtain ⟨P, hP⟩ : ∃ P, P = Try.prog := ⟨_, rfl⟩
  obtain ⟨z, hz⟩ : ∃ z, z = 2 := ⟨_, rfl⟩
  have mixed : P.follows .mixedOrders = true := by rw [hP]; kernel_rfl
  have FG : P.funcs[56]? = some Try.f56 := by rw [hP]; exact Try.func56
  have ts0 := Try.underlying3
  have as0 := Try.isAgg3
  have zs0 := Try.sizeOf3
  have ts1 := Try.underlying4
  have as1 := Try.isAgg4
  have zs1 := Try.sizeOf4
  have tsl := Try.underlying37
  have asl := Try.isAgg37
  have zsl := Try.sizeOf37
  have ael := Try.isAgg24
  have zel := Try.sizeOf24
  rw [← hz] at zel
  rw [← hP] at ts0 as0 zs0 ts1 as1 zs1 tsl asl zsl ael zel eg hp ⊢
  clear hP
  go_enter FG, Try.ntmps56
  go_wp2
  go_loopg [5, 8] n (fun gg _ s8 wr => ∃ k : Nat, k ≤ n ∧ n - k ≤ gg ∧ s8 = .int .i64 k ∧ Aside (Below w.heap.size w wr) ∧ Aside (ixB p l = ixF p k (l.drop k)))
  case atStart => exact ⟨0, Nat.zero_le _, by omega, rfl, Below.refl _ w, rfl⟩
  case round =>
    obtain ⟨k, hk, hg, rfl, BW, E⟩ := hrel
    by_cases hlt : k < n
    · have hlti : (k : Int) < (n : Int) := by omega
      obtain ⟨x, hx⟩ := get_some (l := l) (k := k) (by have := N.out; omega)
      obtain ⟨b, off, rfl, hb, hc⟩ := hcell (by omega)
      have hl2 : Sem.run P (loadCellsFrom ⟨b, off + k * 2, none⟩ 0 2 #[]) wr = .ok (ePList x).toArray wr :=
        ld_row (f := ePList) (z := 2) P (fun _ => rfl) (fun j u hj => (BW.out.cell (p := ⟨b, off + j, none⟩) hb).trans (hc j u hj)) hx
      rw [← hz] at hl2
      have hcall := hp wr x (get_mem hx) BW.out
      have D : Aside (l.drop k = x :: l.drop (k + 1)) := drop_get hx
      clear hp hc hcell hx hz
      obtain ⟨X, hX⟩ : ∃ X, X = (ePList x).toArray := ⟨_, rfl⟩
      rw [← hX] at hl2 hcall
      clear hX
      cases hq : p x with
      | true =>
        have Q : Aside (p x = true) := hq
        rw [hq] at hcall
        clear hq
        iterate 44 (first | go_skip | go_guarded | go_step | go_upon)
        refine wp_call_fn (g := g) (lb := lb) _ rfl _ rfl rfl [.agg X] rfl eg ?_
        refine hcall.mono ?_; rintro e w' ⟨rfl, hb'⟩; refine ⟨_, rfl, ?_⟩
        clear hcall hl2
        repeat (first | go_skip | go_guarded | go_step | go_upon)
        go_ret
        refine ⟨?_, then_ BW.out hb'⟩
        rw [E.out, D.out, ixF_hit Q.out]
        rfl
      | false =>
        have Q : Aside (p x = false) := hq
        rw [hq] at hcall
        clear hq
        iterate 44 (first | go_skip | go_guarded | go_step | go_upon)
        refine wp_call_fn (g := g) (lb := lb) _ rfl _ rfl rfl [.agg X] rfl eg ?_
        refine hcall.mono ?_; rintro e w' ⟨rfl, hb'⟩; refine ⟨_, rfl, ?_⟩
        clear hcall hl2
        repeat (first | go_skip | go_guarded | go_step | go_upon)
        go_roundg (n - (k + 1))
        case measure => omega
        case rel =>
          refine ⟨k + 1, by omega, by omega, by go_num, then_ BW.out hb', ?_⟩
          show _ = _
          rw [E.out, D.out, ixF_next Q.out]
    · have hlti : ¬ (k : Int) < (n : Int) := by omega
      have D : Aside (l.drop k = []) := drop_end (by have := N.out; omega)
      clear hp hcell
      go_wp2
      go_ret
      refine ⟨?_, BW.out⟩
      rw [E.out, D.out]
      rfl


set_option maxHeartbeats 1000000 in
/-- slices.IndexFunc. -/
theorem ixRMap (v : Value) (l : List RMap) (p : RMap → Bool) (g : Nat) (lb : Array Value) (eg : ∀ args w, (callFunc g args).run Try.prog w = .ok (.enter g args) w) (w : World) (hrow : IsRow eRMap 2 w v l) (hl : l.length ≤ 9223372036854775807) (hp : Pred Try.prog g lb eRMap p l w) :
    Calls Try.prog 71 #[v, .func (.func g) #[] lb] w fun e w' => e = .returned (.int .i64 (ixB p l)) ∧ Below w.heap.size w w' := by
  obtain ⟨a, cap, rfl, hcap, hcell⟩ := rows_open (z := 2) (by decide) hrow
  obtain ⟨n, hn⟩ : ∃ n, n = l.length := ⟨_, rfl⟩
  rw [← hn] at hl hcap hcell ⊢
  have N := hid hn
  clear hn hrow
  obtain ⟨P, hP⟩ : ∃ P, P = Try.prog := ⟨_, rfl⟩
  obtain ⟨z, hz⟩ : ∃ z, z = 2 := ⟨_, rfl⟩
  have mixed : P.follows .mixedOrders = true := by rw [hP]; kernel_rfl
  have FG : P.funcs[71]? = some Try.f71 := by rw [hP]; exact Try.func71
  have ts0 := Try.underlying3
  have as0 := Try.isAgg3
  have zs0 := Try.sizeOf3
  have ts1 := Try.underlying4
  have as1 := Try.isAgg4
  have zs1 := Try.sizeOf4
  have tsl := Try.underlying38
  have asl := Try.isAgg38
  have zsl := Try.sizeOf38
  have ael := Try.isAgg65
  have zel := Try.sizeOf65
  rw [← hz] at zel
  rw [← hP] at ts0 as0 zs0 ts1 as1 zs1 tsl asl zsl ael zel eg hp ⊢
  clear hP
  go_enter FG, Try.ntmps71
  go_wp2
  go_loopg [5, 8] n (fun gg _ s8 wr => ∃ k : Nat, k ≤ n ∧ n - k ≤ gg ∧ s8 = .int .i64 k ∧ Aside (Below w.heap.size w wr) ∧ Aside (ixB p l = ixF p k (l.drop k)))
  case atStart => exact ⟨0, Nat.zero_le _, by omega, rfl, Below.refl _ w, rfl⟩
  case round =>
    obtain ⟨k, hk, hg, rfl, BW, E⟩ := hrel
    by_cases hlt : k < n
    · have hlti : (k : Int) < (n : Int) := by omega
      obtain ⟨x, hx⟩ := get_some (l := l) (k := k) (by have := N.out; omega)
      obtain ⟨b, off, rfl, hb, hc⟩ := hcell (by omega)
      have hl2 : Sem.run P (loadCellsFrom ⟨b, off + k * 2, none⟩ 0 2 #[]) wr = .ok (eRMap x).toArray wr :=
        ld_row (f := eRMap) (z := 2) P (fun _ => rfl) (fun j u hj => (BW.out.cell (p := ⟨b, off + j, none⟩) hb).trans (hc j u hj)) hx
      rw [← hz] at hl2
      have hcall := hp wr x (get_mem hx) BW.out
      have D : Aside (l.drop k = x :: l.drop (k + 1)) := drop_get hx
      clear hp hc hcell hx hz
      obtain ⟨X, hX⟩ : ∃ X, X = (eRMap x).toArray := ⟨_, rfl⟩
      rw [← hX] at hl2 hcall
      clear hX
      cases hq : p x with
      | true =>
        have Q : Aside (p x = true) := hq
        rw [hq] at hcall
        clear hq
        iterate 44 (first | go_skip | go_guarded | go_step | go_upon)
        refine wp_call_fn (g := g) (lb := lb) _ rfl _ rfl rfl [.agg X] rfl eg ?_
        refine hcall.mono ?_; rintro e w' ⟨rfl, hb'⟩; refine ⟨_, rfl, ?_⟩
        clear hcall hl2
        repeat (first | go_skip | go_guarded | go_step | go_upon)
        go_ret
        refine ⟨?_, then_ BW.out hb'⟩
        rw [E.out, D.out, ixF_hit Q.out]
        rfl
      | false =>
        have Q : Aside (p x = false) := hq
        rw [hq] at hcall
        clear hq
        iterate 44 (first | go_skip | go_guarded | go_step | go_upon)
        refine wp_call_fn (g := g) (lb := lb) _ rfl _ rfl rfl [.agg X] rfl eg ?_
        refine hcall.mono ?_; rintro e w' ⟨rfl, hb'⟩; refine ⟨_, rfl, ?_⟩
        clear hcall hl2
        repeat (first | go_skip | go_guarded | go_step | go_upon)
        go_roundg (n - (k + 1))
        case measure => omega
        case rel =>
          refine ⟨k + 1, by omega, by omega, by go_num, then_ BW.out hb', ?_⟩
          show _ = _
          rw [E.out, D.out, ixF_next Q.out]
    · have hlti : ¬ (k : Int) < (n : Int) := by omega
      have D : Aside (l.drop k = []) := drop_end (by have := N.out; omega)
      clear hp hcell
      go_wp2
      go_ret
      refine ⟨?_, BW.out⟩
      rw [E.out, D.out]
      rfl


end Go.Proofs.Ytlhbfpapmolohaa.Mw
