/-
  THE CONTRACTS OF model.checkEach AT EACH TYPE.
-/
import Derived.Test.YtlhbfpapmolohaaGreatProg
import Derived.Test.YtlhbfpapmolohaaGreatModP
import Derived.Test.YtlhbfpapmolohaaGreatModM
import Derived.Deep.LoopGhost
import Derived.Deep.WholeRow
import Derived.WalkKit
import Derived.WalkSpells
import Derived.IntWalk
namespace Go.Proofs.YtlhbfpapmolohaaGreat.Mw
set_option linter.unusedSimpArgs false
set_option linter.unusedVariables false
open Go.RowKit Kt Mm Mp



set_option maxHeartbeats 1000000 in
/-- model.checkEach. -/
theorem eachIfc (v : Value) (l : List Ifc) (m : Nat) (f : Nat → Ifc → Int) (g : Nat) (lb : Array Value) (eg : ∀ args w, (callFunc g args).run Tryz.prog w = .ok (.enter g args) w) (w : World) (hrow : IsRow eIfc 12 w v l) (hl : l.length ≤ 9223372036854775807) (h1 : ∀ x ∈ l, (eIfc x).toArray.all (·.oneCell') = true) (hp : Chk Tryz.prog g lb eIfc f l w) :
    Calls Tryz.prog 65 #[v, .int .i64 (m : Int), .func (.func g) #[] lb] w fun e w' => e = .returned (.int .i64 (eachE m f l)) ∧ Below w.heap.size w w' := by
  obtain ⟨a, cap, rfl, hcap, hcell⟩ := rows_open (z := 12) (by decide) hrow
  obtain ⟨n, hn⟩ : ∃ n, n = l.length := ⟨_, rfl⟩
  rw [← hn] at hl hcap hcell ⊢
  have N := hid hn
  clear hn hrow
  by_cases hmn : m < n
  · have hmi : (m : Int) < (n : Int) := by omega
    have R := hid (show eachE m f l = 7 by unfold eachE; rw [if_pos (by have := N.out; omega)])
    clear hp hcell
    go_enter Tryz.func65, Tryz.ntmps65
    repeat (first | go_skip | go_guarded | go_step | go_upon)
    go_ret
    exact ⟨ret_int R.out.symm, Below.refl _ _⟩
  have hmi : ¬ (m : Int) < (n : Int) := by omega
  have R := hid (show eachE m f l = firstE f 0 l by unfold eachE; rw [if_neg (by have := N.out; omega)])
  obtain ⟨P, hP⟩ : ∃ P, P = Tryz.prog := ⟨_, rfl⟩
  obtain ⟨z, hz⟩ : ∃ z, z = 12 := ⟨_, rfl⟩
  have mixed : P.follows .mixedOrders = true := by rw [hP]; kernel_rfl
  have FG : P.funcs[65]? = some Tryz.f65 := by rw [hP]; exact Tryz.func65
  have ts0 := Tryz.underlying3
  have as0 := Tryz.isAgg3
  have zs0 := Tryz.sizeOf3
  have ts1 := Tryz.underlying4
  have as1 := Tryz.isAgg4
  have zs1 := Tryz.sizeOf4
  have tsl := Tryz.underlying22
  have asl := Tryz.isAgg22
  have zsl := Tryz.sizeOf22
  have ael := Tryz.isAgg53
  have zel := Tryz.sizeOf53
  rw [← hz] at zel
  rw [← hP] at ts0 as0 zs0 ts1 as1 zs1 tsl asl zsl ael zel eg hp ⊢
  obtain ⟨Z, hZ, hZs⟩ : ∃ Z : Array Value, (∀ w, (zeroValue 53).run P w = .ok (.agg Z) w) ∧ Z.size = z := ⟨_, by have h := Tryz.zeroValue53; rw [← hP] at h; exact h, by rw [hz]; rfl⟩
  have hinfo : (P.info? 53).map (·.size) = some z := by rw [hP, hz]; kernel_rfl
  clear hP
  go_enter FG, Tryz.ntmps65
  repeat (first | go_skip | go_guarded | go_step | go_upon)
  go_loopg [16] n (fun gg s16 wr => ∃ k : Nat, k ≤ n ∧ n - k ≤ gg ∧ s16 = .int .i64 k ∧ Aside (Below w.heap.size w wr) ∧ Aside (firstE f 0 l = firstE f k (l.drop k)))
  case atStart => exact ⟨0, Nat.zero_le _, by omega, rfl, Below.refl _ w, rfl⟩
  case round =>
    obtain ⟨k, hk, hg, rfl, BW, E⟩ := hrel
    by_cases hlt : k < n
    · have hlti : (k : Int) < (n : Int) := by omega
      obtain ⟨x, hx⟩ := get_some (l := l) (k := k) (by have := N.out; omega)
      obtain ⟨b, off, rfl, hb, hc⟩ := hcell (by omega)
      have hl2 : Sem.run P (loadCellsFrom ⟨b, off + k * 12, none⟩ 0 12 #[]) wr = .ok (eIfc x).toArray wr :=
        ld_row (f := eIfc) (z := 12) P (fun _ => rfl) (fun j u hj => (BW.out.cell (p := ⟨b, off + j, none⟩) hb).trans (hc j u hj)) hx
      rw [← hz] at hl2
      have one := h1 x (get_mem hx)
      have hXs : (eIfc x).toArray.size = z := by rw [hz]; rfl
      have hcall := hp (wr.alloc (.cells (eIfc x).toArray 53)) k x hx ((BW.out.alloc BW.out.size _))
      have D : Aside (l.drop k = x :: l.drop (k + 1)) := drop_get hx
      clear hp hc hcell hx hz h1
      obtain ⟨X, hX⟩ : ∃ X, X = (eIfc x).toArray := ⟨_, rfl⟩
      rw [← hX] at hl2 hcall hXs one
      clear hX
      have hst := run_storeCells_new (P := P) wr 53 Z X (by rw [hXs]; exact hinfo) (by rw [hZs, hXs]) one
      have hld := run_loadCellsFrom_new (P := P) wr 53 X z hXs
      have BA : Aside (Below wr.heap.size wr (wr.alloc (.cells X 53))) := new_below _ _
      clear one hinfo
      obtain ⟨q, hq⟩ : ∃ q, q = f k x := ⟨_, rfl⟩
      rw [← hq] at hcall
      have Q : Aside (q = f k x) := hq
      clear hq
      by_cases h0 : q = 0
      · subst h0
        iterate 50 (first | go_skip | go_guarded | go_step | go_upon)
        refine wp_call_fn (g := g) (lb := lb) _ rfl _ rfl rfl [.int .i64 (k : Int), .agg X] rfl eg ?_
        refine hcall.mono ?_; rintro e w' ⟨rfl, hb'⟩; refine ⟨_, rfl, ?_⟩
        have B2 : Aside (Below wr.heap.size wr w') := then_ BA.out hb'
        clear hcall hl2 hst hld BA hb'
        repeat (first | go_skip | go_guarded | go_step | go_upon)
        trace_state
        go_roundg (n - (k + 1))
        case measure => omega
        case rel =>
          refine ⟨k + 1, by omega, by omega, by go_num, then_ BW.out B2.out, ?_⟩
          show _ = _
          rw [E.out, D.out, firstE_next Q.out.symm]
      · iterate 50 (first | go_skip | go_guarded | go_step | go_upon)
        refine wp_call_fn (g := g) (lb := lb) _ rfl _ rfl rfl [.int .i64 (k : Int), .agg X] rfl eg ?_
        refine hcall.mono ?_; rintro e w' ⟨rfl, hb'⟩; refine ⟨_, rfl, ?_⟩
        have B2 : Aside (Below wr.heap.size wr w') := then_ BA.out hb'
        clear hcall hl2 hst hld BA hb'
        repeat (first | go_skip | go_guarded | go_step | go_upon)
        trace_state
        go_ret
        refine ⟨?_, then_ BW.out B2.out⟩
        rw [R.out, E.out, D.out, firstE_hit (by rw [← Q.out]; exact h0), ← Q.out]
        rfl
    · have hlti : ¬ (k : Int) < (n : Int) := by omega
      have D : Aside (l.drop k = []) := drop_end (by have := N.out; omega)
      clear hp hcell
      repeat (first | go_skip | go_guarded | go_step | go_upon)
      go_ret
      refine ⟨?_, BW.out⟩
      rw [R.out, E.out, D.out]
      rfl


set_option maxHeartbeats 1000000 in
/-- model.checkEach. -/
theorem eachPList (v : Value) (l : List PList) (m : Nat) (f : Nat → PList → Int) (g : Nat) (lb : Array Value) (eg : ∀ args w, (callFunc g args).run Tryz.prog w = .ok (.enter g args) w) (w : World) (hrow : IsRow ePList 2 w v l) (hl : l.length ≤ 9223372036854775807) (h1 : ∀ x ∈ l, (ePList x).toArray.all (·.oneCell') = true) (hp : Chk Tryz.prog g lb ePList f l w) :
    Calls Tryz.prog 69 #[v, .int .i64 (m : Int), .func (.func g) #[] lb] w fun e w' => e = .returned (.int .i64 (eachE m f l)) ∧ Below w.heap.size w w' := by
  obtain ⟨a, cap, rfl, hcap, hcell⟩ := rows_open (z := 2) (by decide) hrow
  obtain ⟨n, hn⟩ : ∃ n, n = l.length := ⟨_, rfl⟩
  rw [← hn] at hl hcap hcell ⊢
  have N := hid hn
  clear hn hrow
  by_cases hmn : m < n
  · have hmi : (m : Int) < (n : Int) := by omega
    have R := hid (show eachE m f l = 7 by unfold eachE; rw [if_pos (by have := N.out; omega)])
    clear hp hcell
    go_enter Tryz.func69, Tryz.ntmps69
    repeat (first | go_skip | go_guarded | go_step | go_upon)
    go_ret
    exact ⟨ret_int R.out.symm, Below.refl _ _⟩
  have hmi : ¬ (m : Int) < (n : Int) := by omega
  have R := hid (show eachE m f l = firstE f 0 l by unfold eachE; rw [if_neg (by have := N.out; omega)])
  obtain ⟨P, hP⟩ : ∃ P, P = Tryz.prog := ⟨_, rfl⟩
  obtain ⟨z, hz⟩ : ∃ z, z = 2 := ⟨_, rfl⟩
  have mixed : P.follows .mixedOrders = true := by rw [hP]; kernel_rfl
  have FG : P.funcs[69]? = some Tryz.f69 := by rw [hP]; exact Tryz.func69
  have ts0 := Tryz.underlying3
  have as0 := Tryz.isAgg3
  have zs0 := Tryz.sizeOf3
  have ts1 := Tryz.underlying4
  have as1 := Tryz.isAgg4
  have zs1 := Tryz.sizeOf4
  have tsl := Tryz.underlying23
  have asl := Tryz.isAgg23
  have zsl := Tryz.sizeOf23
  have ael := Tryz.isAgg64
  have zel := Tryz.sizeOf64
  rw [← hz] at zel
  rw [← hP] at ts0 as0 zs0 ts1 as1 zs1 tsl asl zsl ael zel eg hp ⊢
  obtain ⟨Z, hZ, hZs⟩ : ∃ Z : Array Value, (∀ w, (zeroValue 64).run P w = .ok (.agg Z) w) ∧ Z.size = z := ⟨_, by have h := Tryz.zeroValue64; rw [← hP] at h; exact h, by rw [hz]; rfl⟩
  have hinfo : (P.info? 64).map (·.size) = some z := by rw [hP, hz]; kernel_rfl
  clear hP
  go_enter FG, Tryz.ntmps69
  repeat (first | go_skip | go_guarded | go_step | go_upon)
  go_loopg [16] n (fun gg s16 wr => ∃ k : Nat, k ≤ n ∧ n - k ≤ gg ∧ s16 = .int .i64 k ∧ Aside (Below w.heap.size w wr) ∧ Aside (firstE f 0 l = firstE f k (l.drop k)))
  case atStart => exact ⟨0, Nat.zero_le _, by omega, rfl, Below.refl _ w, rfl⟩
  case round =>
    obtain ⟨k, hk, hg, rfl, BW, E⟩ := hrel
    by_cases hlt : k < n
    · have hlti : (k : Int) < (n : Int) := by omega
      obtain ⟨x, hx⟩ := get_some (l := l) (k := k) (by have := N.out; omega)
      obtain ⟨b, off, rfl, hb, hc⟩ := hcell (by omega)
      have hl2 : Sem.run P (loadCellsFrom ⟨b, off + k * 2, none⟩ 0 2 #[]) wr = .ok (ePList x).toArray wr :=
        ld_row (f := ePList) (z := 2) P (fun _ => rfl) (fun j u hj => (BW.out.cell (p := ⟨b, off + j, none⟩) hb).trans (hc j u hj)) hx
      rw [← hz] at hl2
      have one := h1 x (get_mem hx)
      have hXs : (ePList x).toArray.size = z := by rw [hz]; rfl
      have hcall := hp (wr.alloc (.cells (ePList x).toArray 64)) k x hx ((BW.out.alloc BW.out.size _))
      have D : Aside (l.drop k = x :: l.drop (k + 1)) := drop_get hx
      clear hp hc hcell hx hz h1
      obtain ⟨X, hX⟩ : ∃ X, X = (ePList x).toArray := ⟨_, rfl⟩
      rw [← hX] at hl2 hcall hXs one
      clear hX
      have hst := run_storeCells_new (P := P) wr 64 Z X (by rw [hXs]; exact hinfo) (by rw [hZs, hXs]) one
      have hld := run_loadCellsFrom_new (P := P) wr 64 X z hXs
      have BA : Aside (Below wr.heap.size wr (wr.alloc (.cells X 64))) := new_below _ _
      clear one hinfo
      obtain ⟨q, hq⟩ : ∃ q, q = f k x := ⟨_, rfl⟩
      rw [← hq] at hcall
      have Q : Aside (q = f k x) := hq
      clear hq
      by_cases h0 : q = 0
      · subst h0
        iterate 50 (first | go_skip | go_guarded | go_step | go_upon)
        refine wp_call_fn (g := g) (lb := lb) _ rfl _ rfl rfl [.int .i64 (k : Int), .agg X] rfl eg ?_
        refine hcall.mono ?_; rintro e w' ⟨rfl, hb'⟩; refine ⟨_, rfl, ?_⟩
        have B2 : Aside (Below wr.heap.size wr w') := then_ BA.out hb'
        clear hcall hl2 hst hld BA hb'
        repeat (first | go_skip | go_guarded | go_step | go_upon)
        trace_state
        go_roundg (n - (k + 1))
        case measure => omega
        case rel =>
          refine ⟨k + 1, by omega, by omega, by go_num, then_ BW.out B2.out, ?_⟩
          show _ = _
          rw [E.out, D.out, firstE_next Q.out.symm]
      · iterate 50 (first | go_skip | go_guarded | go_step | go_upon)
        refine wp_call_fn (g := g) (lb := lb) _ rfl _ rfl rfl [.int .i64 (k : Int), .agg X] rfl eg ?_
        refine hcall.mono ?_; rintro e w' ⟨rfl, hb'⟩; refine ⟨_, rfl, ?_⟩
        have B2 : Aside (Below wr.heap.size wr w') := then_ BA.out hb'
        clear hcall hl2 hst hld BA hb'
        repeat (first | go_skip | go_guarded | go_step | go_upon)
        trace_state
        go_ret
        refine ⟨?_, then_ BW.out B2.out⟩
        rw [R.out, E.out, D.out, firstE_hit (by rw [← Q.out]; exact h0), ← Q.out]
        rfl
    · have hlti : ¬ (k : Int) < (n : Int) := by omega
      have D : Aside (l.drop k = []) := drop_end (by have := N.out; omega)
      clear hp hcell
      repeat (first | go_skip | go_guarded | go_step | go_upon)
      go_ret
      refine ⟨?_, BW.out⟩
      rw [R.out, E.out, D.out]
      rfl


set_option maxHeartbeats 1000000 in
/-- model.checkEach. -/
theorem eachPRule (v : Value) (l : List PRule) (m : Nat) (f : Nat → PRule → Int) (g : Nat) (lb : Array Value) (eg : ∀ args w, (callFunc g args).run Tryz.prog w = .ok (.enter g args) w) (w : World) (hrow : IsRow ePRule 5 w v l) (hl : l.length ≤ 9223372036854775807) (h1 : ∀ x ∈ l, (ePRule x).toArray.all (·.oneCell') = true) (hp : Chk Tryz.prog g lb ePRule f l w) :
    Calls Tryz.prog 73 #[v, .int .i64 (m : Int), .func (.func g) #[] lb] w fun e w' => e = .returned (.int .i64 (eachE m f l)) ∧ Below w.heap.size w w' := by
  obtain ⟨a, cap, rfl, hcap, hcell⟩ := rows_open (z := 5) (by decide) hrow
  obtain ⟨n, hn⟩ : ∃ n, n = l.length := ⟨_, rfl⟩
  rw [← hn] at hl hcap hcell ⊢
  have N := hid hn
  clear hn hrow
  by_cases hmn : m < n
  · have hmi : (m : Int) < (n : Int) := by omega
    have R := hid (show eachE m f l = 7 by unfold eachE; rw [if_pos (by have := N.out; omega)])
    clear hp hcell
    go_enter Tryz.func73, Tryz.ntmps73
    repeat (first | go_skip | go_guarded | go_step | go_upon)
    go_ret
    exact ⟨ret_int R.out.symm, Below.refl _ _⟩
  have hmi : ¬ (m : Int) < (n : Int) := by omega
  have R := hid (show eachE m f l = firstE f 0 l by unfold eachE; rw [if_neg (by have := N.out; omega)])
  obtain ⟨P, hP⟩ : ∃ P, P = Tryz.prog := ⟨_, rfl⟩
  obtain ⟨z, hz⟩ : ∃ z, z = 5 := ⟨_, rfl⟩
  have mixed : P.follows .mixedOrders = true := by rw [hP]; kernel_rfl
  have FG : P.funcs[73]? = some Tryz.f73 := by rw [hP]; exact Tryz.func73
  have ts0 := Tryz.underlying3
  have as0 := Tryz.isAgg3
  have zs0 := Tryz.sizeOf3
  have ts1 := Tryz.underlying4
  have as1 := Tryz.isAgg4
  have zs1 := Tryz.sizeOf4
  have tsl := Tryz.underlying62
  have asl := Tryz.isAgg62
  have zsl := Tryz.sizeOf62
  have ael := Tryz.isAgg107
  have zel := Tryz.sizeOf107
  rw [← hz] at zel
  rw [← hP] at ts0 as0 zs0 ts1 as1 zs1 tsl asl zsl ael zel eg hp ⊢
  obtain ⟨Z, hZ, hZs⟩ : ∃ Z : Array Value, (∀ w, (zeroValue 107).run P w = .ok (.agg Z) w) ∧ Z.size = z := ⟨_, by have h := Tryz.zeroValue107; rw [← hP] at h; exact h, by rw [hz]; rfl⟩
  have hinfo : (P.info? 107).map (·.size) = some z := by rw [hP, hz]; kernel_rfl
  clear hP
  go_enter FG, Tryz.ntmps73
  repeat (first | go_skip | go_guarded | go_step | go_upon)
  go_loopg [16] n (fun gg s16 wr => ∃ k : Nat, k ≤ n ∧ n - k ≤ gg ∧ s16 = .int .i64 k ∧ Aside (Below w.heap.size w wr) ∧ Aside (firstE f 0 l = firstE f k (l.drop k)))
  case atStart => exact ⟨0, Nat.zero_le _, by omega, rfl, Below.refl _ w, rfl⟩
  case round =>
    obtain ⟨k, hk, hg, rfl, BW, E⟩ := hrel
    by_cases hlt : k < n
    · have hlti : (k : Int) < (n : Int) := by omega
      obtain ⟨x, hx⟩ := get_some (l := l) (k := k) (by have := N.out; omega)
      obtain ⟨b, off, rfl, hb, hc⟩ := hcell (by omega)
      have hl2 : Sem.run P (loadCellsFrom ⟨b, off + k * 5, none⟩ 0 5 #[]) wr = .ok (ePRule x).toArray wr :=
        ld_row (f := ePRule) (z := 5) P (fun _ => rfl) (fun j u hj => (BW.out.cell (p := ⟨b, off + j, none⟩) hb).trans (hc j u hj)) hx
      rw [← hz] at hl2
      have one := h1 x (get_mem hx)
      have hXs : (ePRule x).toArray.size = z := by rw [hz]; rfl
      have hcall := hp (wr.alloc (.cells (ePRule x).toArray 107)) k x hx ((BW.out.alloc BW.out.size _))
      have D : Aside (l.drop k = x :: l.drop (k + 1)) := drop_get hx
      clear hp hc hcell hx hz h1
      obtain ⟨X, hX⟩ : ∃ X, X = (ePRule x).toArray := ⟨_, rfl⟩
      rw [← hX] at hl2 hcall hXs one
      clear hX
      have hst := run_storeCells_new (P := P) wr 107 Z X (by rw [hXs]; exact hinfo) (by rw [hZs, hXs]) one
      have hld := run_loadCellsFrom_new (P := P) wr 107 X z hXs
      have BA : Aside (Below wr.heap.size wr (wr.alloc (.cells X 107))) := new_below _ _
      clear one hinfo
      obtain ⟨q, hq⟩ : ∃ q, q = f k x := ⟨_, rfl⟩
      rw [← hq] at hcall
      have Q : Aside (q = f k x) := hq
      clear hq
      by_cases h0 : q = 0
      · subst h0
        iterate 50 (first | go_skip | go_guarded | go_step | go_upon)
        refine wp_call_fn (g := g) (lb := lb) _ rfl _ rfl rfl [.int .i64 (k : Int), .agg X] rfl eg ?_
        refine hcall.mono ?_; rintro e w' ⟨rfl, hb'⟩; refine ⟨_, rfl, ?_⟩
        have B2 : Aside (Below wr.heap.size wr w') := then_ BA.out hb'
        clear hcall hl2 hst hld BA hb'
        repeat (first | go_skip | go_guarded | go_step | go_upon)
        trace_state
        go_roundg (n - (k + 1))
        case measure => omega
        case rel =>
          refine ⟨k + 1, by omega, by omega, by go_num, then_ BW.out B2.out, ?_⟩
          show _ = _
          rw [E.out, D.out, firstE_next Q.out.symm]
      · iterate 50 (first | go_skip | go_guarded | go_step | go_upon)
        refine wp_call_fn (g := g) (lb := lb) _ rfl _ rfl rfl [.int .i64 (k : Int), .agg X] rfl eg ?_
        refine hcall.mono ?_; rintro e w' ⟨rfl, hb'⟩; refine ⟨_, rfl, ?_⟩
        have B2 : Aside (Below wr.heap.size wr w') := then_ BA.out hb'
        clear hcall hl2 hst hld BA hb'
        repeat (first | go_skip | go_guarded | go_step | go_upon)
        trace_state
        go_ret
        refine ⟨?_, then_ BW.out B2.out⟩
        rw [R.out, E.out, D.out, firstE_hit (by rw [← Q.out]; exact h0), ← Q.out]
        rfl
    · have hlti : ¬ (k : Int) < (n : Int) := by omega
      have D : Aside (l.drop k = []) := drop_end (by have := N.out; omega)
      clear hp hcell
      repeat (first | go_skip | go_guarded | go_step | go_upon)
      go_ret
      refine ⟨?_, BW.out⟩
      rw [R.out, E.out, D.out]
      rfl


set_option maxHeartbeats 1000000 in
/-- model.checkEach. -/
theorem eachRMap (v : Value) (l : List RMap) (m : Nat) (f : Nat → RMap → Int) (g : Nat) (lb : Array Value) (eg : ∀ args w, (callFunc g args).run Tryz.prog w = .ok (.enter g args) w) (w : World) (hrow : IsRow eRMap 2 w v l) (hl : l.length ≤ 9223372036854775807) (h1 : ∀ x ∈ l, (eRMap x).toArray.all (·.oneCell') = true) (hp : Chk Tryz.prog g lb eRMap f l w) :
    Calls Tryz.prog 76 #[v, .int .i64 (m : Int), .func (.func g) #[] lb] w fun e w' => e = .returned (.int .i64 (eachE m f l)) ∧ Below w.heap.size w w' := by
  obtain ⟨a, cap, rfl, hcap, hcell⟩ := rows_open (z := 2) (by decide) hrow
  obtain ⟨n, hn⟩ : ∃ n, n = l.length := ⟨_, rfl⟩
  rw [← hn] at hl hcap hcell ⊢
  have N := hid hn
  clear hn hrow
  by_cases hmn : m < n
  · have hmi : (m : Int) < (n : Int) := by omega
    have R := hid (show eachE m f l = 7 by unfold eachE; rw [if_pos (by have := N.out; omega)])
    clear hp hcell
    go_enter Tryz.func76, Tryz.ntmps76
    repeat (first | go_skip | go_guarded | go_step | go_upon)
    go_ret
    exact ⟨ret_int R.out.symm, Below.refl _ _⟩
  have hmi : ¬ (m : Int) < (n : Int) := by omega
  have R := hid (show eachE m f l = firstE f 0 l by unfold eachE; rw [if_neg (by have := N.out; omega)])
  obtain ⟨P, hP⟩ : ∃ P, P = Tryz.prog := ⟨_, rfl⟩
  obtain ⟨z, hz⟩ : ∃ z, z = 2 := ⟨_, rfl⟩
  have mixed : P.follows .mixedOrders = true := by rw [hP]; kernel_rfl
  have FG : P.funcs[76]? = some Tryz.f76 := by rw [hP]; exact Tryz.func76
  have ts0 := Tryz.underlying3
  have as0 := Tryz.isAgg3
  have zs0 := Tryz.sizeOf3
  have ts1 := Tryz.underlying4
  have as1 := Tryz.isAgg4
  have zs1 := Tryz.sizeOf4
  have tsl := Tryz.underlying24
  have asl := Tryz.isAgg24
  have zsl := Tryz.sizeOf24
  have ael := Tryz.isAgg67
  have zel := Tryz.sizeOf67
  rw [← hz] at zel
  rw [← hP] at ts0 as0 zs0 ts1 as1 zs1 tsl asl zsl ael zel eg hp ⊢
  obtain ⟨Z, hZ, hZs⟩ : ∃ Z : Array Value, (∀ w, (zeroValue 67).run P w = .ok (.agg Z) w) ∧ Z.size = z := ⟨_, by have h := Tryz.zeroValue67; rw [← hP] at h; exact h, by rw [hz]; rfl⟩
  have hinfo : (P.info? 67).map (·.size) = some z := by rw [hP, hz]; kernel_rfl
  clear hP
  go_enter FG, Tryz.ntmps76
  repeat (first | go_skip | go_guarded | go_step | go_upon)
  go_loopg [16] n (fun gg s16 wr => ∃ k : Nat, k ≤ n ∧ n - k ≤ gg ∧ s16 = .int .i64 k ∧ Aside (Below w.heap.size w wr) ∧ Aside (firstE f 0 l = firstE f k (l.drop k)))
  case atStart => exact ⟨0, Nat.zero_le _, by omega, rfl, Below.refl _ w, rfl⟩
  case round =>
    obtain ⟨k, hk, hg, rfl, BW, E⟩ := hrel
    by_cases hlt : k < n
    · have hlti : (k : Int) < (n : Int) := by omega
      obtain ⟨x, hx⟩ := get_some (l := l) (k := k) (by have := N.out; omega)
      obtain ⟨b, off, rfl, hb, hc⟩ := hcell (by omega)
      have hl2 : Sem.run P (loadCellsFrom ⟨b, off + k * 2, none⟩ 0 2 #[]) wr = .ok (eRMap x).toArray wr :=
        ld_row (f := eRMap) (z := 2) P (fun _ => rfl) (fun j u hj => (BW.out.cell (p := ⟨b, off + j, none⟩) hb).trans (hc j u hj)) hx
      rw [← hz] at hl2
      have one := h1 x (get_mem hx)
      have hXs : (eRMap x).toArray.size = z := by rw [hz]; rfl
      have hcall := hp (wr.alloc (.cells (eRMap x).toArray 67)) k x hx ((BW.out.alloc BW.out.size _))
      have D : Aside (l.drop k = x :: l.drop (k + 1)) := drop_get hx
      clear hp hc hcell hx hz h1
      obtain ⟨X, hX⟩ : ∃ X, X = (eRMap x).toArray := ⟨_, rfl⟩
      rw [← hX] at hl2 hcall hXs one
      clear hX
      have hst := run_storeCells_new (P := P) wr 67 Z X (by rw [hXs]; exact hinfo) (by rw [hZs, hXs]) one
      have hld := run_loadCellsFrom_new (P := P) wr 67 X z hXs
      have BA : Aside (Below wr.heap.size wr (wr.alloc (.cells X 67))) := new_below _ _
      clear one hinfo
      obtain ⟨q, hq⟩ : ∃ q, q = f k x := ⟨_, rfl⟩
      rw [← hq] at hcall
      have Q : Aside (q = f k x) := hq
      clear hq
      by_cases h0 : q = 0
      · subst h0
        iterate 50 (first | go_skip | go_guarded | go_step | go_upon)
        refine wp_call_fn (g := g) (lb := lb) _ rfl _ rfl rfl [.int .i64 (k : Int), .agg X] rfl eg ?_
        refine hcall.mono ?_; rintro e w' ⟨rfl, hb'⟩; refine ⟨_, rfl, ?_⟩
        have B2 : Aside (Below wr.heap.size wr w') := then_ BA.out hb'
        clear hcall hl2 hst hld BA hb'
        repeat (first | go_skip | go_guarded | go_step | go_upon)
        trace_state
        go_roundg (n - (k + 1))
        case measure => omega
        case rel =>
          refine ⟨k + 1, by omega, by omega, by go_num, then_ BW.out B2.out, ?_⟩
          show _ = _
          rw [E.out, D.out, firstE_next Q.out.symm]
      · iterate 50 (first | go_skip | go_guarded | go_step | go_upon)
        refine wp_call_fn (g := g) (lb := lb) _ rfl _ rfl rfl [.int .i64 (k : Int), .agg X] rfl eg ?_
        refine hcall.mono ?_; rintro e w' ⟨rfl, hb'⟩; refine ⟨_, rfl, ?_⟩
        have B2 : Aside (Below wr.heap.size wr w') := then_ BA.out hb'
        clear hcall hl2 hst hld BA hb'
        repeat (first | go_skip | go_guarded | go_step | go_upon)
        trace_state
        go_ret
        refine ⟨?_, then_ BW.out B2.out⟩
        rw [R.out, E.out, D.out, firstE_hit (by rw [← Q.out]; exact h0), ← Q.out]
        rfl
    · have hlti : ¬ (k : Int) < (n : Int) := by omega
      have D : Aside (l.drop k = []) := drop_end (by have := N.out; omega)
      clear hp hcell
      repeat (first | go_skip | go_guarded | go_step | go_upon)
      go_ret
      refine ⟨?_, BW.out⟩
      rw [R.out, E.out, D.out]
      rfl


set_option maxHeartbeats 1000000 in
/-- model.checkEach. -/
theorem eachCla (v : Value) (l : List Cla) (m : Nat) (f : Nat → Cla → Int) (g : Nat) (lb : Array Value) (eg : ∀ args w, (callFunc g args).run Tryz.prog w = .ok (.enter g args) w) (w : World) (hrow : IsRow eCla 7 w v l) (hl : l.length ≤ 9223372036854775807) (h1 : ∀ x ∈ l, (eCla x).toArray.all (·.oneCell') = true) (hp : Chk Tryz.prog g lb eCla f l w) :
    Calls Tryz.prog 79 #[v, .int .i64 (m : Int), .func (.func g) #[] lb] w fun e w' => e = .returned (.int .i64 (eachE m f l)) ∧ Below w.heap.size w w' := by
  obtain ⟨a, cap, rfl, hcap, hcell⟩ := rows_open (z := 7) (by decide) hrow
  obtain ⟨n, hn⟩ : ∃ n, n = l.length := ⟨_, rfl⟩
  rw [← hn] at hl hcap hcell ⊢
  have N := hid hn
  clear hn hrow
  by_cases hmn : m < n
  · have hmi : (m : Int) < (n : Int) := by omega
    have R := hid (show eachE m f l = 7 by unfold eachE; rw [if_pos (by have := N.out; omega)])
    clear hp hcell
    go_enter Tryz.func79, Tryz.ntmps79
    repeat (first | go_skip | go_guarded | go_step | go_upon)
    go_ret
    exact ⟨ret_int R.out.symm, Below.refl _ _⟩
  have hmi : ¬ (m : Int) < (n : Int) := by omega
  have R := hid (show eachE m f l = firstE f 0 l by unfold eachE; rw [if_neg (by have := N.out; omega)])
  obtain ⟨P, hP⟩ : ∃ P, P = Tryz.prog := ⟨_, rfl⟩
  obtain ⟨z, hz⟩ : ∃ z, z = 7 := ⟨_, rfl⟩
  have mixed : P.follows .mixedOrders = true := by rw [hP]; kernel_rfl
  have FG : P.funcs[79]? = some Tryz.f79 := by rw [hP]; exact Tryz.func79
  have ts0 := Tryz.underlying3
  have as0 := Tryz.isAgg3
  have zs0 := Tryz.sizeOf3
  have ts1 := Tryz.underlying4
  have as1 := Tryz.isAgg4
  have zs1 := Tryz.sizeOf4
  have tsl := Tryz.underlying65
  have asl := Tryz.isAgg65
  have zsl := Tryz.sizeOf65
  have ael := Tryz.isAgg114
  have zel := Tryz.sizeOf114
  rw [← hz] at zel
  rw [← hP] at ts0 as0 zs0 ts1 as1 zs1 tsl asl zsl ael zel eg hp ⊢
  obtain ⟨Z, hZ, hZs⟩ : ∃ Z : Array Value, (∀ w, (zeroValue 114).run P w = .ok (.agg Z) w) ∧ Z.size = z := ⟨_, by have h := Tryz.zeroValue114; rw [← hP] at h; exact h, by rw [hz]; rfl⟩
  have hinfo : (P.info? 114).map (·.size) = some z := by rw [hP, hz]; kernel_rfl
  clear hP
  go_enter FG, Tryz.ntmps79
  repeat (first | go_skip | go_guarded | go_step | go_upon)
  go_loopg [16] n (fun gg s16 wr => ∃ k : Nat, k ≤ n ∧ n - k ≤ gg ∧ s16 = .int .i64 k ∧ Aside (Below w.heap.size w wr) ∧ Aside (firstE f 0 l = firstE f k (l.drop k)))
  case atStart => exact ⟨0, Nat.zero_le _, by omega, rfl, Below.refl _ w, rfl⟩
  case round =>
    obtain ⟨k, hk, hg, rfl, BW, E⟩ := hrel
    by_cases hlt : k < n
    · have hlti : (k : Int) < (n : Int) := by omega
      obtain ⟨x, hx⟩ := get_some (l := l) (k := k) (by have := N.out; omega)
      obtain ⟨b, off, rfl, hb, hc⟩ := hcell (by omega)
      have hl2 : Sem.run P (loadCellsFrom ⟨b, off + k * 7, none⟩ 0 7 #[]) wr = .ok (eCla x).toArray wr :=
        ld_row (f := eCla) (z := 7) P (fun _ => rfl) (fun j u hj => (BW.out.cell (p := ⟨b, off + j, none⟩) hb).trans (hc j u hj)) hx
      rw [← hz] at hl2
      have one := h1 x (get_mem hx)
      have hXs : (eCla x).toArray.size = z := by rw [hz]; rfl
      have hcall := hp (wr.alloc (.cells (eCla x).toArray 114)) k x hx ((BW.out.alloc BW.out.size _))
      have D : Aside (l.drop k = x :: l.drop (k + 1)) := drop_get hx
      clear hp hc hcell hx hz h1
      obtain ⟨X, hX⟩ : ∃ X, X = (eCla x).toArray := ⟨_, rfl⟩
      rw [← hX] at hl2 hcall hXs one
      clear hX
      have hst := run_storeCells_new (P := P) wr 114 Z X (by rw [hXs]; exact hinfo) (by rw [hZs, hXs]) one
      have hld := run_loadCellsFrom_new (P := P) wr 114 X z hXs
      have BA : Aside (Below wr.heap.size wr (wr.alloc (.cells X 114))) := new_below _ _
      clear one hinfo
      obtain ⟨q, hq⟩ : ∃ q, q = f k x := ⟨_, rfl⟩
      rw [← hq] at hcall
      have Q : Aside (q = f k x) := hq
      clear hq
      by_cases h0 : q = 0
      · subst h0
        iterate 50 (first | go_skip | go_guarded | go_step | go_upon)
        refine wp_call_fn (g := g) (lb := lb) _ rfl _ rfl rfl [.int .i64 (k : Int), .agg X] rfl eg ?_
        refine hcall.mono ?_; rintro e w' ⟨rfl, hb'⟩; refine ⟨_, rfl, ?_⟩
        have B2 : Aside (Below wr.heap.size wr w') := then_ BA.out hb'
        clear hcall hl2 hst hld BA hb'
        repeat (first | go_skip | go_guarded | go_step | go_upon)
        trace_state
        go_roundg (n - (k + 1))
        case measure => omega
        case rel =>
          refine ⟨k + 1, by omega, by omega, by go_num, then_ BW.out B2.out, ?_⟩
          show _ = _
          rw [E.out, D.out, firstE_next Q.out.symm]
      · iterate 50 (first | go_skip | go_guarded | go_step | go_upon)
        refine wp_call_fn (g := g) (lb := lb) _ rfl _ rfl rfl [.int .i64 (k : Int), .agg X] rfl eg ?_
        refine hcall.mono ?_; rintro e w' ⟨rfl, hb'⟩; refine ⟨_, rfl, ?_⟩
        have B2 : Aside (Below wr.heap.size wr w') := then_ BA.out hb'
        clear hcall hl2 hst hld BA hb'
        repeat (first | go_skip | go_guarded | go_step | go_upon)
        trace_state
        go_ret
        refine ⟨?_, then_ BW.out B2.out⟩
        rw [R.out, E.out, D.out, firstE_hit (by rw [← Q.out]; exact h0), ← Q.out]
        rfl
    · have hlti : ¬ (k : Int) < (n : Int) := by omega
      have D : Aside (l.drop k = []) := drop_end (by have := N.out; omega)
      clear hp hcell
      repeat (first | go_skip | go_guarded | go_step | go_upon)
      go_ret
      refine ⟨?_, BW.out⟩
      rw [R.out, E.out, D.out]
      rfl


set_option maxHeartbeats 1000000 in
/-- model.checkEach. -/
theorem eachAcl (v : Value) (l : List Acl) (m : Nat) (f : Nat → Acl → Int) (g : Nat) (lb : Array Value) (eg : ∀ args w, (callFunc g args).run Tryz.prog w = .ok (.enter g args) w) (w : World) (hrow : IsRow eAcl 2 w v l) (hl : l.length ≤ 9223372036854775807) (h1 : ∀ x ∈ l, (eAcl x).toArray.all (·.oneCell') = true) (hp : Chk Tryz.prog g lb eAcl f l w) :
    Calls Tryz.prog 83 #[v, .int .i64 (m : Int), .func (.func g) #[] lb] w fun e w' => e = .returned (.int .i64 (eachE m f l)) ∧ Below w.heap.size w w' := by
  obtain ⟨a, cap, rfl, hcap, hcell⟩ := rows_open (z := 2) (by decide) hrow
  obtain ⟨n, hn⟩ : ∃ n, n = l.length := ⟨_, rfl⟩
  rw [← hn] at hl hcap hcell ⊢
  have N := hid hn
  clear hn hrow
  by_cases hmn : m < n
  · have hmi : (m : Int) < (n : Int) := by omega
    have R := hid (show eachE m f l = 7 by unfold eachE; rw [if_pos (by have := N.out; omega)])
    clear hp hcell
    go_enter Tryz.func83, Tryz.ntmps83
    repeat (first | go_skip | go_guarded | go_step | go_upon)
    go_ret
    exact ⟨ret_int R.out.symm, Below.refl _ _⟩
  have hmi : ¬ (m : Int) < (n : Int) := by omega
  have R := hid (show eachE m f l = firstE f 0 l by unfold eachE; rw [if_neg (by have := N.out; omega)])
  obtain ⟨P, hP⟩ : ∃ P, P = Tryz.prog := ⟨_, rfl⟩
  obtain ⟨z, hz⟩ : ∃ z, z = 2 := ⟨_, rfl⟩
  have mixed : P.follows .mixedOrders = true := by rw [hP]; kernel_rfl
  have FG : P.funcs[83]? = some Tryz.f83 := by rw [hP]; exact Tryz.func83
  have ts0 := Tryz.underlying3
  have as0 := Tryz.isAgg3
  have zs0 := Tryz.sizeOf3
  have ts1 := Tryz.underlying4
  have as1 := Tryz.isAgg4
  have zs1 := Tryz.sizeOf4
  have tsl := Tryz.underlying25
  have asl := Tryz.isAgg25
  have zsl := Tryz.sizeOf25
  have ael := Tryz.isAgg70
  have zel := Tryz.sizeOf70
  rw [← hz] at zel
  rw [← hP] at ts0 as0 zs0 ts1 as1 zs1 tsl asl zsl ael zel eg hp ⊢
  obtain ⟨Z, hZ, hZs⟩ : ∃ Z : Array Value, (∀ w, (zeroValue 70).run P w = .ok (.agg Z) w) ∧ Z.size = z := ⟨_, by have h := Tryz.zeroValue70; rw [← hP] at h; exact h, by rw [hz]; rfl⟩
  have hinfo : (P.info? 70).map (·.size) = some z := by rw [hP, hz]; kernel_rfl
  clear hP
  go_enter FG, Tryz.ntmps83
  repeat (first | go_skip | go_guarded | go_step | go_upon)
  go_loopg [16] n (fun gg s16 wr => ∃ k : Nat, k ≤ n ∧ n - k ≤ gg ∧ s16 = .int .i64 k ∧ Aside (Below w.heap.size w wr) ∧ Aside (firstE f 0 l = firstE f k (l.drop k)))
  case atStart => exact ⟨0, Nat.zero_le _, by omega, rfl, Below.refl _ w, rfl⟩
  case round =>
    obtain ⟨k, hk, hg, rfl, BW, E⟩ := hrel
    by_cases hlt : k < n
    · have hlti : (k : Int) < (n : Int) := by omega
      obtain ⟨x, hx⟩ := get_some (l := l) (k := k) (by have := N.out; omega)
      obtain ⟨b, off, rfl, hb, hc⟩ := hcell (by omega)
      have hl2 : Sem.run P (loadCellsFrom ⟨b, off + k * 2, none⟩ 0 2 #[]) wr = .ok (eAcl x).toArray wr :=
        ld_row (f := eAcl) (z := 2) P (fun _ => rfl) (fun j u hj => (BW.out.cell (p := ⟨b, off + j, none⟩) hb).trans (hc j u hj)) hx
      rw [← hz] at hl2
      have one := h1 x (get_mem hx)
      have hXs : (eAcl x).toArray.size = z := by rw [hz]; rfl
      have hcall := hp (wr.alloc (.cells (eAcl x).toArray 70)) k x hx ((BW.out.alloc BW.out.size _))
      have D : Aside (l.drop k = x :: l.drop (k + 1)) := drop_get hx
      clear hp hc hcell hx hz h1
      obtain ⟨X, hX⟩ : ∃ X, X = (eAcl x).toArray := ⟨_, rfl⟩
      rw [← hX] at hl2 hcall hXs one
      clear hX
      have hst := run_storeCells_new (P := P) wr 70 Z X (by rw [hXs]; exact hinfo) (by rw [hZs, hXs]) one
      have hld := run_loadCellsFrom_new (P := P) wr 70 X z hXs
      have BA : Aside (Below wr.heap.size wr (wr.alloc (.cells X 70))) := new_below _ _
      clear one hinfo
      obtain ⟨q, hq⟩ : ∃ q, q = f k x := ⟨_, rfl⟩
      rw [← hq] at hcall
      have Q : Aside (q = f k x) := hq
      clear hq
      by_cases h0 : q = 0
      · subst h0
        iterate 50 (first | go_skip | go_guarded | go_step | go_upon)
        refine wp_call_fn (g := g) (lb := lb) _ rfl _ rfl rfl [.int .i64 (k : Int), .agg X] rfl eg ?_
        refine hcall.mono ?_; rintro e w' ⟨rfl, hb'⟩; refine ⟨_, rfl, ?_⟩
        have B2 : Aside (Below wr.heap.size wr w') := then_ BA.out hb'
        clear hcall hl2 hst hld BA hb'
        repeat (first | go_skip | go_guarded | go_step | go_upon)
        trace_state
        go_roundg (n - (k + 1))
        case measure => omega
        case rel =>
          refine ⟨k + 1, by omega, by omega, by go_num, then_ BW.out B2.out, ?_⟩
          show _ = _
          rw [E.out, D.out, firstE_next Q.out.symm]
      · iterate 50 (first | go_skip | go_guarded | go_step | go_upon)
        refine wp_call_fn (g := g) (lb := lb) _ rfl _ rfl rfl [.int .i64 (k : Int), .agg X] rfl eg ?_
        refine hcall.mono ?_; rintro e w' ⟨rfl, hb'⟩; refine ⟨_, rfl, ?_⟩
        have B2 : Aside (Below wr.heap.size wr w') := then_ BA.out hb'
        clear hcall hl2 hst hld BA hb'
        repeat (first | go_skip | go_guarded | go_step | go_upon)
        trace_state
        go_ret
        refine ⟨?_, then_ BW.out B2.out⟩
        rw [R.out, E.out, D.out, firstE_hit (by rw [← Q.out]; exact h0), ← Q.out]
        rfl
    · have hlti : ¬ (k : Int) < (n : Int) := by omega
      have D : Aside (l.drop k = []) := drop_end (by have := N.out; omega)
      clear hp hcell
      repeat (first | go_skip | go_guarded | go_step | go_upon)
      go_ret
      refine ⟨?_, BW.out⟩
      rw [R.out, E.out, D.out]
      rfl


set_option maxHeartbeats 1000000 in
/-- model.checkEach. -/
theorem eachRule (v : Value) (l : List Rule) (m : Nat) (f : Nat → Rule → Int) (g : Nat) (lb : Array Value) (eg : ∀ args w, (callFunc g args).run Tryz.prog w = .ok (.enter g args) w) (w : World) (hrow : IsRow eRule 10 w v l) (hl : l.length ≤ 9223372036854775807) (h1 : ∀ x ∈ l, (eRule x).toArray.all (·.oneCell') = true) (hp : Chk Tryz.prog g lb eRule f l w) :
    Calls Tryz.prog 86 #[v, .int .i64 (m : Int), .func (.func g) #[] lb] w fun e w' => e = .returned (.int .i64 (eachE m f l)) ∧ Below w.heap.size w w' := by
  obtain ⟨a, cap, rfl, hcap, hcell⟩ := rows_open (z := 10) (by decide) hrow
  obtain ⟨n, hn⟩ : ∃ n, n = l.length := ⟨_, rfl⟩
  rw [← hn] at hl hcap hcell ⊢
  have N := hid hn
  clear hn hrow
  by_cases hmn : m < n
  · have hmi : (m : Int) < (n : Int) := by omega
    have R := hid (show eachE m f l = 7 by unfold eachE; rw [if_pos (by have := N.out; omega)])
    clear hp hcell
    go_enter Tryz.func86, Tryz.ntmps86
    repeat (first | go_skip | go_guarded | go_step | go_upon)
    go_ret
    exact ⟨ret_int R.out.symm, Below.refl _ _⟩
  have hmi : ¬ (m : Int) < (n : Int) := by omega
  have R := hid (show eachE m f l = firstE f 0 l by unfold eachE; rw [if_neg (by have := N.out; omega)])
  obtain ⟨P, hP⟩ : ∃ P, P = Tryz.prog := ⟨_, rfl⟩
  obtain ⟨z, hz⟩ : ∃ z, z = 10 := ⟨_, rfl⟩
  have mixed : P.follows .mixedOrders = true := by rw [hP]; kernel_rfl
  have FG : P.funcs[86]? = some Tryz.f86 := by rw [hP]; exact Tryz.func86
  have ts0 := Tryz.underlying3
  have as0 := Tryz.isAgg3
  have zs0 := Tryz.sizeOf3
  have ts1 := Tryz.underlying4
  have as1 := Tryz.isAgg4
  have zs1 := Tryz.sizeOf4
  have tsl := Tryz.underlying68
  have asl := Tryz.isAgg68
  have zsl := Tryz.sizeOf68
  have ael := Tryz.isAgg126
  have zel := Tryz.sizeOf126
  rw [← hz] at zel
  rw [← hP] at ts0 as0 zs0 ts1 as1 zs1 tsl asl zsl ael zel eg hp ⊢
  obtain ⟨Z, hZ, hZs⟩ : ∃ Z : Array Value, (∀ w, (zeroValue 126).run P w = .ok (.agg Z) w) ∧ Z.size = z := ⟨_, by have h := Tryz.zeroValue126; rw [← hP] at h; exact h, by rw [hz]; rfl⟩
  have hinfo : (P.info? 126).map (·.size) = some z := by rw [hP, hz]; kernel_rfl
  clear hP
  go_enter FG, Tryz.ntmps86
  repeat (first | go_skip | go_guarded | go_step | go_upon)
  go_loopg [16] n (fun gg s16 wr => ∃ k : Nat, k ≤ n ∧ n - k ≤ gg ∧ s16 = .int .i64 k ∧ Aside (Below w.heap.size w wr) ∧ Aside (firstE f 0 l = firstE f k (l.drop k)))
  case atStart => exact ⟨0, Nat.zero_le _, by omega, rfl, Below.refl _ w, rfl⟩
  case round =>
    obtain ⟨k, hk, hg, rfl, BW, E⟩ := hrel
    by_cases hlt : k < n
    · have hlti : (k : Int) < (n : Int) := by omega
      obtain ⟨x, hx⟩ := get_some (l := l) (k := k) (by have := N.out; omega)
      obtain ⟨b, off, rfl, hb, hc⟩ := hcell (by omega)
      have hl2 : Sem.run P (loadCellsFrom ⟨b, off + k * 10, none⟩ 0 10 #[]) wr = .ok (eRule x).toArray wr :=
        ld_row (f := eRule) (z := 10) P (fun _ => rfl) (fun j u hj => (BW.out.cell (p := ⟨b, off + j, none⟩) hb).trans (hc j u hj)) hx
      rw [← hz] at hl2
      have one := h1 x (get_mem hx)
      have hXs : (eRule x).toArray.size = z := by rw [hz]; rfl
      have hcall := hp (wr.alloc (.cells (eRule x).toArray 126)) k x hx ((BW.out.alloc BW.out.size _))
      have D : Aside (l.drop k = x :: l.drop (k + 1)) := drop_get hx
      clear hp hc hcell hx hz h1
      obtain ⟨X, hX⟩ : ∃ X, X = (eRule x).toArray := ⟨_, rfl⟩
      rw [← hX] at hl2 hcall hXs one
      clear hX
      have hst := run_storeCells_new (P := P) wr 126 Z X (by rw [hXs]; exact hinfo) (by rw [hZs, hXs]) one
      have hld := run_loadCellsFrom_new (P := P) wr 126 X z hXs
      have BA : Aside (Below wr.heap.size wr (wr.alloc (.cells X 126))) := new_below _ _
      clear one hinfo
      obtain ⟨q, hq⟩ : ∃ q, q = f k x := ⟨_, rfl⟩
      rw [← hq] at hcall
      have Q : Aside (q = f k x) := hq
      clear hq
      by_cases h0 : q = 0
      · subst h0
        iterate 50 (first | go_skip | go_guarded | go_step | go_upon)
        refine wp_call_fn (g := g) (lb := lb) _ rfl _ rfl rfl [.int .i64 (k : Int), .agg X] rfl eg ?_
        refine hcall.mono ?_; rintro e w' ⟨rfl, hb'⟩; refine ⟨_, rfl, ?_⟩
        have B2 : Aside (Below wr.heap.size wr w') := then_ BA.out hb'
        clear hcall hl2 hst hld BA hb'
        repeat (first | go_skip | go_guarded | go_step | go_upon)
        trace_state
        go_roundg (n - (k + 1))
        case measure => omega
        case rel =>
          refine ⟨k + 1, by omega, by omega, by go_num, then_ BW.out B2.out, ?_⟩
          show _ = _
          rw [E.out, D.out, firstE_next Q.out.symm]
      · iterate 50 (first | go_skip | go_guarded | go_step | go_upon)
        refine wp_call_fn (g := g) (lb := lb) _ rfl _ rfl rfl [.int .i64 (k : Int), .agg X] rfl eg ?_
        refine hcall.mono ?_; rintro e w' ⟨rfl, hb'⟩; refine ⟨_, rfl, ?_⟩
        have B2 : Aside (Below wr.heap.size wr w') := then_ BA.out hb'
        clear hcall hl2 hst hld BA hb'
        repeat (first | go_skip | go_guarded | go_step | go_upon)
        trace_state
        go_ret
        refine ⟨?_, then_ BW.out B2.out⟩
        rw [R.out, E.out, D.out, firstE_hit (by rw [← Q.out]; exact h0), ← Q.out]
        rfl
    · have hlti : ¬ (k : Int) < (n : Int) := by omega
      have D : Aside (l.drop k = []) := drop_end (by have := N.out; omega)
      clear hp hcell
      repeat (first | go_skip | go_guarded | go_step | go_upon)
      go_ret
      refine ⟨?_, BW.out⟩
      rw [R.out, E.out, D.out]
      rfl


set_option maxHeartbeats 1000000 in
/-- model.checkEach. -/
theorem eachTran (v : Value) (l : List Tran) (m : Nat) (f : Nat → Tran → Int) (g : Nat) (lb : Array Value) (eg : ∀ args w, (callFunc g args).run Tryz.prog w = .ok (.enter g args) w) (w : World) (hrow : IsRow eTran 9 w v l) (hl : l.length ≤ 9223372036854775807) (h1 : ∀ x ∈ l, (eTran x).toArray.all (·.oneCell') = true) (hp : Chk Tryz.prog g lb eTran f l w) :
    Calls Tryz.prog 89 #[v, .int .i64 (m : Int), .func (.func g) #[] lb] w fun e w' => e = .returned (.int .i64 (eachE m f l)) ∧ Below w.heap.size w w' := by
  obtain ⟨a, cap, rfl, hcap, hcell⟩ := rows_open (z := 9) (by decide) hrow
  obtain ⟨n, hn⟩ : ∃ n, n = l.length := ⟨_, rfl⟩
  rw [← hn] at hl hcap hcell ⊢
  have N := hid hn
  clear hn hrow
  by_cases hmn : m < n
  · have hmi : (m : Int) < (n : Int) := by omega
    have R := hid (show eachE m f l = 7 by unfold eachE; rw [if_pos (by have := N.out; omega)])
    clear hp hcell
    go_enter Tryz.func89, Tryz.ntmps89
    repeat (first | go_skip | go_guarded | go_step | go_upon)
    go_ret
    exact ⟨ret_int R.out.symm, Below.refl _ _⟩
  have hmi : ¬ (m : Int) < (n : Int) := by omega
  have R := hid (show eachE m f l = firstE f 0 l by unfold eachE; rw [if_neg (by have := N.out; omega)])
  obtain ⟨P, hP⟩ : ∃ P, P = Tryz.prog := ⟨_, rfl⟩
  obtain ⟨z, hz⟩ : ∃ z, z = 9 := ⟨_, rfl⟩
  have mixed : P.follows .mixedOrders = true := by rw [hP]; kernel_rfl
  have FG : P.funcs[89]? = some Tryz.f89 := by rw [hP]; exact Tryz.func89
  have ts0 := Tryz.underlying3
  have as0 := Tryz.isAgg3
  have zs0 := Tryz.sizeOf3
  have ts1 := Tryz.underlying4
  have as1 := Tryz.isAgg4
  have zs1 := Tryz.sizeOf4
  have tsl := Tryz.underlying26
  have asl := Tryz.isAgg26
  have zsl := Tryz.sizeOf26
  have ael := Tryz.isAgg85
  have zel := Tryz.sizeOf85
  rw [← hz] at zel
  rw [← hP] at ts0 as0 zs0 ts1 as1 zs1 tsl asl zsl ael zel eg hp ⊢
  obtain ⟨Z, hZ, hZs⟩ : ∃ Z : Array Value, (∀ w, (zeroValue 85).run P w = .ok (.agg Z) w) ∧ Z.size = z := ⟨_, by have h := Tryz.zeroValue85; rw [← hP] at h; exact h, by rw [hz]; rfl⟩
  have hinfo : (P.info? 85).map (·.size) = some z := by rw [hP, hz]; kernel_rfl
  clear hP
  go_enter FG, Tryz.ntmps89
  repeat (first | go_skip | go_guarded | go_step | go_upon)
  go_loopg [16] n (fun gg s16 wr => ∃ k : Nat, k ≤ n ∧ n - k ≤ gg ∧ s16 = .int .i64 k ∧ Aside (Below w.heap.size w wr) ∧ Aside (firstE f 0 l = firstE f k (l.drop k)))
  case atStart => exact ⟨0, Nat.zero_le _, by omega, rfl, Below.refl _ w, rfl⟩
  case round =>
    obtain ⟨k, hk, hg, rfl, BW, E⟩ := hrel
    by_cases hlt : k < n
    · have hlti : (k : Int) < (n : Int) := by omega
      obtain ⟨x, hx⟩ := get_some (l := l) (k := k) (by have := N.out; omega)
      obtain ⟨b, off, rfl, hb, hc⟩ := hcell (by omega)
      have hl2 : Sem.run P (loadCellsFrom ⟨b, off + k * 9, none⟩ 0 9 #[]) wr = .ok (eTran x).toArray wr :=
        ld_row (f := eTran) (z := 9) P (fun _ => rfl) (fun j u hj => (BW.out.cell (p := ⟨b, off + j, none⟩) hb).trans (hc j u hj)) hx
      rw [← hz] at hl2
      have one := h1 x (get_mem hx)
      have hXs : (eTran x).toArray.size = z := by rw [hz]; rfl
      have hcall := hp (wr.alloc (.cells (eTran x).toArray 85)) k x hx ((BW.out.alloc BW.out.size _))
      have D : Aside (l.drop k = x :: l.drop (k + 1)) := drop_get hx
      clear hp hc hcell hx hz h1
      obtain ⟨X, hX⟩ : ∃ X, X = (eTran x).toArray := ⟨_, rfl⟩
      rw [← hX] at hl2 hcall hXs one
      clear hX
      have hst := run_storeCells_new (P := P) wr 85 Z X (by rw [hXs]; exact hinfo) (by rw [hZs, hXs]) one
      have hld := run_loadCellsFrom_new (P := P) wr 85 X z hXs
      have BA : Aside (Below wr.heap.size wr (wr.alloc (.cells X 85))) := new_below _ _
      clear one hinfo
      obtain ⟨q, hq⟩ : ∃ q, q = f k x := ⟨_, rfl⟩
      rw [← hq] at hcall
      have Q : Aside (q = f k x) := hq
      clear hq
      by_cases h0 : q = 0
      · subst h0
        iterate 50 (first | go_skip | go_guarded | go_step | go_upon)
        refine wp_call_fn (g := g) (lb := lb) _ rfl _ rfl rfl [.int .i64 (k : Int), .agg X] rfl eg ?_
        refine hcall.mono ?_; rintro e w' ⟨rfl, hb'⟩; refine ⟨_, rfl, ?_⟩
        have B2 : Aside (Below wr.heap.size wr w') := then_ BA.out hb'
        clear hcall hl2 hst hld BA hb'
        repeat (first | go_skip | go_guarded | go_step | go_upon)
        trace_state
        go_roundg (n - (k + 1))
        case measure => omega
        case rel =>
          refine ⟨k + 1, by omega, by omega, by go_num, then_ BW.out B2.out, ?_⟩
          show _ = _
          rw [E.out, D.out, firstE_next Q.out.symm]
      · iterate 50 (first | go_skip | go_guarded | go_step | go_upon)
        refine wp_call_fn (g := g) (lb := lb) _ rfl _ rfl rfl [.int .i64 (k : Int), .agg X] rfl eg ?_
        refine hcall.mono ?_; rintro e w' ⟨rfl, hb'⟩; refine ⟨_, rfl, ?_⟩
        have B2 : Aside (Below wr.heap.size wr w') := then_ BA.out hb'
        clear hcall hl2 hst hld BA hb'
        repeat (first | go_skip | go_guarded | go_step | go_upon)
        trace_state
        go_ret
        refine ⟨?_, then_ BW.out B2.out⟩
        rw [R.out, E.out, D.out, firstE_hit (by rw [← Q.out]; exact h0), ← Q.out]
        rfl
    · have hlti : ¬ (k : Int) < (n : Int) := by omega
      have D : Aside (l.drop k = []) := drop_end (by have := N.out; omega)
      clear hp hcell
      repeat (first | go_skip | go_guarded | go_step | go_upon)
      go_ret
      refine ⟨?_, BW.out⟩
      rw [R.out, E.out, D.out]
      rfl


set_option maxHeartbeats 1000000 in
/-- model.checkEach. -/
theorem eachStc (v : Value) (l : List Stc) (m : Nat) (f : Nat → Stc → Int) (g : Nat) (lb : Array Value) (eg : ∀ args w, (callFunc g args).run Tryz.prog w = .ok (.enter g args) w) (w : World) (hrow : IsRow eStc 7 w v l) (hl : l.length ≤ 9223372036854775807) (h1 : ∀ x ∈ l, (eStc x).toArray.all (·.oneCell') = true) (hp : Chk Tryz.prog g lb eStc f l w) :
    Calls Tryz.prog 93 #[v, .int .i64 (m : Int), .func (.func g) #[] lb] w fun e w' => e = .returned (.int .i64 (eachE m f l)) ∧ Below w.heap.size w w' := by
  obtain ⟨a, cap, rfl, hcap, hcell⟩ := rows_open (z := 7) (by decide) hrow
  obtain ⟨n, hn⟩ : ∃ n, n = l.length := ⟨_, rfl⟩
  rw [← hn] at hl hcap hcell ⊢
  have N := hid hn
  clear hn hrow
  by_cases hmn : m < n
  · have hmi : (m : Int) < (n : Int) := by omega
    have R := hid (show eachE m f l = 7 by unfold eachE; rw [if_pos (by have := N.out; omega)])
    clear hp hcell
    go_enter Tryz.func93, Tryz.ntmps93
    repeat (first | go_skip | go_guarded | go_step | go_upon)
    go_ret
    exact ⟨ret_int R.out.symm, Below.refl _ _⟩
  have hmi : ¬ (m : Int) < (n : Int) := by omega
  have R := hid (show eachE m f l = firstE f 0 l by unfold eachE; rw [if_neg (by have := N.out; omega)])
  obtain ⟨P, hP⟩ : ∃ P, P = Tryz.prog := ⟨_, rfl⟩
  obtain ⟨z, hz⟩ : ∃ z, z = 7 := ⟨_, rfl⟩
  have mixed : P.follows .mixedOrders = true := by rw [hP]; kernel_rfl
  have FG : P.funcs[93]? = some Tryz.f93 := by rw [hP]; exact Tryz.func93
  have ts0 := Tryz.underlying3
  have as0 := Tryz.isAgg3
  have zs0 := Tryz.sizeOf3
  have ts1 := Tryz.underlying4
  have as1 := Tryz.isAgg4
  have zs1 := Tryz.sizeOf4
  have tsl := Tryz.underlying27
  have asl := Tryz.isAgg27
  have zsl := Tryz.sizeOf27
  have ael := Tryz.isAgg58
  have zel := Tryz.sizeOf58
  rw [← hz] at zel
  rw [← hP] at ts0 as0 zs0 ts1 as1 zs1 tsl asl zsl ael zel eg hp ⊢
  obtain ⟨Z, hZ, hZs⟩ : ∃ Z : Array Value, (∀ w, (zeroValue 58).run P w = .ok (.agg Z) w) ∧ Z.size = z := ⟨_, by have h := Tryz.zeroValue58; rw [← hP] at h; exact h, by rw [hz]; rfl⟩
  have hinfo : (P.info? 58).map (·.size) = some z := by rw [hP, hz]; kernel_rfl
  clear hP
  go_enter FG, Tryz.ntmps93
  repeat (first | go_skip | go_guarded | go_step | go_upon)
  go_loopg [16] n (fun gg s16 wr => ∃ k : Nat, k ≤ n ∧ n - k ≤ gg ∧ s16 = .int .i64 k ∧ Aside (Below w.heap.size w wr) ∧ Aside (firstE f 0 l = firstE f k (l.drop k)))
  case atStart => exact ⟨0, Nat.zero_le _, by omega, rfl, Below.refl _ w, rfl⟩
  case round =>
    obtain ⟨k, hk, hg, rfl, BW, E⟩ := hrel
    by_cases hlt : k < n
    · have hlti : (k : Int) < (n : Int) := by omega
      obtain ⟨x, hx⟩ := get_some (l := l) (k := k) (by have := N.out; omega)
      obtain ⟨b, off, rfl, hb, hc⟩ := hcell (by omega)
      have hl2 : Sem.run P (loadCellsFrom ⟨b, off + k * 7, none⟩ 0 7 #[]) wr = .ok (eStc x).toArray wr :=
        ld_row (f := eStc) (z := 7) P (fun _ => rfl) (fun j u hj => (BW.out.cell (p := ⟨b, off + j, none⟩) hb).trans (hc j u hj)) hx
      rw [← hz] at hl2
      have one := h1 x (get_mem hx)
      have hXs : (eStc x).toArray.size = z := by rw [hz]; rfl
      have hcall := hp (wr.alloc (.cells (eStc x).toArray 58)) k x hx ((BW.out.alloc BW.out.size _))
      have D : Aside (l.drop k = x :: l.drop (k + 1)) := drop_get hx
      clear hp hc hcell hx hz h1
      obtain ⟨X, hX⟩ : ∃ X, X = (eStc x).toArray := ⟨_, rfl⟩
      rw [← hX] at hl2 hcall hXs one
      clear hX
      have hst := run_storeCells_new (P := P) wr 58 Z X (by rw [hXs]; exact hinfo) (by rw [hZs, hXs]) one
      have hld := run_loadCellsFrom_new (P := P) wr 58 X z hXs
      have BA : Aside (Below wr.heap.size wr (wr.alloc (.cells X 58))) := new_below _ _
      clear one hinfo
      obtain ⟨q, hq⟩ : ∃ q, q = f k x := ⟨_, rfl⟩
      rw [← hq] at hcall
      have Q : Aside (q = f k x) := hq
      clear hq
      by_cases h0 : q = 0
      · subst h0
        iterate 50 (first | go_skip | go_guarded | go_step | go_upon)
        refine wp_call_fn (g := g) (lb := lb) _ rfl _ rfl rfl [.int .i64 (k : Int), .agg X] rfl eg ?_
        refine hcall.mono ?_; rintro e w' ⟨rfl, hb'⟩; refine ⟨_, rfl, ?_⟩
        have B2 : Aside (Below wr.heap.size wr w') := then_ BA.out hb'
        clear hcall hl2 hst hld BA hb'
        repeat (first | go_skip | go_guarded | go_step | go_upon)
        trace_state
        go_roundg (n - (k + 1))
        case measure => omega
        case rel =>
          refine ⟨k + 1, by omega, by omega, by go_num, then_ BW.out B2.out, ?_⟩
          show _ = _
          rw [E.out, D.out, firstE_next Q.out.symm]
      · iterate 50 (first | go_skip | go_guarded | go_step | go_upon)
        refine wp_call_fn (g := g) (lb := lb) _ rfl _ rfl rfl [.int .i64 (k : Int), .agg X] rfl eg ?_
        refine hcall.mono ?_; rintro e w' ⟨rfl, hb'⟩; refine ⟨_, rfl, ?_⟩
        have B2 : Aside (Below wr.heap.size wr w') := then_ BA.out hb'
        clear hcall hl2 hst hld BA hb'
        repeat (first | go_skip | go_guarded | go_step | go_upon)
        trace_state
        go_ret
        refine ⟨?_, then_ BW.out B2.out⟩
        rw [R.out, E.out, D.out, firstE_hit (by rw [← Q.out]; exact h0), ← Q.out]
        rfl
    · have hlti : ¬ (k : Int) < (n : Int) := by omega
      have D : Aside (l.drop k = []) := drop_end (by have := N.out; omega)
      clear hp hcell
      repeat (first | go_skip | go_guarded | go_step | go_upon)
      go_ret
      refine ⟨?_, BW.out⟩
      rw [R.out, E.out, D.out]
      rfl


set_option maxHeartbeats 1000000 in
/-- model.checkEach. -/
theorem eachRed (v : Value) (l : List Red) (m : Nat) (f : Nat → Red → Int) (g : Nat) (lb : Array Value) (eg : ∀ args w, (callFunc g args).run Tryz.prog w = .ok (.enter g args) w) (w : World) (hrow : IsRow eRed 5 w v l) (hl : l.length ≤ 9223372036854775807) (h1 : ∀ x ∈ l, (eRed x).toArray.all (·.oneCell') = true) (hp : Chk Tryz.prog g lb eRed f l w) :
    Calls Tryz.prog 158 #[v, .int .i64 (m : Int), .func (.func g) #[] lb] w fun e w' => e = .returned (.int .i64 (eachE m f l)) ∧ Below w.heap.size w w' := by
  obtain ⟨a, cap, rfl, hcap, hcell⟩ := rows_open (z := 5) (by decide) hrow
  obtain ⟨n, hn⟩ : ∃ n, n = l.length := ⟨_, rfl⟩
  rw [← hn] at hl hcap hcell ⊢
  have N := hid hn
  clear hn hrow
  by_cases hmn : m < n
  · have hmi : (m : Int) < (n : Int) := by omega
    have R := hid (show eachE m f l = 7 by unfold eachE; rw [if_pos (by have := N.out; omega)])
    clear hp hcell
    go_enter Tryz.func158, Tryz.ntmps158
    repeat (first | go_skip | go_guarded | go_step | go_upon)
    go_ret
    exact ⟨ret_int R.out.symm, Below.refl _ _⟩
  have hmi : ¬ (m : Int) < (n : Int) := by omega
  have R := hid (show eachE m f l = firstE f 0 l by unfold eachE; rw [if_neg (by have := N.out; omega)])
  obtain ⟨P, hP⟩ : ∃ P, P = Tryz.prog := ⟨_, rfl⟩
  obtain ⟨z, hz⟩ : ∃ z, z = 5 := ⟨_, rfl⟩
  have mixed : P.follows .mixedOrders = true := by rw [hP]; kernel_rfl
  have FG : P.funcs[158]? = some Tryz.f158 := by rw [hP]; exact Tryz.func158
  have ts0 := Tryz.underlying3
  have as0 := Tryz.isAgg3
  have zs0 := Tryz.sizeOf3
  have ts1 := Tryz.underlying4
  have as1 := Tryz.isAgg4
  have zs1 := Tryz.sizeOf4
  have tsl := Tryz.underlying29
  have asl := Tryz.isAgg29
  have zsl := Tryz.sizeOf29
  have ael := Tryz.isAgg154
  have zel := Tryz.sizeOf154
  rw [← hz] at zel
  rw [← hP] at ts0 as0 zs0 ts1 as1 zs1 tsl asl zsl ael zel eg hp ⊢
  obtain ⟨Z, hZ, hZs⟩ : ∃ Z : Array Value, (∀ w, (zeroValue 154).run P w = .ok (.agg Z) w) ∧ Z.size = z := ⟨_, by have h := Tryz.zeroValue154; rw [← hP] at h; exact h, by rw [hz]; rfl⟩
  have hinfo : (P.info? 154).map (·.size) = some z := by rw [hP, hz]; kernel_rfl
  clear hP
  go_enter FG, Tryz.ntmps158
  repeat (first | go_skip | go_guarded | go_step | go_upon)
  go_loopg [16] n (fun gg s16 wr => ∃ k : Nat, k ≤ n ∧ n - k ≤ gg ∧ s16 = .int .i64 k ∧ Aside (Below w.heap.size w wr) ∧ Aside (firstE f 0 l = firstE f k (l.drop k)))
  case atStart => exact ⟨0, Nat.zero_le _, by omega, rfl, Below.refl _ w, rfl⟩
  case round =>
    obtain ⟨k, hk, hg, rfl, BW, E⟩ := hrel
    by_cases hlt : k < n
    · have hlti : (k : Int) < (n : Int) := by omega
      obtain ⟨x, hx⟩ := get_some (l := l) (k := k) (by have := N.out; omega)
      obtain ⟨b, off, rfl, hb, hc⟩ := hcell (by omega)
      have hl2 : Sem.run P (loadCellsFrom ⟨b, off + k * 5, none⟩ 0 5 #[]) wr = .ok (eRed x).toArray wr :=
        ld_row (f := eRed) (z := 5) P (fun _ => rfl) (fun j u hj => (BW.out.cell (p := ⟨b, off + j, none⟩) hb).trans (hc j u hj)) hx
      rw [← hz] at hl2
      have one := h1 x (get_mem hx)
      have hXs : (eRed x).toArray.size = z := by rw [hz]; rfl
      have hcall := hp (wr.alloc (.cells (eRed x).toArray 154)) k x hx ((BW.out.alloc BW.out.size _))
      have D : Aside (l.drop k = x :: l.drop (k + 1)) := drop_get hx
      clear hp hc hcell hx hz h1
      obtain ⟨X, hX⟩ : ∃ X, X = (eRed x).toArray := ⟨_, rfl⟩
      rw [← hX] at hl2 hcall hXs one
      clear hX
      have hst := run_storeCells_new (P := P) wr 154 Z X (by rw [hXs]; exact hinfo) (by rw [hZs, hXs]) one
      have hld := run_loadCellsFrom_new (P := P) wr 154 X z hXs
      have BA : Aside (Below wr.heap.size wr (wr.alloc (.cells X 154))) := new_below _ _
      clear one hinfo
      obtain ⟨q, hq⟩ : ∃ q, q = f k x := ⟨_, rfl⟩
      rw [← hq] at hcall
      have Q : Aside (q = f k x) := hq
      clear hq
      by_cases h0 : q = 0
      · subst h0
        iterate 50 (first | go_skip | go_guarded | go_step | go_upon)
        refine wp_call_fn (g := g) (lb := lb) _ rfl _ rfl rfl [.int .i64 (k : Int), .agg X] rfl eg ?_
        refine hcall.mono ?_; rintro e w' ⟨rfl, hb'⟩; refine ⟨_, rfl, ?_⟩
        have B2 : Aside (Below wr.heap.size wr w') := then_ BA.out hb'
        clear hcall hl2 hst hld BA hb'
        repeat (first | go_skip | go_guarded | go_step | go_upon)
        trace_state
        go_roundg (n - (k + 1))
        case measure => omega
        case rel =>
          refine ⟨k + 1, by omega, by omega, by go_num, then_ BW.out B2.out, ?_⟩
          show _ = _
          rw [E.out, D.out, firstE_next Q.out.symm]
      · iterate 50 (first | go_skip | go_guarded | go_step | go_upon)
        refine wp_call_fn (g := g) (lb := lb) _ rfl _ rfl rfl [.int .i64 (k : Int), .agg X] rfl eg ?_
        refine hcall.mono ?_; rintro e w' ⟨rfl, hb'⟩; refine ⟨_, rfl, ?_⟩
        have B2 : Aside (Below wr.heap.size wr w') := then_ BA.out hb'
        clear hcall hl2 hst hld BA hb'
        repeat (first | go_skip | go_guarded | go_step | go_upon)
        trace_state
        go_ret
        refine ⟨?_, then_ BW.out B2.out⟩
        rw [R.out, E.out, D.out, firstE_hit (by rw [← Q.out]; exact h0), ← Q.out]
        rfl
    · have hlti : ¬ (k : Int) < (n : Int) := by omega
      have D : Aside (l.drop k = []) := drop_end (by have := N.out; omega)
      clear hp hcell
      repeat (first | go_skip | go_guarded | go_step | go_upon)
      go_ret
      refine ⟨?_, BW.out⟩
      rw [R.out, E.out, D.out]
      rfl


set_option maxHeartbeats 1000000 in
/-- model.checkEach. -/
theorem eachRng (v : Value) (l : List Rng) (m : Nat) (f : Nat → Rng → Int) (g : Nat) (lb : Array Value) (eg : ∀ args w, (callFunc g args).run Tryz.prog w = .ok (.enter g args) w) (w : World) (hrow : IsRow eRng 3 w v l) (hl : l.length ≤ 9223372036854775807) (h1 : ∀ x ∈ l, (eRng x).toArray.all (·.oneCell') = true) (hp : Chk Tryz.prog g lb eRng f l w) :
    Calls Tryz.prog 154 #[v, .int .i64 (m : Int), .func (.func g) #[] lb] w fun e w' => e = .returned (.int .i64 (eachE m f l)) ∧ Below w.heap.size w w' := by
  obtain ⟨a, cap, rfl, hcap, hcell⟩ := rows_open (z := 3) (by decide) hrow
  obtain ⟨n, hn⟩ : ∃ n, n = l.length := ⟨_, rfl⟩
  rw [← hn] at hl hcap hcell ⊢
  have N := hid hn
  clear hn hrow
  by_cases hmn : m < n
  · have hmi : (m : Int) < (n : Int) := by omega
    have R := hid (show eachE m f l = 7 by unfold eachE; rw [if_pos (by have := N.out; omega)])
    clear hp hcell
    go_enter Tryz.func154, Tryz.ntmps154
    repeat (first | go_skip | go_guarded | go_step | go_upon)
    go_ret
    exact ⟨ret_int R.out.symm, Below.refl _ _⟩
  have hmi : ¬ (m : Int) < (n : Int) := by omega
  have R := hid (show eachE m f l = firstE f 0 l by unfold eachE; rw [if_neg (by have := N.out; omega)])
  obtain ⟨P, hP⟩ : ∃ P, P = Tryz.prog := ⟨_, rfl⟩
  obtain ⟨z, hz⟩ : ∃ z, z = 3 := ⟨_, rfl⟩
  have mixed : P.follows .mixedOrders = true := by rw [hP]; kernel_rfl
  have FG : P.funcs[154]? = some Tryz.f154 := by rw [hP]; exact Tryz.func154
  have ts0 := Tryz.underlying3
  have as0 := Tryz.isAgg3
  have zs0 := Tryz.sizeOf3
  have ts1 := Tryz.underlying4
  have as1 := Tryz.isAgg4
  have zs1 := Tryz.sizeOf4
  have tsl := Tryz.underlying28
  have asl := Tryz.isAgg28
  have zsl := Tryz.sizeOf28
  have ael := Tryz.isAgg150
  have zel := Tryz.sizeOf150
  rw [← hz] at zel
  rw [← hP] at ts0 as0 zs0 ts1 as1 zs1 tsl asl zsl ael zel eg hp ⊢
  obtain ⟨Z, hZ, hZs⟩ : ∃ Z : Array Value, (∀ w, (zeroValue 150).run P w = .ok (.agg Z) w) ∧ Z.size = z := ⟨_, by have h := Tryz.zeroValue150; rw [← hP] at h; exact h, by rw [hz]; rfl⟩
  have hinfo : (P.info? 150).map (·.size) = some z := by rw [hP, hz]; kernel_rfl
  clear hP
  go_enter FG, Tryz.ntmps154
  repeat (first | go_skip | go_guarded | go_step | go_upon)
  go_loopg [16] n (fun gg s16 wr => ∃ k : Nat, k ≤ n ∧ n - k ≤ gg ∧ s16 = .int .i64 k ∧ Aside (Below w.heap.size w wr) ∧ Aside (firstE f 0 l = firstE f k (l.drop k)))
  case atStart => exact ⟨0, Nat.zero_le _, by omega, rfl, Below.refl _ w, rfl⟩
  case round =>
    obtain ⟨k, hk, hg, rfl, BW, E⟩ := hrel
    by_cases hlt : k < n
    · have hlti : (k : Int) < (n : Int) := by omega
      obtain ⟨x, hx⟩ := get_some (l := l) (k := k) (by have := N.out; omega)
      obtain ⟨b, off, rfl, hb, hc⟩ := hcell (by omega)
      have hl2 : Sem.run P (loadCellsFrom ⟨b, off + k * 3, none⟩ 0 3 #[]) wr = .ok (eRng x).toArray wr :=
        ld_row (f := eRng) (z := 3) P (fun _ => rfl) (fun j u hj => (BW.out.cell (p := ⟨b, off + j, none⟩) hb).trans (hc j u hj)) hx
      rw [← hz] at hl2
      have one := h1 x (get_mem hx)
      have hXs : (eRng x).toArray.size = z := by rw [hz]; rfl
      have hcall := hp (wr.alloc (.cells (eRng x).toArray 150)) k x hx ((BW.out.alloc BW.out.size _))
      have D : Aside (l.drop k = x :: l.drop (k + 1)) := drop_get hx
      clear hp hc hcell hx hz h1
      obtain ⟨X, hX⟩ : ∃ X, X = (eRng x).toArray := ⟨_, rfl⟩
      rw [← hX] at hl2 hcall hXs one
      clear hX
      have hst := run_storeCells_new (P := P) wr 150 Z X (by rw [hXs]; exact hinfo) (by rw [hZs, hXs]) one
      have hld := run_loadCellsFrom_new (P := P) wr 150 X z hXs
      have BA : Aside (Below wr.heap.size wr (wr.alloc (.cells X 150))) := new_below _ _
      clear one hinfo
      obtain ⟨q, hq⟩ : ∃ q, q = f k x := ⟨_, rfl⟩
      rw [← hq] at hcall
      have Q : Aside (q = f k x) := hq
      clear hq
      by_cases h0 : q = 0
      · subst h0
        iterate 50 (first | go_skip | go_guarded | go_step | go_upon)
        refine wp_call_fn (g := g) (lb := lb) _ rfl _ rfl rfl [.int .i64 (k : Int), .agg X] rfl eg ?_
        refine hcall.mono ?_; rintro e w' ⟨rfl, hb'⟩; refine ⟨_, rfl, ?_⟩
        have B2 : Aside (Below wr.heap.size wr w') := then_ BA.out hb'
        clear hcall hl2 hst hld BA hb'
        repeat (first | go_skip | go_guarded | go_step | go_upon)
        trace_state
        go_roundg (n - (k + 1))
        case measure => omega
        case rel =>
          refine ⟨k + 1, by omega, by omega, by go_num, then_ BW.out B2.out, ?_⟩
          show _ = _
          rw [E.out, D.out, firstE_next Q.out.symm]
      · iterate 50 (first | go_skip | go_guarded | go_step | go_upon)
        refine wp_call_fn (g := g) (lb := lb) _ rfl _ rfl rfl [.int .i64 (k : Int), .agg X] rfl eg ?_
        refine hcall.mono ?_; rintro e w' ⟨rfl, hb'⟩; refine ⟨_, rfl, ?_⟩
        have B2 : Aside (Below wr.heap.size wr w') := then_ BA.out hb'
        clear hcall hl2 hst hld BA hb'
        repeat (first | go_skip | go_guarded | go_step | go_upon)
        trace_state
        go_ret
        refine ⟨?_, then_ BW.out B2.out⟩
        rw [R.out, E.out, D.out, firstE_hit (by rw [← Q.out]; exact h0), ← Q.out]
        rfl
    · have hlti : ¬ (k : Int) < (n : Int) := by omega
      have D : Aside (l.drop k = []) := drop_end (by have := N.out; omega)
      clear hp hcell
      repeat (first | go_skip | go_guarded | go_step | go_upon)
      go_ret
      refine ⟨?_, BW.out⟩
      rw [R.out, E.out, D.out]
      rfl


set_option maxHeartbeats 1000000 in
/-- model.checkEach. -/
theorem eachNbr (v : Value) (l : List Nbr) (m : Nat) (f : Nat → Nbr → Int) (g : Nat) (lb : Array Value) (eg : ∀ args w, (callFunc g args).run Tryz.prog w = .ok (.enter g args) w) (w : World) (hrow : IsRow eNbr 4 w v l) (hl : l.length ≤ 9223372036854775807) (h1 : ∀ x ∈ l, (eNbr x).toArray.all (·.oneCell') = true) (hp : Chk Tryz.prog g lb eNbr f l w) :
    Calls Tryz.prog 163 #[v, .int .i64 (m : Int), .func (.func g) #[] lb] w fun e w' => e = .returned (.int .i64 (eachE m f l)) ∧ Below w.heap.size w w' := by
  obtain ⟨a, cap, rfl, hcap, hcell⟩ := rows_open (z := 4) (by decide) hrow
  obtain ⟨n, hn⟩ : ∃ n, n = l.length := ⟨_, rfl⟩
  rw [← hn] at hl hcap hcell ⊢
  have N := hid hn
  clear hn hrow
  by_cases hmn : m < n
  · have hmi : (m : Int) < (n : Int) := by omega
    have R := hid (show eachE m f l = 7 by unfold eachE; rw [if_pos (by have := N.out; omega)])
    clear hp hcell
    go_enter Tryz.func163, Tryz.ntmps163
    repeat (first | go_skip | go_guarded | go_step | go_upon)
    go_ret
    exact ⟨ret_int R.out.symm, Below.refl _ _⟩
  have hmi : ¬ (m : Int) < (n : Int) := by omega
  have R := hid (show eachE m f l = firstE f 0 l by unfold eachE; rw [if_neg (by have := N.out; omega)])
  obtain ⟨P, hP⟩ : ∃ P, P = Tryz.prog := ⟨_, rfl⟩
  obtain ⟨z, hz⟩ : ∃ z, z = 4 := ⟨_, rfl⟩
  have mixed : P.follows .mixedOrders = true := by rw [hP]; kernel_rfl
  have FG : P.funcs[163]? = some Tryz.f163 := by rw [hP]; exact Tryz.func163
  have ts0 := Tryz.underlying3
  have as0 := Tryz.isAgg3
  have zs0 := Tryz.sizeOf3
  have ts1 := Tryz.underlying4
  have as1 := Tryz.isAgg4
  have zs1 := Tryz.sizeOf4
  have tsl := Tryz.underlying34
  have asl := Tryz.isAgg34
  have zsl := Tryz.sizeOf34
  have ael := Tryz.isAgg156
  have zel := Tryz.sizeOf156
  rw [← hz] at zel
  rw [← hP] at ts0 as0 zs0 ts1 as1 zs1 tsl asl zsl ael zel eg hp ⊢
  obtain ⟨Z, hZ, hZs⟩ : ∃ Z : Array Value, (∀ w, (zeroValue 156).run P w = .ok (.agg Z) w) ∧ Z.size = z := ⟨_, by have h := Tryz.zeroValue156; rw [← hP] at h; exact h, by rw [hz]; rfl⟩
  have hinfo : (P.info? 156).map (·.size) = some z := by rw [hP, hz]; kernel_rfl
  clear hP
  go_enter FG, Tryz.ntmps163
  repeat (first | go_skip | go_guarded | go_step | go_upon)
  go_loopg [16] n (fun gg s16 wr => ∃ k : Nat, k ≤ n ∧ n - k ≤ gg ∧ s16 = .int .i64 k ∧ Aside (Below w.heap.size w wr) ∧ Aside (firstE f 0 l = firstE f k (l.drop k)))
  case atStart => exact ⟨0, Nat.zero_le _, by omega, rfl, Below.refl _ w, rfl⟩
  case round =>
    obtain ⟨k, hk, hg, rfl, BW, E⟩ := hrel
    by_cases hlt : k < n
    · have hlti : (k : Int) < (n : Int) := by omega
      obtain ⟨x, hx⟩ := get_some (l := l) (k := k) (by have := N.out; omega)
      obtain ⟨b, off, rfl, hb, hc⟩ := hcell (by omega)
      have hl2 : Sem.run P (loadCellsFrom ⟨b, off + k * 4, none⟩ 0 4 #[]) wr = .ok (eNbr x).toArray wr :=
        ld_row (f := eNbr) (z := 4) P (fun _ => rfl) (fun j u hj => (BW.out.cell (p := ⟨b, off + j, none⟩) hb).trans (hc j u hj)) hx
      rw [← hz] at hl2
      have one := h1 x (get_mem hx)
      have hXs : (eNbr x).toArray.size = z := by rw [hz]; rfl
      have hcall := hp (wr.alloc (.cells (eNbr x).toArray 156)) k x hx ((BW.out.alloc BW.out.size _))
      have D : Aside (l.drop k = x :: l.drop (k + 1)) := drop_get hx
      clear hp hc hcell hx hz h1
      obtain ⟨X, hX⟩ : ∃ X, X = (eNbr x).toArray := ⟨_, rfl⟩
      rw [← hX] at hl2 hcall hXs one
      clear hX
      have hst := run_storeCells_new (P := P) wr 156 Z X (by rw [hXs]; exact hinfo) (by rw [hZs, hXs]) one
      have hld := run_loadCellsFrom_new (P := P) wr 156 X z hXs
      have BA : Aside (Below wr.heap.size wr (wr.alloc (.cells X 156))) := new_below _ _
      clear one hinfo
      obtain ⟨q, hq⟩ : ∃ q, q = f k x := ⟨_, rfl⟩
      rw [← hq] at hcall
      have Q : Aside (q = f k x) := hq
      clear hq
      by_cases h0 : q = 0
      · subst h0
        iterate 50 (first | go_skip | go_guarded | go_step | go_upon)
        refine wp_call_fn (g := g) (lb := lb) _ rfl _ rfl rfl [.int .i64 (k : Int), .agg X] rfl eg ?_
        refine hcall.mono ?_; rintro e w' ⟨rfl, hb'⟩; refine ⟨_, rfl, ?_⟩
        have B2 : Aside (Below wr.heap.size wr w') := then_ BA.out hb'
        clear hcall hl2 hst hld BA hb'
        repeat (first | go_skip | go_guarded | go_step | go_upon)
        trace_state
        go_roundg (n - (k + 1))
        case measure => omega
        case rel =>
          refine ⟨k + 1, by omega, by omega, by go_num, then_ BW.out B2.out, ?_⟩
          show _ = _
          rw [E.out, D.out, firstE_next Q.out.symm]
      · iterate 50 (first | go_skip | go_guarded | go_step | go_upon)
        refine wp_call_fn (g := g) (lb := lb) _ rfl _ rfl rfl [.int .i64 (k : Int), .agg X] rfl eg ?_
        refine hcall.mono ?_; rintro e w' ⟨rfl, hb'⟩; refine ⟨_, rfl, ?_⟩
        have B2 : Aside (Below wr.heap.size wr w') := then_ BA.out hb'
        clear hcall hl2 hst hld BA hb'
        repeat (first | go_skip | go_guarded | go_step | go_upon)
        trace_state
        go_ret
        refine ⟨?_, then_ BW.out B2.out⟩
        rw [R.out, E.out, D.out, firstE_hit (by rw [← Q.out]; exact h0), ← Q.out]
        rfl
    · have hlti : ¬ (k : Int) < (n : Int) := by omega
      have D : Aside (l.drop k = []) := drop_end (by have := N.out; omega)
      clear hp hcell
      repeat (first | go_skip | go_guarded | go_step | go_upon)
      go_ret
      refine ⟨?_, BW.out⟩
      rw [R.out, E.out, D.out]
      rfl


set_option maxHeartbeats 1000000 in
/-- model.checkEach. -/
theorem eachPfx (v : Value) (l : List Pfx) (m : Nat) (f : Nat → Pfx → Int) (g : Nat) (lb : Array Value) (eg : ∀ args w, (callFunc g args).run Tryz.prog w = .ok (.enter g args) w) (w : World) (hrow : IsRow ePfx 2 w v l) (hl : l.length ≤ 9223372036854775807) (h1 : ∀ x ∈ l, (ePfx x).toArray.all (·.oneCell') = true) (hp : Chk Tryz.prog g lb ePfx f l w) :
    Calls Tryz.prog 167 #[v, .int .i64 (m : Int), .func (.func g) #[] lb] w fun e w' => e = .returned (.int .i64 (eachE m f l)) ∧ Below w.heap.size w w' := by
  obtain ⟨a, cap, rfl, hcap, hcell⟩ := rows_open (z := 2) (by decide) hrow
  obtain ⟨n, hn⟩ : ∃ n, n = l.length := ⟨_, rfl⟩
  rw [← hn] at hl hcap hcell ⊢
  have N := hid hn
  clear hn hrow
  by_cases hmn : m < n
  · have hmi : (m : Int) < (n : Int) := by omega
    have R := hid (show eachE m f l = 7 by unfold eachE; rw [if_pos (by have := N.out; omega)])
    clear hp hcell
    go_enter Tryz.func167, Tryz.ntmps167
    repeat (first | go_skip | go_guarded | go_step | go_upon)
    go_ret
    exact ⟨ret_int R.out.symm, Below.refl _ _⟩
  have hmi : ¬ (m : Int) < (n : Int) := by omega
  have R := hid (show eachE m f l = firstE f 0 l by unfold eachE; rw [if_neg (by have := N.out; omega)])
  obtain ⟨P, hP⟩ : ∃ P, P = Tryz.prog := ⟨_, rfl⟩
  obtain ⟨z, hz⟩ : ∃ z, z = 2 := ⟨_, rfl⟩
  have mixed : P.follows .mixedOrders = true := by rw [hP]; kernel_rfl
  have FG : P.funcs[167]? = some Tryz.f167 := by rw [hP]; exact Tryz.func167
  have ts0 := Tryz.underlying3
  have as0 := Tryz.isAgg3
  have zs0 := Tryz.sizeOf3
  have ts1 := Tryz.underlying4
  have as1 := Tryz.isAgg4
  have zs1 := Tryz.sizeOf4
  have tsl := Tryz.underlying35
  have asl := Tryz.isAgg35
  have zsl := Tryz.sizeOf35
  have ael := Tryz.isAgg56
  have zel := Tryz.sizeOf56
  rw [← hz] at zel
  rw [← hP] at ts0 as0 zs0 ts1 as1 zs1 tsl asl zsl ael zel eg hp ⊢
  obtain ⟨Z, hZ, hZs⟩ : ∃ Z : Array Value, (∀ w, (zeroValue 56).run P w = .ok (.agg Z) w) ∧ Z.size = z := ⟨_, by have h := Tryz.zeroValue56; rw [← hP] at h; exact h, by rw [hz]; rfl⟩
  have hinfo : (P.info? 56).map (·.size) = some z := by rw [hP, hz]; kernel_rfl
  clear hP
  go_enter FG, Tryz.ntmps167
  repeat (first | go_skip | go_guarded | go_step | go_upon)
  go_loopg [16] n (fun gg s16 wr => ∃ k : Nat, k ≤ n ∧ n - k ≤ gg ∧ s16 = .int .i64 k ∧ Aside (Below w.heap.size w wr) ∧ Aside (firstE f 0 l = firstE f k (l.drop k)))
  case atStart => exact ⟨0, Nat.zero_le _, by omega, rfl, Below.refl _ w, rfl⟩
  case round =>
    obtain ⟨k, hk, hg, rfl, BW, E⟩ := hrel
    by_cases hlt : k < n
    · have hlti : (k : Int) < (n : Int) := by omega
      obtain ⟨x, hx⟩ := get_some (l := l) (k := k) (by have := N.out; omega)
      obtain ⟨b, off, rfl, hb, hc⟩ := hcell (by omega)
      have hl2 : Sem.run P (loadCellsFrom ⟨b, off + k * 2, none⟩ 0 2 #[]) wr = .ok (ePfx x).toArray wr :=
        ld_row (f := ePfx) (z := 2) P (fun _ => rfl) (fun j u hj => (BW.out.cell (p := ⟨b, off + j, none⟩) hb).trans (hc j u hj)) hx
      rw [← hz] at hl2
      have one := h1 x (get_mem hx)
      have hXs : (ePfx x).toArray.size = z := by rw [hz]; rfl
      have hcall := hp (wr.alloc (.cells (ePfx x).toArray 56)) k x hx ((BW.out.alloc BW.out.size _))
      have D : Aside (l.drop k = x :: l.drop (k + 1)) := drop_get hx
      clear hp hc hcell hx hz h1
      obtain ⟨X, hX⟩ : ∃ X, X = (ePfx x).toArray := ⟨_, rfl⟩
      rw [← hX] at hl2 hcall hXs one
      clear hX
      have hst := run_storeCells_new (P := P) wr 56 Z X (by rw [hXs]; exact hinfo) (by rw [hZs, hXs]) one
      have hld := run_loadCellsFrom_new (P := P) wr 56 X z hXs
      have BA : Aside (Below wr.heap.size wr (wr.alloc (.cells X 56))) := new_below _ _
      clear one hinfo
      obtain ⟨q, hq⟩ : ∃ q, q = f k x := ⟨_, rfl⟩
      rw [← hq] at hcall
      have Q : Aside (q = f k x) := hq
      clear hq
      by_cases h0 : q = 0
      · subst h0
        iterate 50 (first | go_skip | go_guarded | go_step | go_upon)
        refine wp_call_fn (g := g) (lb := lb) _ rfl _ rfl rfl [.int .i64 (k : Int), .agg X] rfl eg ?_
        refine hcall.mono ?_; rintro e w' ⟨rfl, hb'⟩; refine ⟨_, rfl, ?_⟩
        have B2 : Aside (Below wr.heap.size wr w') := then_ BA.out hb'
        clear hcall hl2 hst hld BA hb'
        repeat (first | go_skip | go_guarded | go_step | go_upon)
        trace_state
        go_roundg (n - (k + 1))
        case measure => omega
        case rel =>
          refine ⟨k + 1, by omega, by omega, by go_num, then_ BW.out B2.out, ?_⟩
          show _ = _
          rw [E.out, D.out, firstE_next Q.out.symm]
      · iterate 50 (first | go_skip | go_guarded | go_step | go_upon)
        refine wp_call_fn (g := g) (lb := lb) _ rfl _ rfl rfl [.int .i64 (k : Int), .agg X] rfl eg ?_
        refine hcall.mono ?_; rintro e w' ⟨rfl, hb'⟩; refine ⟨_, rfl, ?_⟩
        have B2 : Aside (Below wr.heap.size wr w') := then_ BA.out hb'
        clear hcall hl2 hst hld BA hb'
        repeat (first | go_skip | go_guarded | go_step | go_upon)
        trace_state
        go_ret
        refine ⟨?_, then_ BW.out B2.out⟩
        rw [R.out, E.out, D.out, firstE_hit (by rw [← Q.out]; exact h0), ← Q.out]
        rfl
    · have hlti : ¬ (k : Int) < (n : Int) := by omega
      have D : Aside (l.drop k = []) := drop_end (by have := N.out; omega)
      clear hp hcell
      repeat (first | go_skip | go_guarded | go_step | go_upon)
      go_ret
      refine ⟨?_, BW.out⟩
      rw [R.out, E.out, D.out]
      rfl


set_option maxHeartbeats 1000000 in
/-- model.checkEach. -/
theorem eachAggr (v : Value) (l : List Aggr) (m : Nat) (f : Nat → Aggr → Int) (g : Nat) (lb : Array Value) (eg : ∀ args w, (callFunc g args).run Tryz.prog w = .ok (.enter g args) w) (w : World) (hrow : IsRow eAggr 3 w v l) (hl : l.length ≤ 9223372036854775807) (h1 : ∀ x ∈ l, (eAggr x).toArray.all (·.oneCell') = true) (hp : Chk Tryz.prog g lb eAggr f l w) :
    Calls Tryz.prog 170 #[v, .int .i64 (m : Int), .func (.func g) #[] lb] w fun e w' => e = .returned (.int .i64 (eachE m f l)) ∧ Below w.heap.size w w' := by
  obtain ⟨a, cap, rfl, hcap, hcell⟩ := rows_open (z := 3) (by decide) hrow
  obtain ⟨n, hn⟩ : ∃ n, n = l.length := ⟨_, rfl⟩
  rw [← hn] at hl hcap hcell ⊢
  have N := hid hn
  clear hn hrow
  by_cases hmn : m < n
  · have hmi : (m : Int) < (n : Int) := by omega
    have R := hid (show eachE m f l = 7 by unfold eachE; rw [if_pos (by have := N.out; omega)])
    clear hp hcell
    go_enter Tryz.func170, Tryz.ntmps170
    repeat (first | go_skip | go_guarded | go_step | go_upon)
    go_ret
    exact ⟨ret_int R.out.symm, Below.refl _ _⟩
  have hmi : ¬ (m : Int) < (n : Int) := by omega
  have R := hid (show eachE m f l = firstE f 0 l by unfold eachE; rw [if_neg (by have := N.out; omega)])
  obtain ⟨P, hP⟩ : ∃ P, P = Tryz.prog := ⟨_, rfl⟩
  obtain ⟨z, hz⟩ : ∃ z, z = 3 := ⟨_, rfl⟩
  have mixed : P.follows .mixedOrders = true := by rw [hP]; kernel_rfl
  have FG : P.funcs[170]? = some Tryz.f170 := by rw [hP]; exact Tryz.func170
  have ts0 := Tryz.underlying3
  have as0 := Tryz.isAgg3
  have zs0 := Tryz.sizeOf3
  have ts1 := Tryz.underlying4
  have as1 := Tryz.isAgg4
  have zs1 := Tryz.sizeOf4
  have tsl := Tryz.underlying36
  have asl := Tryz.isAgg36
  have zsl := Tryz.sizeOf36
  have ael := Tryz.isAgg163
  have zel := Tryz.sizeOf163
  rw [← hz] at zel
  rw [← hP] at ts0 as0 zs0 ts1 as1 zs1 tsl asl zsl ael zel eg hp ⊢
  obtain ⟨Z, hZ, hZs⟩ : ∃ Z : Array Value, (∀ w, (zeroValue 163).run P w = .ok (.agg Z) w) ∧ Z.size = z := ⟨_, by have h := Tryz.zeroValue163; rw [← hP] at h; exact h, by rw [hz]; rfl⟩
  have hinfo : (P.info? 163).map (·.size) = some z := by rw [hP, hz]; kernel_rfl
  clear hP
  go_enter FG, Tryz.ntmps170
  repeat (first | go_skip | go_guarded | go_step | go_upon)
  go_loopg [16] n (fun gg s16 wr => ∃ k : Nat, k ≤ n ∧ n - k ≤ gg ∧ s16 = .int .i64 k ∧ Aside (Below w.heap.size w wr) ∧ Aside (firstE f 0 l = firstE f k (l.drop k)))
  case atStart => exact ⟨0, Nat.zero_le _, by omega, rfl, Below.refl _ w, rfl⟩
  case round =>
    obtain ⟨k, hk, hg, rfl, BW, E⟩ := hrel
    by_cases hlt : k < n
    · have hlti : (k : Int) < (n : Int) := by omega
      obtain ⟨x, hx⟩ := get_some (l := l) (k := k) (by have := N.out; omega)
      obtain ⟨b, off, rfl, hb, hc⟩ := hcell (by omega)
      have hl2 : Sem.run P (loadCellsFrom ⟨b, off + k * 3, none⟩ 0 3 #[]) wr = .ok (eAggr x).toArray wr :=
        ld_row (f := eAggr) (z := 3) P (fun _ => rfl) (fun j u hj => (BW.out.cell (p := ⟨b, off + j, none⟩) hb).trans (hc j u hj)) hx
      rw [← hz] at hl2
      have one := h1 x (get_mem hx)
      have hXs : (eAggr x).toArray.size = z := by rw [hz]; rfl
      have hcall := hp (wr.alloc (.cells (eAggr x).toArray 163)) k x hx ((BW.out.alloc BW.out.size _))
      have D : Aside (l.drop k = x :: l.drop (k + 1)) := drop_get hx
      clear hp hc hcell hx hz h1
      obtain ⟨X, hX⟩ : ∃ X, X = (eAggr x).toArray := ⟨_, rfl⟩
      rw [← hX] at hl2 hcall hXs one
      clear hX
      have hst := run_storeCells_new (P := P) wr 163 Z X (by rw [hXs]; exact hinfo) (by rw [hZs, hXs]) one
      have hld := run_loadCellsFrom_new (P := P) wr 163 X z hXs
      have BA : Aside (Below wr.heap.size wr (wr.alloc (.cells X 163))) := new_below _ _
      clear one hinfo
      obtain ⟨q, hq⟩ : ∃ q, q = f k x := ⟨_, rfl⟩
      rw [← hq] at hcall
      have Q : Aside (q = f k x) := hq
      clear hq
      by_cases h0 : q = 0
      · subst h0
        iterate 50 (first | go_skip | go_guarded | go_step | go_upon)
        refine wp_call_fn (g := g) (lb := lb) _ rfl _ rfl rfl [.int .i64 (k : Int), .agg X] rfl eg ?_
        refine hcall.mono ?_; rintro e w' ⟨rfl, hb'⟩; refine ⟨_, rfl, ?_⟩
        have B2 : Aside (Below wr.heap.size wr w') := then_ BA.out hb'
        clear hcall hl2 hst hld BA hb'
        repeat (first | go_skip | go_guarded | go_step | go_upon)
        trace_state
        go_roundg (n - (k + 1))
        case measure => omega
        case rel =>
          refine ⟨k + 1, by omega, by omega, by go_num, then_ BW.out B2.out, ?_⟩
          show _ = _
          rw [E.out, D.out, firstE_next Q.out.symm]
      · iterate 50 (first | go_skip | go_guarded | go_step | go_upon)
        refine wp_call_fn (g := g) (lb := lb) _ rfl _ rfl rfl [.int .i64 (k : Int), .agg X] rfl eg ?_
        refine hcall.mono ?_; rintro e w' ⟨rfl, hb'⟩; refine ⟨_, rfl, ?_⟩
        have B2 : Aside (Below wr.heap.size wr w') := then_ BA.out hb'
        clear hcall hl2 hst hld BA hb'
        repeat (first | go_skip | go_guarded | go_step | go_upon)
        trace_state
        go_ret
        refine ⟨?_, then_ BW.out B2.out⟩
        rw [R.out, E.out, D.out, firstE_hit (by rw [← Q.out]; exact h0), ← Q.out]
        rfl
    · have hlti : ¬ (k : Int) < (n : Int) := by omega
      have D : Aside (l.drop k = []) := drop_end (by have := N.out; omega)
      clear hp hcell
      repeat (first | go_skip | go_guarded | go_step | go_upon)
      go_ret
      refine ⟨?_, BW.out⟩
      rw [R.out, E.out, D.out]
      rfl


set_option maxHeartbeats 1000000 in
/-- model.checkEach. -/
theorem eachCnd (v : Value) (l : List Cnd) (m : Nat) (f : Nat → Cnd → Int) (g : Nat) (lb : Array Value) (eg : ∀ args w, (callFunc g args).run Tryz.prog w = .ok (.enter g args) w) (w : World) (hrow : IsRow eCnd 5 w v l) (hl : l.length ≤ 9223372036854775807) (h1 : ∀ x ∈ l, (eCnd x).toArray.all (·.oneCell') = true) (hp : Chk Tryz.prog g lb eCnd f l w) :
    Calls Tryz.prog 174 #[v, .int .i64 (m : Int), .func (.func g) #[] lb] w fun e w' => e = .returned (.int .i64 (eachE m f l)) ∧ Below w.heap.size w w' := by
  obtain ⟨a, cap, rfl, hcap, hcell⟩ := rows_open (z := 5) (by decide) hrow
  obtain ⟨n, hn⟩ : ∃ n, n = l.length := ⟨_, rfl⟩
  rw [← hn] at hl hcap hcell ⊢
  have N := hid hn
  clear hn hrow
  by_cases hmn : m < n
  · have hmi : (m : Int) < (n : Int) := by omega
    have R := hid (show eachE m f l = 7 by unfold eachE; rw [if_pos (by have := N.out; omega)])
    clear hp hcell
    go_enter Tryz.func174, Tryz.ntmps174
    repeat (first | go_skip | go_guarded | go_step | go_upon)
    go_ret
    exact ⟨ret_int R.out.symm, Below.refl _ _⟩
  have hmi : ¬ (m : Int) < (n : Int) := by omega
  have R := hid (show eachE m f l = firstE f 0 l by unfold eachE; rw [if_neg (by have := N.out; omega)])
  obtain ⟨P, hP⟩ : ∃ P, P = Tryz.prog := ⟨_, rfl⟩
  obtain ⟨z, hz⟩ : ∃ z, z = 5 := ⟨_, rfl⟩
  have mixed : P.follows .mixedOrders = true := by rw [hP]; kernel_rfl
  have FG : P.funcs[174]? = some Tryz.f174 := by rw [hP]; exact Tryz.func174
  have ts0 := Tryz.underlying3
  have as0 := Tryz.isAgg3
  have zs0 := Tryz.sizeOf3
  have ts1 := Tryz.underlying4
  have as1 := Tryz.isAgg4
  have zs1 := Tryz.sizeOf4
  have tsl := Tryz.underlying37
  have asl := Tryz.isAgg37
  have zsl := Tryz.sizeOf37
  have ael := Tryz.isAgg165
  have zel := Tryz.sizeOf165
  rw [← hz] at zel
  rw [← hP] at ts0 as0 zs0 ts1 as1 zs1 tsl asl zsl ael zel eg hp ⊢
  obtain ⟨Z, hZ, hZs⟩ : ∃ Z : Array Value, (∀ w, (zeroValue 165).run P w = .ok (.agg Z) w) ∧ Z.size = z := ⟨_, by have h := Tryz.zeroValue165; rw [← hP] at h; exact h, by rw [hz]; rfl⟩
  have hinfo : (P.info? 165).map (·.size) = some z := by rw [hP, hz]; kernel_rfl
  clear hP
  go_enter FG, Tryz.ntmps174
  repeat (first | go_skip | go_guarded | go_step | go_upon)
  go_loopg [16] n (fun gg s16 wr => ∃ k : Nat, k ≤ n ∧ n - k ≤ gg ∧ s16 = .int .i64 k ∧ Aside (Below w.heap.size w wr) ∧ Aside (firstE f 0 l = firstE f k (l.drop k)))
  case atStart => exact ⟨0, Nat.zero_le _, by omega, rfl, Below.refl _ w, rfl⟩
  case round =>
    obtain ⟨k, hk, hg, rfl, BW, E⟩ := hrel
    by_cases hlt : k < n
    · have hlti : (k : Int) < (n : Int) := by omega
      obtain ⟨x, hx⟩ := get_some (l := l) (k := k) (by have := N.out; omega)
      obtain ⟨b, off, rfl, hb, hc⟩ := hcell (by omega)
      have hl2 : Sem.run P (loadCellsFrom ⟨b, off + k * 5, none⟩ 0 5 #[]) wr = .ok (eCnd x).toArray wr :=
        ld_row (f := eCnd) (z := 5) P (fun _ => rfl) (fun j u hj => (BW.out.cell (p := ⟨b, off + j, none⟩) hb).trans (hc j u hj)) hx
      rw [← hz] at hl2
      have one := h1 x (get_mem hx)
      have hXs : (eCnd x).toArray.size = z := by rw [hz]; rfl
      have hcall := hp (wr.alloc (.cells (eCnd x).toArray 165)) k x hx ((BW.out.alloc BW.out.size _))
      have D : Aside (l.drop k = x :: l.drop (k + 1)) := drop_get hx
      clear hp hc hcell hx hz h1
      obtain ⟨X, hX⟩ : ∃ X, X = (eCnd x).toArray := ⟨_, rfl⟩
      rw [← hX] at hl2 hcall hXs one
      clear hX
      have hst := run_storeCells_new (P := P) wr 165 Z X (by rw [hXs]; exact hinfo) (by rw [hZs, hXs]) one
      have hld := run_loadCellsFrom_new (P := P) wr 165 X z hXs
      have BA : Aside (Below wr.heap.size wr (wr.alloc (.cells X 165))) := new_below _ _
      clear one hinfo
      obtain ⟨q, hq⟩ : ∃ q, q = f k x := ⟨_, rfl⟩
      rw [← hq] at hcall
      have Q : Aside (q = f k x) := hq
      clear hq
      by_cases h0 : q = 0
      · subst h0
        iterate 50 (first | go_skip | go_guarded | go_step | go_upon)
        refine wp_call_fn (g := g) (lb := lb) _ rfl _ rfl rfl [.int .i64 (k : Int), .agg X] rfl eg ?_
        refine hcall.mono ?_; rintro e w' ⟨rfl, hb'⟩; refine ⟨_, rfl, ?_⟩
        have B2 : Aside (Below wr.heap.size wr w') := then_ BA.out hb'
        clear hcall hl2 hst hld BA hb'
        repeat (first | go_skip | go_guarded | go_step | go_upon)
        trace_state
        go_roundg (n - (k + 1))
        case measure => omega
        case rel =>
          refine ⟨k + 1, by omega, by omega, by go_num, then_ BW.out B2.out, ?_⟩
          show _ = _
          rw [E.out, D.out, firstE_next Q.out.symm]
      · iterate 50 (first | go_skip | go_guarded | go_step | go_upon)
        refine wp_call_fn (g := g) (lb := lb) _ rfl _ rfl rfl [.int .i64 (k : Int), .agg X] rfl eg ?_
        refine hcall.mono ?_; rintro e w' ⟨rfl, hb'⟩; refine ⟨_, rfl, ?_⟩
        have B2 : Aside (Below wr.heap.size wr w') := then_ BA.out hb'
        clear hcall hl2 hst hld BA hb'
        repeat (first | go_skip | go_guarded | go_step | go_upon)
        trace_state
        go_ret
        refine ⟨?_, then_ BW.out B2.out⟩
        rw [R.out, E.out, D.out, firstE_hit (by rw [← Q.out]; exact h0), ← Q.out]
        rfl
    · have hlti : ¬ (k : Int) < (n : Int) := by omega
      have D : Aside (l.drop k = []) := drop_end (by have := N.out; omega)
      clear hp hcell
      repeat (first | go_skip | go_guarded | go_step | go_upon)
      go_ret
      refine ⟨?_, BW.out⟩
      rw [R.out, E.out, D.out]
      rfl


set_option maxHeartbeats 1000000 in
/-- model.checkEach. -/
theorem eachRtr (v : Value) (l : List Rtr) (m : Nat) (f : Nat → Rtr → Int) (g : Nat) (lb : Array Value) (eg : ∀ args w, (callFunc g args).run Tryz.prog w = .ok (.enter g args) w) (w : World) (hrow : IsRow eRtr 25 w v l) (hl : l.length ≤ 9223372036854775807) (h1 : ∀ x ∈ l, (eRtr x).toArray.all (·.oneCell') = true) (hp : Chk Tryz.prog g lb eRtr f l w) :
    Calls Tryz.prog 43 #[v, .int .i64 (m : Int), .func (.func g) #[] lb] w fun e w' => e = .returned (.int .i64 (eachE m f l)) ∧ Below w.heap.size w w' := by
  obtain ⟨a, cap, rfl, hcap, hcell⟩ := rows_open (z := 25) (by decide) hrow
  obtain ⟨n, hn⟩ : ∃ n, n = l.length := ⟨_, rfl⟩
  rw [← hn] at hl hcap hcell ⊢
  have N := hid hn
  clear hn hrow
  by_cases hmn : m < n
  · have hmi : (m : Int) < (n : Int) := by omega
    have R := hid (show eachE m f l = 7 by unfold eachE; rw [if_pos (by have := N.out; omega)])
    clear hp hcell
    go_enter Tryz.func43, Tryz.ntmps43
    repeat (first | go_skip | go_guarded | go_step | go_upon)
    go_ret
    exact ⟨ret_int R.out.symm, Below.refl _ _⟩
  have hmi : ¬ (m : Int) < (n : Int) := by omega
  have R := hid (show eachE m f l = firstE f 0 l by unfold eachE; rw [if_neg (by have := N.out; omega)])
  obtain ⟨P, hP⟩ : ∃ P, P = Tryz.prog := ⟨_, rfl⟩
  obtain ⟨z, hz⟩ : ∃ z, z = 25 := ⟨_, rfl⟩
  have mixed : P.follows .mixedOrders = true := by rw [hP]; kernel_rfl
  have FG : P.funcs[43]? = some Tryz.f43 := by rw [hP]; exact Tryz.func43
  have ts0 := Tryz.underlying3
  have as0 := Tryz.isAgg3
  have zs0 := Tryz.sizeOf3
  have ts1 := Tryz.underlying4
  have as1 := Tryz.isAgg4
  have zs1 := Tryz.sizeOf4
  have tsl := Tryz.underlying46
  have asl := Tryz.isAgg46
  have zsl := Tryz.sizeOf46
  have ael := Tryz.isAgg41
  have zel := Tryz.sizeOf41
  rw [← hz] at zel
  rw [← hP] at ts0 as0 zs0 ts1 as1 zs1 tsl asl zsl ael zel eg hp ⊢
  obtain ⟨Z, hZ, hZs⟩ : ∃ Z : Array Value, (∀ w, (zeroValue 41).run P w = .ok (.agg Z) w) ∧ Z.size = z := ⟨_, by have h := Tryz.zeroValue41; rw [← hP] at h; exact h, by rw [hz]; rfl⟩
  have hinfo : (P.info? 41).map (·.size) = some z := by rw [hP, hz]; kernel_rfl
  clear hP
  go_enter FG, Tryz.ntmps43
  repeat (first | go_skip | go_guarded | go_step | go_upon)
  go_loopg [16] n (fun gg s16 wr => ∃ k : Nat, k ≤ n ∧ n - k ≤ gg ∧ s16 = .int .i64 k ∧ Aside (Below w.heap.size w wr) ∧ Aside (firstE f 0 l = firstE f k (l.drop k)))
  case atStart => exact ⟨0, Nat.zero_le _, by omega, rfl, Below.refl _ w, rfl⟩
  case round =>
    obtain ⟨k, hk, hg, rfl, BW, E⟩ := hrel
    by_cases hlt : k < n
    · have hlti : (k : Int) < (n : Int) := by omega
      obtain ⟨x, hx⟩ := get_some (l := l) (k := k) (by have := N.out; omega)
      obtain ⟨b, off, rfl, hb, hc⟩ := hcell (by omega)
      have hl2 : Sem.run P (loadCellsFrom ⟨b, off + k * 25, none⟩ 0 25 #[]) wr = .ok (eRtr x).toArray wr :=
        ld_row (f := eRtr) (z := 25) P (fun _ => rfl) (fun j u hj => (BW.out.cell (p := ⟨b, off + j, none⟩) hb).trans (hc j u hj)) hx
      rw [← hz] at hl2
      have one := h1 x (get_mem hx)
      have hXs : (eRtr x).toArray.size = z := by rw [hz]; rfl
      have hcall := hp (wr.alloc (.cells (eRtr x).toArray 41)) k x hx ((BW.out.alloc BW.out.size _))
      have D : Aside (l.drop k = x :: l.drop (k + 1)) := drop_get hx
      clear hp hc hcell hx hz h1
      obtain ⟨X, hX⟩ : ∃ X, X = (eRtr x).toArray := ⟨_, rfl⟩
      rw [← hX] at hl2 hcall hXs one
      clear hX
      have hst := run_storeCells_new (P := P) wr 41 Z X (by rw [hXs]; exact hinfo) (by rw [hZs, hXs]) one
      have hld := run_loadCellsFrom_new (P := P) wr 41 X z hXs
      have BA : Aside (Below wr.heap.size wr (wr.alloc (.cells X 41))) := new_below _ _
      clear one hinfo
      obtain ⟨q, hq⟩ : ∃ q, q = f k x := ⟨_, rfl⟩
      rw [← hq] at hcall
      have Q : Aside (q = f k x) := hq
      clear hq
      by_cases h0 : q = 0
      · subst h0
        iterate 50 (first | go_skip | go_guarded | go_step | go_upon)
        refine wp_call_fn (g := g) (lb := lb) _ rfl _ rfl rfl [.int .i64 (k : Int), .agg X] rfl eg ?_
        refine hcall.mono ?_; rintro e w' ⟨rfl, hb'⟩; refine ⟨_, rfl, ?_⟩
        have B2 : Aside (Below wr.heap.size wr w') := then_ BA.out hb'
        clear hcall hl2 hst hld BA hb'
        repeat (first | go_skip | go_guarded | go_step | go_upon)
        trace_state
        go_roundg (n - (k + 1))
        case measure => omega
        case rel =>
          refine ⟨k + 1, by omega, by omega, by go_num, then_ BW.out B2.out, ?_⟩
          show _ = _
          rw [E.out, D.out, firstE_next Q.out.symm]
      · iterate 50 (first | go_skip | go_guarded | go_step | go_upon)
        refine wp_call_fn (g := g) (lb := lb) _ rfl _ rfl rfl [.int .i64 (k : Int), .agg X] rfl eg ?_
        refine hcall.mono ?_; rintro e w' ⟨rfl, hb'⟩; refine ⟨_, rfl, ?_⟩
        have B2 : Aside (Below wr.heap.size wr w') := then_ BA.out hb'
        clear hcall hl2 hst hld BA hb'
        repeat (first | go_skip | go_guarded | go_step | go_upon)
        trace_state
        go_ret
        refine ⟨?_, then_ BW.out B2.out⟩
        rw [R.out, E.out, D.out, firstE_hit (by rw [← Q.out]; exact h0), ← Q.out]
        rfl
    · have hlti : ¬ (k : Int) < (n : Int) := by omega
      have D : Aside (l.drop k = []) := drop_end (by have := N.out; omega)
      clear hp hcell
      repeat (first | go_skip | go_guarded | go_step | go_upon)
      go_ret
      refine ⟨?_, BW.out⟩
      rw [R.out, E.out, D.out]
      rfl

end Go.Proofs.YtlhbfpapmolohaaGreat.Mw
