/-
  THE CONTRACTS OF model.checkEach AT EACH TYPE.
-/
import Derived.Test.YtmffbdohcnebdaaGreatProg
import Derived.Test.YtmffbdohcnebdaaGreatModP
import Derived.Test.YtmffbdohcnebdaaGreatModM
import Derived.Deep.LoopGhost
import Derived.Deep.WholeRow
import Derived.WalkKit
import Derived.WalkSpells
import Derived.IntWalk
namespace Go.Proofs.YtmffbdohcnebdaaGreat.Mw
set_option linter.unusedSimpArgs false
set_option linter.unusedVariables false
open Go.RowKit Kt Mm Mp



set_option maxHeartbeats 1000000 in
/-- model.checkEach. -/
theorem eachIfc (v : Value) (l : List Ifc) (m : Nat) (f : Nat → Ifc → Int) (g : Nat) (lb : Array Value) (eg : ∀ args w, (callFunc g args).run Tryz.prog w = .ok (.enter g args) w) (w : World) (hrow : IsRow eIfc 12 w v l) (hl : l.length ≤ 9223372036854775807) (h1 : ∀ x ∈ l, (eIfc x).toArray.all (·.oneCell') = true) (hp : Chk Tryz.prog g lb eIfc f l w) :
    Calls Tryz.prog 90 #[v, .int .i64 (m : Int), .func (.func g) #[] lb] w fun e w' => e = .returned (.int .i64 (eachE m f l)) ∧ Below w.heap.size w w' := by
  obtain ⟨a, cap, rfl, hcap, hcell⟩ := rows_open (z := 12) (by decide) hrow
  obtain ⟨n, hn⟩ : ∃ n, n = l.length := ⟨_, rfl⟩
  rw [← hn] at hl hcap hcell ⊢
  have N := hid hn
  clear hn hrow
  by_cases hmn : m < n
  · have hmi : (m : Int) < (n : Int) := by omega
    have R := hid (show eachE m f l = 7 by unfold eachE; rw [if_pos (by have := N.out; omega)])
    clear hp hcell
    go_enter Tryz.func90, Tryz.ntmps90
    repeat (first | go_skip | go_guarded | go_step | go_upon)
    go_ret
    exact ⟨ret_int R.out.symm, Below.refl _ _⟩
  have hmi : ¬ (m : Int) < (n : Int) := by omega
  have R := hid (show eachE m f l = firstE f 0 l by unfold eachE; rw [if_neg (by have := N.out; omega)])
  obtain ⟨P, hP⟩ : ∃ P, P = Tryz.prog := ⟨_, rfl⟩
  obtain ⟨z, hz⟩ : ∃ z, z = 12 := ⟨_, rfl⟩
  have mixed : P.follows .mixedOrders = true := by rw [hP]; kernel_rfl
  have FG : P.funcs[90]? = some Tryz.f90 := by rw [hP]; exact Tryz.func90
  have ts0 := Tryz.underlying3
  have as0 := Tryz.isAgg3
  have zs0 := Tryz.sizeOf3
  have ts1 := Tryz.underlying4
  have as1 := Tryz.isAgg4
  have zs1 := Tryz.sizeOf4
  have tsl := Tryz.underlying22
  have asl := Tryz.isAgg22
  have zsl := Tryz.sizeOf22
  have ael := Tryz.isAgg54
  have zel := Tryz.sizeOf54
  rw [← hz] at zel
  rw [← hP] at ts0 as0 zs0 ts1 as1 zs1 tsl asl zsl ael zel eg hp ⊢
  obtain ⟨Z, hZ, hZs⟩ : ∃ Z : Array Value, (∀ w, (zeroValue 54).run P w = .ok (.agg Z) w) ∧ Z.size = z := ⟨_, by have h := Tryz.zeroValue54; rw [← hP] at h; exact h, by rw [hz]; rfl⟩
  have hinfo : (P.info? 54).map (·.size) = some z := by rw [hP, hz]; kernel_rfl
  clear hP
  go_enter FG, Tryz.ntmps90
  repeat (first | go_skip | go_guarded | go_step | go_upon)
  go_loopg [16] n (fun gg s16 wr => ∃ k : Nat, k ≤ n ∧ n - k ≤ gg ∧ s16 = .int .i64 k ∧ Aside (Below w.heap.size w wr) ∧ Aside (firstE f 0 l = firstE f k (l.drop k)))
  case atStart => exact ⟨0, Nat.zero_le _, by omega, rfl, Below.refl _ w, rfl⟩
  case round =>
    obtain ⟨k, hk, hg, rfl, BW, E⟩ := hrel
    by_cases hlt : k < n
    · have hlti : (k : Int) < (n : Int) := by omega
      obtain ⟨x, hx⟩ := get_some (l := l) (k := k) (by have := N.out; omega)
      obtain ⟨b, off, rfl, hb, hc⟩ := hcell (by omega)
      have hl2 : Sem.run P (loadCellsFrom ⟨b, off + k * 12, none⟩ 0 12 #[]) wr = .ok (eIfc x).toArray wr :=
        ld_row (f := eIfc) (z := 12) P (fun _ => rfl) (fun j u hj => (BW.out.cell (p := ⟨b, off + j, none⟩) hb).trans (hc j u hj)) hx
      rw [← hz] at hl2
      have one := h1 x (get_mem hx)
      have hXs : (eIfc x).toArray.size = z := by rw [hz]; rfl
      have hcall := hp (wr.alloc (.cells (eIfc x).toArray 54)) k x hx ((BW.out.alloc BW.out.size _))
      have D : Aside (l.drop k = x :: l.drop (k + 1)) := drop_get hx
      clear hp hc hcell hx hz h1
      obtain ⟨X, hX⟩ : ∃ X, X = (eIfc x).toArray := ⟨_, rfl⟩
      rw [← hX] at hl2 hcall hXs one
      clear hX
      have hst := run_storeCells_new (P := P) wr 54 Z X (by rw [hXs]; exact hinfo) (by rw [hZs, hXs]) one
      have hld := run_loadCellsFrom_new (P := P) wr 54 X z hXs
      have BA : Aside (Below wr.heap.size wr (wr.alloc (.cells X 54))) := new_below _ _
      clear one hinfo
      obtain ⟨q, hq⟩ : ∃ q, q = f k x := ⟨_, rfl⟩
      rw [← hq] at hcall
      have Q : Aside (q = f k x) := hq
      clear hq
      by_cases h0 : q = 0
      · subst h0
        iterate 50 (first | go_skip | go_guarded | go_step | go_upon)
        refine wp_call_fn (g := g) (lb := lb) _ rfl _ rfl rfl [.int .i64 (k : Int), .agg X] rfl eg ?_
        refine hcall.mono ?_; rintro e w' ⟨rfl, hb'⟩; refine ⟨_, rfl, ?_⟩
        have B2 : Aside (Below wr.heap.size wr w') := then_ BA.out hb'
        clear hcall hl2 hst hld BA hb'
        repeat (first | go_skip | go_guarded | go_step | go_upon)
        trace_state
        go_roundg (n - (k + 1))
        case measure => omega
        case rel =>
          refine ⟨k + 1, by omega, by omega, by go_num, then_ BW.out B2.out, ?_⟩
          show _ = _
          rw [E.out, D.out, firstE_next Q.out.symm]
      · iterate 50 (first | go_skip | go_guarded | go_step | go_upon)
        refine wp_call_fn (g := g) (lb := lb) _ rfl _ rfl rfl [.int .i64 (k : Int), .agg X] rfl eg ?_
        refine hcall.mono ?_; rintro e w' ⟨rfl, hb'⟩; refine ⟨_, rfl, ?_⟩
        have B2 : Aside (Below wr.heap.size wr w') := then_ BA.out hb'
        clear hcall hl2 hst hld BA hb'
        repeat (first | go_skip | go_guarded | go_step | go_upon)
        trace_state
        go_ret
        refine ⟨?_, then_ BW.out B2.out⟩
        rw [R.out, E.out, D.out, firstE_hit (by rw [← Q.out]; exact h0), ← Q.out]
        rfl
    · have hlti : ¬ (k : Int) < (n : Int) := by omega
      have D : Aside (l.drop k = []) := drop_end (by have := N.out; omega)
      clear hp hcell
      repeat (first | go_skip | go_guarded | go_step | go_upon)
      go_ret
      refine ⟨?_, BW.out⟩
      rw [R.out, E.out, D.out]
      rfl


set_option maxHeartbeats 1000000 in
/-- model.checkEach. -/
theorem eachPList (v : Value) (l : List PList) (m : Nat) (f : Nat → PList → Int) (g : Nat) (lb : Array Value) (eg : ∀ args w, (callFunc g args).run Tryz.prog w = .ok (.enter g args) w) (w : World) (hrow : IsRow ePList 2 w v l) (hl : l.length ≤ 9223372036854775807) (h1 : ∀ x ∈ l, (ePList x).toArray.all (·.oneCell') = true) (hp : Chk Tryz.prog g lb ePList f l w) :
    Calls Tryz.prog 94 #[v, .int .i64 (m : Int), .func (.func g) #[] lb] w fun e w' => e = .returned (.int .i64 (eachE m f l)) ∧ Below w.heap.size w w' := by
  obtain ⟨a, cap, rfl, hcap, hcell⟩ := rows_open (z := 2) (by decide) hrow
  obtain ⟨n, hn⟩ : ∃ n, n = l.length := ⟨_, rfl⟩
  rw [← hn] at hl hcap hcell ⊢
  have N := hid hn
  clear hn hrow
  by_cases hmn : m < n
  · have hmi : (m : Int) < (n : Int) := by omega
    have R := hid (show eachE m f l = 7 by unfold eachE; rw [if_pos (by have := N.out; omega)])
    clear hp hcell
    go_enter Tryz.func94, Tryz.ntmps94
    repeat (first | go_skip | go_guarded | go_step | go_upon)
    go_ret
    exact ⟨ret_int R.out.symm, Below.refl _ _⟩
  have hmi : ¬ (m : Int) < (n : Int) := by omega
  have R := hid (show eachE m f l = firstE f 0 l by unfold eachE; rw [if_neg (by have := N.out; omega)])
  obtain ⟨P, hP⟩ : ∃ P, P = Tryz.prog := ⟨_, rfl⟩
  obtain ⟨z, hz⟩ : ∃ z, z = 2 := ⟨_, rfl⟩
  have mixed : P.follows .mixedOrders = true := by rw [hP]; kernel_rfl
  have FG : P.funcs[94]? = some Tryz.f94 := by rw [hP]; exact Tryz.func94
  have ts0 := Tryz.underlying3
  have as0 := Tryz.isAgg3
  have zs0 := Tryz.sizeOf3
  have ts1 := Tryz.underlying4
  have as1 := Tryz.isAgg4
  have zs1 := Tryz.sizeOf4
  have tsl := Tryz.underlying23
  have asl := Tryz.isAgg23
  have zsl := Tryz.sizeOf23
  have ael := Tryz.isAgg82
  have zel := Tryz.sizeOf82
  rw [← hz] at zel
  rw [← hP] at ts0 as0 zs0 ts1 as1 zs1 tsl asl zsl ael zel eg hp ⊢
  obtain ⟨Z, hZ, hZs⟩ : ∃ Z : Array Value, (∀ w, (zeroValue 82).run P w = .ok (.agg Z) w) ∧ Z.size = z := ⟨_, by have h := Tryz.zeroValue82; rw [← hP] at h; exact h, by rw [hz]; rfl⟩
  have hinfo : (P.info? 82).map (·.size) = some z := by rw [hP, hz]; kernel_rfl
  clear hP
  go_enter FG, Tryz.ntmps94
  repeat (first | go_skip | go_guarded | go_step | go_upon)
  go_loopg [16] n (fun gg s16 wr => ∃ k : Nat, k ≤ n ∧ n - k ≤ gg ∧ s16 = .int .i64 k ∧ Aside (Below w.heap.size w wr) ∧ Aside (firstE f 0 l = firstE f k (l.drop k)))
  case atStart => exact ⟨0, Nat.zero_le _, by omega, rfl, Below.refl _ w, rfl⟩
  case round =>
    obtain ⟨k, hk, hg, rfl, BW, E⟩ := hrel
    by_cases hlt : k < n
    · have hlti : (k : Int) < (n : Int) := by omega
      obtain ⟨x, hx⟩ := get_some (l := l) (k := k) (by have := N.out; omega)
      obtain ⟨b, off, rfl, hb, hc⟩ := hcell (by omega)
      have hl2 : Sem.run P (loadCellsFrom ⟨b, off + k * 2, none⟩ 0 2 #[]) wr = .ok (ePList x).toArray wr :=
        ld_row (f := ePList) (z := 2) P (fun _ => rfl) (fun j u hj => (BW.out.cell (p := ⟨b, off + j, none⟩) hb).trans (hc j u hj)) hx
      rw [← hz] at hl2
      have one := h1 x (get_mem hx)
      have hXs : (ePList x).toArray.size = z := by rw [hz]; rfl
      have hcall := hp (wr.alloc (.cells (ePList x).toArray 82)) k x hx ((BW.out.alloc BW.out.size _))
      have D : Aside (l.drop k = x :: l.drop (k + 1)) := drop_get hx
      clear hp hc hcell hx hz h1
      obtain ⟨X, hX⟩ : ∃ X, X = (ePList x).toArray := ⟨_, rfl⟩
      rw [← hX] at hl2 hcall hXs one
      clear hX
      have hst := run_storeCells_new (P := P) wr 82 Z X (by rw [hXs]; exact hinfo) (by rw [hZs, hXs]) one
      have hld := run_loadCellsFrom_new (P := P) wr 82 X z hXs
      have BA : Aside (Below wr.heap.size wr (wr.alloc (.cells X 82))) := new_below _ _
      clear one hinfo
      obtain ⟨q, hq⟩ : ∃ q, q = f k x := ⟨_, rfl⟩
      rw [← hq] at hcall
      have Q : Aside (q = f k x) := hq
      clear hq
      by_cases h0 : q = 0
      · subst h0
        iterate 50 (first | go_skip | go_guarded | go_step | go_upon)
        refine wp_call_fn (g := g) (lb := lb) _ rfl _ rfl rfl [.int .i64 (k : Int), .agg X] rfl eg ?_
        refine hcall.mono ?_; rintro e w' ⟨rfl, hb'⟩; refine ⟨_, rfl, ?_⟩
        have B2 : Aside (Below wr.heap.size wr w') := then_ BA.out hb'
        clear hcall hl2 hst hld BA hb'
        repeat (first | go_skip | go_guarded | go_step | go_upon)
        trace_state
        go_roundg (n - (k + 1))
        case measure => omega
        case rel =>
          refine ⟨k + 1, by omega, by omega, by go_num, then_ BW.out B2.out, ?_⟩
          show _ = _
          rw [E.out, D.out, firstE_next Q.out.symm]
      · iterate 50 (first | go_skip | go_guarded | go_step | go_upon)
        refine wp_call_fn (g := g) (lb := lb) _ rfl _ rfl rfl [.int .i64 (k : Int), .agg X] rfl eg ?_
        refine hcall.mono ?_; rintro e w' ⟨rfl, hb'⟩; refine ⟨_, rfl, ?_⟩
        have B2 : Aside (Below wr.heap.size wr w') := then_ BA.out hb'
        clear hcall hl2 hst hld BA hb'
        repeat (first | go_skip | go_guarded | go_step | go_upon)
        trace_state
        go_ret
        refine ⟨?_, then_ BW.out B2.out⟩
        rw [R.out, E.out, D.out, firstE_hit (by rw [← Q.out]; exact h0), ← Q.out]
        rfl
    · have hlti : ¬ (k : Int) < (n : Int) := by omega
      have D : Aside (l.drop k = []) := drop_end (by have := N.out; omega)
      clear hp hcell
      repeat (first | go_skip | go_guarded | go_step | go_upon)
      go_ret
      refine ⟨?_, BW.out⟩
      rw [R.out, E.out, D.out]
      rfl


set_option maxHeartbeats 1000000 in
/-- model.checkEach. -/
theorem eachPRule (v : Value) (l : List PRule) (m : Nat) (f : Nat → PRule → Int) (g : Nat) (lb : Array Value) (eg : ∀ args w, (callFunc g args).run Tryz.prog w = .ok (.enter g args) w) (w : World) (hrow : IsRow ePRule 5 w v l) (hl : l.length ≤ 9223372036854775807) (h1 : ∀ x ∈ l, (ePRule x).toArray.all (·.oneCell') = true) (hp : Chk Tryz.prog g lb ePRule f l w) :
    Calls Tryz.prog 97 #[v, .int .i64 (m : Int), .func (.func g) #[] lb] w fun e w' => e = .returned (.int .i64 (eachE m f l)) ∧ Below w.heap.size w w' := by
  obtain ⟨a, cap, rfl, hcap, hcell⟩ := rows_open (z := 5) (by decide) hrow
  obtain ⟨n, hn⟩ : ∃ n, n = l.length := ⟨_, rfl⟩
  rw [← hn] at hl hcap hcell ⊢
  have N := hid hn
  clear hn hrow
  by_cases hmn : m < n
  · have hmi : (m : Int) < (n : Int) := by omega
    have R := hid (show eachE m f l = 7 by unfold eachE; rw [if_pos (by have := N.out; omega)])
    clear hp hcell
    go_enter Tryz.func97, Tryz.ntmps97
    repeat (first | go_skip | go_guarded | go_step | go_upon)
    go_ret
    exact ⟨ret_int R.out.symm, Below.refl _ _⟩
  have hmi : ¬ (m : Int) < (n : Int) := by omega
  have R := hid (show eachE m f l = firstE f 0 l by unfold eachE; rw [if_neg (by have := N.out; omega)])
  obtain ⟨P, hP⟩ : ∃ P, P = Tryz.prog := ⟨_, rfl⟩
  obtain ⟨z, hz⟩ : ∃ z, z = 5 := ⟨_, rfl⟩
  have mixed : P.follows .mixedOrders = true := by rw [hP]; kernel_rfl
  have FG : P.funcs[97]? = some Tryz.f97 := by rw [hP]; exact Tryz.func97
  have ts0 := Tryz.underlying3
  have as0 := Tryz.isAgg3
  have zs0 := Tryz.sizeOf3
  have ts1 := Tryz.underlying4
  have as1 := Tryz.isAgg4
  have zs1 := Tryz.sizeOf4
  have tsl := Tryz.underlying80
  have asl := Tryz.isAgg80
  have zsl := Tryz.sizeOf80
  have ael := Tryz.isAgg126
  have zel := Tryz.sizeOf126
  rw [← hz] at zel
  rw [← hP] at ts0 as0 zs0 ts1 as1 zs1 tsl asl zsl ael zel eg hp ⊢
  obtain ⟨Z, hZ, hZs⟩ : ∃ Z : Array Value, (∀ w, (zeroValue 126).run P w = .ok (.agg Z) w) ∧ Z.size = z := ⟨_, by have h := Tryz.zeroValue126; rw [← hP] at h; exact h, by rw [hz]; rfl⟩
  have hinfo : (P.info? 126).map (·.size) = some z := by rw [hP, hz]; kernel_rfl
  clear hP
  go_enter FG, Tryz.ntmps97
  repeat (first | go_skip | go_guarded | go_step | go_upon)
  go_loopg [16] n (fun gg s16 wr => ∃ k : Nat, k ≤ n ∧ n - k ≤ gg ∧ s16 = .int .i64 k ∧ Aside (Below w.heap.size w wr) ∧ Aside (firstE f 0 l = firstE f k (l.drop k)))
  case atStart => exact ⟨0, Nat.zero_le _, by omega, rfl, Below.refl _ w, rfl⟩
  case round =>
    obtain ⟨k, hk, hg, rfl, BW, E⟩ := hrel
    by_cases hlt : k < n
    · have hlti : (k : Int) < (n : Int) := by omega
      obtain ⟨x, hx⟩ := get_some (l := l) (k := k) (by have := N.out; omega)
      obtain ⟨b, off, rfl, hb, hc⟩ := hcell (by omega)
      have hl2 : Sem.run P (loadCellsFrom ⟨b, off + k * 5, none⟩ 0 5 #[]) wr = .ok (ePRule x).toArray wr :=
        ld_row (f := ePRule) (z := 5) P (fun _ => rfl) (fun j u hj => (BW.out.cell (p := ⟨b, off + j, none⟩) hb).trans (hc j u hj)) hx
      rw [← hz] at hl2
      have one := h1 x (get_mem hx)
      have hXs : (ePRule x).toArray.size = z := by rw [hz]; rfl
      have hcall := hp (wr.alloc (.cells (ePRule x).toArray 126)) k x hx ((BW.out.alloc BW.out.size _))
      have D : Aside (l.drop k = x :: l.drop (k + 1)) := drop_get hx
      clear hp hc hcell hx hz h1
      obtain ⟨X, hX⟩ : ∃ X, X = (ePRule x).toArray := ⟨_, rfl⟩
      rw [← hX] at hl2 hcall hXs one
      clear hX
      have hst := run_storeCells_new (P := P) wr 126 Z X (by rw [hXs]; exact hinfo) (by rw [hZs, hXs]) one
      have hld := run_loadCellsFrom_new (P := P) wr 126 X z hXs
      have BA : Aside (Below wr.heap.size wr (wr.alloc (.cells X 126))) := new_below _ _
      clear one hinfo
      obtain ⟨q, hq⟩ : ∃ q, q = f k x := ⟨_, rfl⟩
      rw [← hq] at hcall
      have Q : Aside (q = f k x) := hq
      clear hq
      by_cases h0 : q = 0
      · subst h0
        iterate 50 (first | go_skip | go_guarded | go_step | go_upon)
        refine wp_call_fn (g := g) (lb := lb) _ rfl _ rfl rfl [.int .i64 (k : Int), .agg X] rfl eg ?_
        refine hcall.mono ?_; rintro e w' ⟨rfl, hb'⟩; refine ⟨_, rfl, ?_⟩
        have B2 : Aside (Below wr.heap.size wr w') := then_ BA.out hb'
        clear hcall hl2 hst hld BA hb'
        repeat (first | go_skip | go_guarded | go_step | go_upon)
        trace_state
        go_roundg (n - (k + 1))
        case measure => omega
        case rel =>
          refine ⟨k + 1, by omega, by omega, by go_num, then_ BW.out B2.out, ?_⟩
          show _ = _
          rw [E.out, D.out, firstE_next Q.out.symm]
      · iterate 50 (first | go_skip | go_guarded | go_step | go_upon)
        refine wp_call_fn (g := g) (lb := lb) _ rfl _ rfl rfl [.int .i64 (k : Int), .agg X] rfl eg ?_
        refine hcall.mono ?_; rintro e w' ⟨rfl, hb'⟩; refine ⟨_, rfl, ?_⟩
        have B2 : Aside (Below wr.heap.size wr w') := then_ BA.out hb'
        clear hcall hl2 hst hld BA hb'
        repeat (first | go_skip | go_guarded | go_step | go_upon)
        trace_state
        go_ret
        refine ⟨?_, then_ BW.out B2.out⟩
        rw [R.out, E.out, D.out, firstE_hit (by rw [← Q.out]; exact h0), ← Q.out]
        rfl
    · have hlti : ¬ (k : Int) < (n : Int) := by omega
      have D : Aside (l.drop k = []) := drop_end (by have := N.out; omega)
      clear hp hcell
      repeat (first | go_skip | go_guarded | go_step | go_upon)
      go_ret
      refine ⟨?_, BW.out⟩
      rw [R.out, E.out, D.out]
      rfl


set_option maxHeartbeats 1000000 in
/-- model.checkEach. -/
theorem eachRMap (v : Value) (l : List RMap) (m : Nat) (f : Nat → RMap → Int) (g : Nat) (lb : Array Value) (eg : ∀ args w, (callFunc g args).run Tryz.prog w = .ok (.enter g args) w) (w : World) (hrow : IsRow eRMap 2 w v l) (hl : l.length ≤ 9223372036854775807) (h1 : ∀ x ∈ l, (eRMap x).toArray.all (·.oneCell') = true) (hp : Chk Tryz.prog g lb eRMap f l w) :
    Calls Tryz.prog 100 #[v, .int .i64 (m : Int), .func (.func g) #[] lb] w fun e w' => e = .returned (.int .i64 (eachE m f l)) ∧ Below w.heap.size w w' := by
  obtain ⟨a, cap, rfl, hcap, hcell⟩ := rows_open (z := 2) (by decide) hrow
  obtain ⟨n, hn⟩ : ∃ n, n = l.length := ⟨_, rfl⟩
  rw [← hn] at hl hcap hcell ⊢
  have N := hid hn
  clear hn hrow
  by_cases hmn : m < n
  · have hmi : (m : Int) < (n : Int) := by omega
    have R := hid (show eachE m f l = 7 by unfold eachE; rw [if_pos (by have := N.out; omega)])
    clear hp hcell
    go_enter Tryz.func100, Tryz.ntmps100
    repeat (first | go_skip | go_guarded | go_step | go_upon)
    go_ret
    exact ⟨ret_int R.out.symm, Below.refl _ _⟩
  have hmi : ¬ (m : Int) < (n : Int) := by omega
  have R := hid (show eachE m f l = firstE f 0 l by unfold eachE; rw [if_neg (by have := N.out; omega)])
  obtain ⟨P, hP⟩ : ∃ P, P = Tryz.prog := ⟨_, rfl⟩
  obtain ⟨z, hz⟩ : ∃ z, z = 2 := ⟨_, rfl⟩
  have mixed : P.follows .mixedOrders = true := by rw [hP]; kernel_rfl
  have FG : P.funcs[100]? = some Tryz.f100 := by rw [hP]; exact Tryz.func100
  have ts0 := Tryz.underlying3
  have as0 := Tryz.isAgg3
  have zs0 := Tryz.sizeOf3
  have ts1 := Tryz.underlying4
  have as1 := Tryz.isAgg4
  have zs1 := Tryz.sizeOf4
  have tsl := Tryz.underlying24
  have asl := Tryz.isAgg24
  have zsl := Tryz.sizeOf24
  have ael := Tryz.isAgg70
  have zel := Tryz.sizeOf70
  rw [← hz] at zel
  rw [← hP] at ts0 as0 zs0 ts1 as1 zs1 tsl asl zsl ael zel eg hp ⊢
  obtain ⟨Z, hZ, hZs⟩ : ∃ Z : Array Value, (∀ w, (zeroValue 70).run P w = .ok (.agg Z) w) ∧ Z.size = z := ⟨_, by have h := Tryz.zeroValue70; rw [← hP] at h; exact h, by rw [hz]; rfl⟩
  have hinfo : (P.info? 70).map (·.size) = some z := by rw [hP, hz]; kernel_rfl
  clear hP
  go_enter FG, Tryz.ntmps100
  repeat (first | go_skip | go_guarded | go_step | go_upon)
  go_loopg [16] n (fun gg s16 wr => ∃ k : Nat, k ≤ n ∧ n - k ≤ gg ∧ s16 = .int .i64 k ∧ Aside (Below w.heap.size w wr) ∧ Aside (firstE f 0 l = firstE f k (l.drop k)))
  case atStart => exact ⟨0, Nat.zero_le _, by omega, rfl, Below.refl _ w, rfl⟩
  case round =>
    obtain ⟨k, hk, hg, rfl, BW, E⟩ := hrel
    by_cases hlt : k < n
    · have hlti : (k : Int) < (n : Int) := by omega
      obtain ⟨x, hx⟩ := get_some (l := l) (k := k) (by have := N.out; omega)
      obtain ⟨b, off, rfl, hb, hc⟩ := hcell (by omega)
      have hl2 : Sem.run P (loadCellsFrom ⟨b, off + k * 2, none⟩ 0 2 #[]) wr = .ok (eRMap x).toArray wr :=
        ld_row (f := eRMap) (z := 2) P (fun _ => rfl) (fun j u hj => (BW.out.cell (p := ⟨b, off + j, none⟩) hb).trans (hc j u hj)) hx
      rw [← hz] at hl2
      have one := h1 x (get_mem hx)
      have hXs : (eRMap x).toArray.size = z := by rw [hz]; rfl
      have hcall := hp (wr.alloc (.cells (eRMap x).toArray 70)) k x hx ((BW.out.alloc BW.out.size _))
      have D : Aside (l.drop k = x :: l.drop (k + 1)) := drop_get hx
      clear hp hc hcell hx hz h1
      obtain ⟨X, hX⟩ : ∃ X, X = (eRMap x).toArray := ⟨_, rfl⟩
      rw [← hX] at hl2 hcall hXs one
      clear hX
      have hst := run_storeCells_new (P := P) wr 70 Z X (by rw [hXs]; exact hinfo) (by rw [hZs, hXs]) one
      have hld := run_loadCellsFrom_new (P := P) wr 70 X z hXs
      have BA : Aside (Below wr.heap.size wr (wr.alloc (.cells X 70))) := new_below _ _
      clear one hinfo
      obtain ⟨q, hq⟩ : ∃ q, q = f k x := ⟨_, rfl⟩
      rw [← hq] at hcall
      have Q : Aside (q = f k x) := hq
      clear hq
      by_cases h0 : q = 0
      · subst h0
        iterate 50 (first | go_skip | go_guarded | go_step | go_upon)
        refine wp_call_fn (g := g) (lb := lb) _ rfl _ rfl rfl [.int .i64 (k : Int), .agg X] rfl eg ?_
        refine hcall.mono ?_; rintro e w' ⟨rfl, hb'⟩; refine ⟨_, rfl, ?_⟩
        have B2 : Aside (Below wr.heap.size wr w') := then_ BA.out hb'
        clear hcall hl2 hst hld BA hb'
        repeat (first | go_skip | go_guarded | go_step | go_upon)
        trace_state
        go_roundg (n - (k + 1))
        case measure => omega
        case rel =>
          refine ⟨k + 1, by omega, by omega, by go_num, then_ BW.out B2.out, ?_⟩
          show _ = _
          rw [E.out, D.out, firstE_next Q.out.symm]
      · iterate 50 (first | go_skip | go_guarded | go_step | go_upon)
        refine wp_call_fn (g := g) (lb := lb) _ rfl _ rfl rfl [.int .i64 (k : Int), .agg X] rfl eg ?_
        refine hcall.mono ?_; rintro e w' ⟨rfl, hb'⟩; refine ⟨_, rfl, ?_⟩
        have B2 : Aside (Below wr.heap.size wr w') := then_ BA.out hb'
        clear hcall hl2 hst hld BA hb'
        repeat (first | go_skip | go_guarded | go_step | go_upon)
        trace_state
        go_ret
        refine ⟨?_, then_ BW.out B2.out⟩
        rw [R.out, E.out, D.out, firstE_hit (by rw [← Q.out]; exact h0), ← Q.out]
        rfl
    · have hlti : ¬ (k : Int) < (n : Int) := by omega
      have D : Aside (l.drop k = []) := drop_end (by have := N.out; omega)
      clear hp hcell
      repeat (first | go_skip | go_guarded | go_step | go_upon)
      go_ret
      refine ⟨?_, BW.out⟩
      rw [R.out, E.out, D.out]
      rfl


set_option maxHeartbeats 1000000 in
/-- model.checkEach. -/
theorem eachCla (v : Value) (l : List Cla) (m : Nat) (f : Nat → Cla → Int) (g : Nat) (lb : Array Value) (eg : ∀ args w, (callFunc g args).run Tryz.prog w = .ok (.enter g args) w) (w : World) (hrow : IsRow eCla 7 w v l) (hl : l.length ≤ 9223372036854775807) (h1 : ∀ x ∈ l, (eCla x).toArray.all (·.oneCell') = true) (hp : Chk Tryz.prog g lb eCla f l w) :
    Calls Tryz.prog 102 #[v, .int .i64 (m : Int), .func (.func g) #[] lb] w fun e w' => e = .returned (.int .i64 (eachE m f l)) ∧ Below w.heap.size w w' := by
  obtain ⟨a, cap, rfl, hcap, hcell⟩ := rows_open (z := 7) (by decide) hrow
  obtain ⟨n, hn⟩ : ∃ n, n = l.length := ⟨_, rfl⟩
  rw [← hn] at hl hcap hcell ⊢
  have N := hid hn
  clear hn hrow
  by_cases hmn : m < n
  · have hmi : (m : Int) < (n : Int) := by omega
    have R := hid (show eachE m f l = 7 by unfold eachE; rw [if_pos (by have := N.out; omega)])
    clear hp hcell
    go_enter Tryz.func102, Tryz.ntmps102
    repeat (first | go_skip | go_guarded | go_step | go_upon)
    go_ret
    exact ⟨ret_int R.out.symm, Below.refl _ _⟩
  have hmi : ¬ (m : Int) < (n : Int) := by omega
  have R := hid (show eachE m f l = firstE f 0 l by unfold eachE; rw [if_neg (by have := N.out; omega)])
  obtain ⟨P, hP⟩ : ∃ P, P = Tryz.prog := ⟨_, rfl⟩
  obtain ⟨z, hz⟩ : ∃ z, z = 7 := ⟨_, rfl⟩
  have mixed : P.follows .mixedOrders = true := by rw [hP]; kernel_rfl
  have FG : P.funcs[102]? = some Tryz.f102 := by rw [hP]; exact Tryz.func102
  have ts0 := Tryz.underlying3
  have as0 := Tryz.isAgg3
  have zs0 := Tryz.sizeOf3
  have ts1 := Tryz.underlying4
  have as1 := Tryz.isAgg4
  have zs1 := Tryz.sizeOf4
  have tsl := Tryz.underlying68
  have asl := Tryz.isAgg68
  have zsl := Tryz.sizeOf68
  have ael := Tryz.isAgg133
  have zel := Tryz.sizeOf133
  rw [← hz] at zel
  rw [← hP] at ts0 as0 zs0 ts1 as1 zs1 tsl asl zsl ael zel eg hp ⊢
  obtain ⟨Z, hZ, hZs⟩ : ∃ Z : Array Value, (∀ w, (zeroValue 133).run P w = .ok (.agg Z) w) ∧ Z.size = z := ⟨_, by have h := Tryz.zeroValue133; rw [← hP] at h; exact h, by rw [hz]; rfl⟩
  have hinfo : (P.info? 133).map (·.size) = some z := by rw [hP, hz]; kernel_rfl
  clear hP
  go_enter FG, Tryz.ntmps102
  repeat (first | go_skip | go_guarded | go_step | go_upon)
  go_loopg [16] n (fun gg s16 wr => ∃ k : Nat, k ≤ n ∧ n - k ≤ gg ∧ s16 = .int .i64 k ∧ Aside (Below w.heap.size w wr) ∧ Aside (firstE f 0 l = firstE f k (l.drop k)))
  case atStart => exact ⟨0, Nat.zero_le _, by omega, rfl, Below.refl _ w, rfl⟩
  case round =>
    obtain ⟨k, hk, hg, rfl, BW, E⟩ := hrel
    by_cases hlt : k < n
    · have hlti : (k : Int) < (n : Int) := by omega
      obtain ⟨x, hx⟩ := get_some (l := l) (k := k) (by have := N.out; omega)
      obtain ⟨b, off, rfl, hb, hc⟩ := hcell (by omega)
      have hl2 : Sem.run P (loadCellsFrom ⟨b, off + k * 7, none⟩ 0 7 #[]) wr = .ok (eCla x).toArray wr :=
        ld_row (f := eCla) (z := 7) P (fun _ => rfl) (fun j u hj => (BW.out.cell (p := ⟨b, off + j, none⟩) hb).trans (hc j u hj)) hx
      rw [← hz] at hl2
      have one := h1 x (get_mem hx)
      have hXs : (eCla x).toArray.size = z := by rw [hz]; rfl
      have hcall := hp (wr.alloc (.cells (eCla x).toArray 133)) k x hx ((BW.out.alloc BW.out.size _))
      have D : Aside (l.drop k = x :: l.drop (k + 1)) := drop_get hx
      clear hp hc hcell hx hz h1
      obtain ⟨X, hX⟩ : ∃ X, X = (eCla x).toArray := ⟨_, rfl⟩
      rw [← hX] at hl2 hcall hXs one
      clear hX
      have hst := run_storeCells_new (P := P) wr 133 Z X (by rw [hXs]; exact hinfo) (by rw [hZs, hXs]) one
      have hld := run_loadCellsFrom_new (P := P) wr 133 X z hXs
      have BA : Aside (Below wr.heap.size wr (wr.alloc (.cells X 133))) := new_below _ _
      clear one hinfo
      obtain ⟨q, hq⟩ : ∃ q, q = f k x := ⟨_, rfl⟩
      rw [← hq] at hcall
      have Q : Aside (q = f k x) := hq
      clear hq
      by_cases h0 : q = 0
      · subst h0
        iterate 50 (first | go_skip | go_guarded | go_step | go_upon)
        refine wp_call_fn (g := g) (lb := lb) _ rfl _ rfl rfl [.int .i64 (k : Int), .agg X] rfl eg ?_
        refine hcall.mono ?_; rintro e w' ⟨rfl, hb'⟩; refine ⟨_, rfl, ?_⟩
        have B2 : Aside (Below wr.heap.size wr w') := then_ BA.out hb'
        clear hcall hl2 hst hld BA hb'
        repeat (first | go_skip | go_guarded | go_step | go_upon)
        trace_state
        go_roundg (n - (k + 1))
        case measure => omega
        case rel =>
          refine ⟨k + 1, by omega, by omega, by go_num, then_ BW.out B2.out, ?_⟩
          show _ = _
          rw [E.out, D.out, firstE_next Q.out.symm]
      · iterate 50 (first | go_skip | go_guarded | go_step | go_upon)
        refine wp_call_fn (g := g) (lb := lb) _ rfl _ rfl rfl [.int .i64 (k : Int), .agg X] rfl eg ?_
        refine hcall.mono ?_; rintro e w' ⟨rfl, hb'⟩; refine ⟨_, rfl, ?_⟩
        have B2 : Aside (Below wr.heap.size wr w') := then_ BA.out hb'
        clear hcall hl2 hst hld BA hb'
        repeat (first | go_skip | go_guarded | go_step | go_upon)
        trace_state
        go_ret
        refine ⟨?_, then_ BW.out B2.out⟩
        rw [R.out, E.out, D.out, firstE_hit (by rw [← Q.out]; exact h0), ← Q.out]
        rfl
    · have hlti : ¬ (k : Int) < (n : Int) := by omega
      have D : Aside (l.drop k = []) := drop_end (by have := N.out; omega)
      clear hp hcell
      repeat (first | go_skip | go_guarded | go_step | go_upon)
      go_ret
      refine ⟨?_, BW.out⟩
      rw [R.out, E.out, D.out]
      rfl


set_option maxHeartbeats 1000000 in
/-- model.checkEach. -/
theorem eachAcl (v : Value) (l : List Acl) (m : Nat) (f : Nat → Acl → Int) (g : Nat) (lb : Array Value) (eg : ∀ args w, (callFunc g args).run Tryz.prog w = .ok (.enter g args) w) (w : World) (hrow : IsRow eAcl 2 w v l) (hl : l.length ≤ 9223372036854775807) (h1 : ∀ x ∈ l, (eAcl x).toArray.all (·.oneCell') = true) (hp : Chk Tryz.prog g lb eAcl f l w) :
    Calls Tryz.prog 106 #[v, .int .i64 (m : Int), .func (.func g) #[] lb] w fun e w' => e = .returned (.int .i64 (eachE m f l)) ∧ Below w.heap.size w w' := by
  obtain ⟨a, cap, rfl, hcap, hcell⟩ := rows_open (z := 2) (by decide) hrow
  obtain ⟨n, hn⟩ : ∃ n, n = l.length := ⟨_, rfl⟩
  rw [← hn] at hl hcap hcell ⊢
  have N := hid hn
  clear hn hrow
  by_cases hmn : m < n
  · have hmi : (m : Int) < (n : Int) := by omega
    have R := hid (show eachE m f l = 7 by unfold eachE; rw [if_pos (by have := N.out; omega)])
    clear hp hcell
    go_enter Tryz.func106, Tryz.ntmps106
    repeat (first | go_skip | go_guarded | go_step | go_upon)
    go_ret
    exact ⟨ret_int R.out.symm, Below.refl _ _⟩
  have hmi : ¬ (m : Int) < (n : Int) := by omega
  have R := hid (show eachE m f l = firstE f 0 l by unfold eachE; rw [if_neg (by have := N.out; omega)])
  obtain ⟨P, hP⟩ : ∃ P, P = Tryz.prog := ⟨_, rfl⟩
  obtain ⟨z, hz⟩ : ∃ z, z = 2 := ⟨_, rfl⟩
  have mixed : P.follows .mixedOrders = true := by rw [hP]; kernel_rfl
  have FG : P.funcs[106]? = some Tryz.f106 := by rw [hP]; exact Tryz.func106
  have ts0 := Tryz.underlying3
  have as0 := Tryz.isAgg3
  have zs0 := Tryz.sizeOf3
  have ts1 := Tryz.underlying4
  have as1 := Tryz.isAgg4
  have zs1 := Tryz.sizeOf4
  have tsl := Tryz.underlying25
  have asl := Tryz.isAgg25
  have zsl := Tryz.sizeOf25
  have ael := Tryz.isAgg67
  have zel := Tryz.sizeOf67
  rw [← hz] at zel
  rw [← hP] at ts0 as0 zs0 ts1 as1 zs1 tsl asl zsl ael zel eg hp ⊢
  obtain ⟨Z, hZ, hZs⟩ : ∃ Z : Array Value, (∀ w, (zeroValue 67).run P w = .ok (.agg Z) w) ∧ Z.size = z := ⟨_, by have h := Tryz.zeroValue67; rw [← hP] at h; exact h, by rw [hz]; rfl⟩
  have hinfo : (P.info? 67).map (·.size) = some z := by rw [hP, hz]; kernel_rfl
  clear hP
  go_enter FG, Tryz.ntmps106
  repeat (first | go_skip | go_guarded | go_step | go_upon)
  go_loopg [16] n (fun gg s16 wr => ∃ k : Nat, k ≤ n ∧ n - k ≤ gg ∧ s16 = .int .i64 k ∧ Aside (Below w.heap.size w wr) ∧ Aside (firstE f 0 l = firstE f k (l.drop k)))
  case atStart => exact ⟨0, Nat.zero_le _, by omega, rfl, Below.refl _ w, rfl⟩
  case round =>
    obtain ⟨k, hk, hg, rfl, BW, E⟩ := hrel
    by_cases hlt : k < n
    · have hlti : (k : Int) < (n : Int) := by omega
      obtain ⟨x, hx⟩ := get_some (l := l) (k := k) (by have := N.out; omega)
      obtain ⟨b, off, rfl, hb, hc⟩ := hcell (by omega)
      have hl2 : Sem.run P (loadCellsFrom ⟨b, off + k * 2, none⟩ 0 2 #[]) wr = .ok (eAcl x).toArray wr :=
        ld_row (f := eAcl) (z := 2) P (fun _ => rfl) (fun j u hj => (BW.out.cell (p := ⟨b, off + j, none⟩) hb).trans (hc j u hj)) hx
      rw [← hz] at hl2
      have one := h1 x (get_mem hx)
      have hXs : (eAcl x).toArray.size = z := by rw [hz]; rfl
      have hcall := hp (wr.alloc (.cells (eAcl x).toArray 67)) k x hx ((BW.out.alloc BW.out.size _))
      have D : Aside (l.drop k = x :: l.drop (k + 1)) := drop_get hx
      clear hp hc hcell hx hz h1
      obtain ⟨X, hX⟩ : ∃ X, X = (eAcl x).toArray := ⟨_, rfl⟩
      rw [← hX] at hl2 hcall hXs one
      clear hX
      have hst := run_storeCells_new (P := P) wr 67 Z X (by rw [hXs]; exact hinfo) (by rw [hZs, hXs]) one
      have hld := run_loadCellsFrom_new (P := P) wr 67 X z hXs
      have BA : Aside (Below wr.heap.size wr (wr.alloc (.cells X 67))) := new_below _ _
      clear one hinfo
      obtain ⟨q, hq⟩ : ∃ q, q = f k x := ⟨_, rfl⟩
      rw [← hq] at hcall
      have Q : Aside (q = f k x) := hq
      clear hq
      by_cases h0 : q = 0
      · subst h0
        iterate 50 (first | go_skip | go_guarded | go_step | go_upon)
        refine wp_call_fn (g := g) (lb := lb) _ rfl _ rfl rfl [.int .i64 (k : Int), .agg X] rfl eg ?_
        refine hcall.mono ?_; rintro e w' ⟨rfl, hb'⟩; refine ⟨_, rfl, ?_⟩
        have B2 : Aside (Below wr.heap.size wr w') := then_ BA.out hb'
        clear hcall hl2 hst hld BA hb'
        repeat (first | go_skip | go_guarded | go_step | go_upon)
        trace_state
        go_roundg (n - (k + 1))
        case measure => omega
        case rel =>
          refine ⟨k + 1, by omega, by omega, by go_num, then_ BW.out B2.out, ?_⟩
          show _ = _
          rw [E.out, D.out, firstE_next Q.out.symm]
      · iterate 50 (first | go_skip | go_guarded | go_step | go_upon)
        refine wp_call_fn (g := g) (lb := lb) _ rfl _ rfl rfl [.int .i64 (k : Int), .agg X] rfl eg ?_
        refine hcall.mono ?_; rintro e w' ⟨rfl, hb'⟩; refine ⟨_, rfl, ?_⟩
        have B2 : Aside (Below wr.heap.size wr w') := then_ BA.out hb'
        clear hcall hl2 hst hld BA hb'
        repeat (first | go_skip | go_guarded | go_step | go_upon)
        trace_state
        go_ret
        refine ⟨?_, then_ BW.out B2.out⟩
        rw [R.out, E.out, D.out, firstE_hit (by rw [← Q.out]; exact h0), ← Q.out]
        rfl
    · have hlti : ¬ (k : Int) < (n : Int) := by omega
      have D : Aside (l.drop k = []) := drop_end (by have := N.out; omega)
      clear hp hcell
      repeat (first | go_skip | go_guarded | go_step | go_upon)
      go_ret
      refine ⟨?_, BW.out⟩
      rw [R.out, E.out, D.out]
      rfl


set_option maxHeartbeats 1000000 in
/-- model.checkEach. -/
theorem eachRule (v : Value) (l : List Rule) (m : Nat) (f : Nat → Rule → Int) (g : Nat) (lb : Array Value) (eg : ∀ args w, (callFunc g args).run Tryz.prog w = .ok (.enter g args) w) (w : World) (hrow : IsRow eRule 10 w v l) (hl : l.length ≤ 9223372036854775807) (h1 : ∀ x ∈ l, (eRule x).toArray.all (·.oneCell') = true) (hp : Chk Tryz.prog g lb eRule f l w) :
    Calls Tryz.prog 108 #[v, .int .i64 (m : Int), .func (.func g) #[] lb] w fun e w' => e = .returned (.int .i64 (eachE m f l)) ∧ Below w.heap.size w w' := by
  obtain ⟨a, cap, rfl, hcap, hcell⟩ := rows_open (z := 10) (by decide) hrow
  obtain ⟨n, hn⟩ : ∃ n, n = l.length := ⟨_, rfl⟩
  rw [← hn] at hl hcap hcell ⊢
  have N := hid hn
  clear hn hrow
  by_cases hmn : m < n
  · have hmi : (m : Int) < (n : Int) := by omega
    have R := hid (show eachE m f l = 7 by unfold eachE; rw [if_pos (by have := N.out; omega)])
    clear hp hcell
    go_enter Tryz.func108, Tryz.ntmps108
    repeat (first | go_skip | go_guarded | go_step | go_upon)
    go_ret
    exact ⟨ret_int R.out.symm, Below.refl _ _⟩
  have hmi : ¬ (m : Int) < (n : Int) := by omega
  have R := hid (show eachE m f l = firstE f 0 l by unfold eachE; rw [if_neg (by have := N.out; omega)])
  obtain ⟨P, hP⟩ : ∃ P, P = Tryz.prog := ⟨_, rfl⟩
  obtain ⟨z, hz⟩ : ∃ z, z = 10 := ⟨_, rfl⟩
  have mixed : P.follows .mixedOrders = true := by rw [hP]; kernel_rfl
  have FG : P.funcs[108]? = some Tryz.f108 := by rw [hP]; exact Tryz.func108
  have ts0 := Tryz.underlying3
  have as0 := Tryz.isAgg3
  have zs0 := Tryz.sizeOf3
  have ts1 := Tryz.underlying4
  have as1 := Tryz.isAgg4
  have zs1 := Tryz.sizeOf4
  have tsl := Tryz.underlying65
  have asl := Tryz.isAgg65
  have zsl := Tryz.sizeOf65
  have ael := Tryz.isAgg145
  have zel := Tryz.sizeOf145
  rw [← hz] at zel
  rw [← hP] at ts0 as0 zs0 ts1 as1 zs1 tsl asl zsl ael zel eg hp ⊢
  obtain ⟨Z, hZ, hZs⟩ : ∃ Z : Array Value, (∀ w, (zeroValue 145).run P w = .ok (.agg Z) w) ∧ Z.size = z := ⟨_, by have h := Tryz.zeroValue145; rw [← hP] at h; exact h, by rw [hz]; rfl⟩
  have hinfo : (P.info? 145).map (·.size) = some z := by rw [hP, hz]; kernel_rfl
  clear hP
  go_enter FG, Tryz.ntmps108
  repeat (first | go_skip | go_guarded | go_step | go_upon)
  go_loopg [16] n (fun gg s16 wr => ∃ k : Nat, k ≤ n ∧ n - k ≤ gg ∧ s16 = .int .i64 k ∧ Aside (Below w.heap.size w wr) ∧ Aside (firstE f 0 l = firstE f k (l.drop k)))
  case atStart => exact ⟨0, Nat.zero_le _, by omega, rfl, Below.refl _ w, rfl⟩
  case round =>
    obtain ⟨k, hk, hg, rfl, BW, E⟩ := hrel
    by_cases hlt : k < n
    · have hlti : (k : Int) < (n : Int) := by omega
      obtain ⟨x, hx⟩ := get_some (l := l) (k := k) (by have := N.out; omega)
      obtain ⟨b, off, rfl, hb, hc⟩ := hcell (by omega)
      have hl2 : Sem.run P (loadCellsFrom ⟨b, off + k * 10, none⟩ 0 10 #[]) wr = .ok (eRule x).toArray wr :=
        ld_row (f := eRule) (z := 10) P (fun _ => rfl) (fun j u hj => (BW.out.cell (p := ⟨b, off + j, none⟩) hb).trans (hc j u hj)) hx
      rw [← hz] at hl2
      have one := h1 x (get_mem hx)
      have hXs : (eRule x).toArray.size = z := by rw [hz]; rfl
      have hcall := hp (wr.alloc (.cells (eRule x).toArray 145)) k x hx ((BW.out.alloc BW.out.size _))
      have D : Aside (l.drop k = x :: l.drop (k + 1)) := drop_get hx
      clear hp hc hcell hx hz h1
      obtain ⟨X, hX⟩ : ∃ X, X = (eRule x).toArray := ⟨_, rfl⟩
      rw [← hX] at hl2 hcall hXs one
      clear hX
      have hst := run_storeCells_new (P := P) wr 145 Z X (by rw [hXs]; exact hinfo) (by rw [hZs, hXs]) one
      have hld := run_loadCellsFrom_new (P := P) wr 145 X z hXs
      have BA : Aside (Below wr.heap.size wr (wr.alloc (.cells X 145))) := new_below _ _
      clear one hinfo
      obtain ⟨q, hq⟩ : ∃ q, q = f k x := ⟨_, rfl⟩
      rw [← hq] at hcall
      have Q : Aside (q = f k x) := hq
      clear hq
      by_cases h0 : q = 0
      · subst h0
        iterate 50 (first | go_skip | go_guarded | go_step | go_upon)
        refine wp_call_fn (g := g) (lb := lb) _ rfl _ rfl rfl [.int .i64 (k : Int), .agg X] rfl eg ?_
        refine hcall.mono ?_; rintro e w' ⟨rfl, hb'⟩; refine ⟨_, rfl, ?_⟩
        have B2 : Aside (Below wr.heap.size wr w') := then_ BA.out hb'
        clear hcall hl2 hst hld BA hb'
        repeat (first | go_skip | go_guarded | go_step | go_upon)
        trace_state
        go_roundg (n - (k + 1))
        case measure => omega
        case rel =>
          refine ⟨k + 1, by omega, by omega, by go_num, then_ BW.out B2.out, ?_⟩
          show _ = _
          rw [E.out, D.out, firstE_next Q.out.symm]
      · iterate 50 (first | go_skip | go_guarded | go_step | go_upon)
        refine wp_call_fn (g := g) (lb := lb) _ rfl _ rfl rfl [.int .i64 (k : Int), .agg X] rfl eg ?_
        refine hcall.mono ?_; rintro e w' ⟨rfl, hb'⟩; refine ⟨_, rfl, ?_⟩
        have B2 : Aside (Below wr.heap.size wr w') := then_ BA.out hb'
        clear hcall hl2 hst hld BA hb'
        repeat (first | go_skip | go_guarded | go_step | go_upon)
        trace_state
        go_ret
        refine ⟨?_, then_ BW.out B2.out⟩
        rw [R.out, E.out, D.out, firstE_hit (by rw [← Q.out]; exact h0), ← Q.out]
        rfl
    · have hlti : ¬ (k : Int) < (n : Int) := by omega
      have D : Aside (l.drop k = []) := drop_end (by have := N.out; omega)
      clear hp hcell
      repeat (first | go_skip | go_guarded | go_step | go_upon)
      go_ret
      refine ⟨?_, BW.out⟩
      rw [R.out, E.out, D.out]
      rfl


set_option maxHeartbeats 1000000 in
/-- model.checkEach. -/
theorem eachTran (v : Value) (l : List Tran) (m : Nat) (f : Nat → Tran → Int) (g : Nat) (lb : Array Value) (eg : ∀ args w, (callFunc g args).run Tryz.prog w = .ok (.enter g args) w) (w : World) (hrow : IsRow eTran 9 w v l) (hl : l.length ≤ 9223372036854775807) (h1 : ∀ x ∈ l, (eTran x).toArray.all (·.oneCell') = true) (hp : Chk Tryz.prog g lb eTran f l w) :
    Calls Tryz.prog 111 #[v, .int .i64 (m : Int), .func (.func g) #[] lb] w fun e w' => e = .returned (.int .i64 (eachE m f l)) ∧ Below w.heap.size w w' := by
  obtain ⟨a, cap, rfl, hcap, hcell⟩ := rows_open (z := 9) (by decide) hrow
  obtain ⟨n, hn⟩ : ∃ n, n = l.length := ⟨_, rfl⟩
  rw [← hn] at hl hcap hcell ⊢
  have N := hid hn
  clear hn hrow
  by_cases hmn : m < n
  · have hmi : (m : Int) < (n : Int) := by omega
    have R := hid (show eachE m f l = 7 by unfold eachE; rw [if_pos (by have := N.out; omega)])
    clear hp hcell
    go_enter Tryz.func111, Tryz.ntmps111
    repeat (first | go_skip | go_guarded | go_step | go_upon)
    go_ret
    exact ⟨ret_int R.out.symm, Below.refl _ _⟩
  have hmi : ¬ (m : Int) < (n : Int) := by omega
  have R := hid (show eachE m f l = firstE f 0 l by unfold eachE; rw [if_neg (by have := N.out; omega)])
  obtain ⟨P, hP⟩ : ∃ P, P = Tryz.prog := ⟨_, rfl⟩
  obtain ⟨z, hz⟩ : ∃ z, z = 9 := ⟨_, rfl⟩
  have mixed : P.follows .mixedOrders = true := by rw [hP]; kernel_rfl
  have FG : P.funcs[111]? = some Tryz.f111 := by rw [hP]; exact Tryz.func111
  have ts0 := Tryz.underlying3
  have as0 := Tryz.isAgg3
  have zs0 := Tryz.sizeOf3
  have ts1 := Tryz.underlying4
  have as1 := Tryz.isAgg4
  have zs1 := Tryz.sizeOf4
  have tsl := Tryz.underlying26
  have asl := Tryz.isAgg26
  have zsl := Tryz.sizeOf26
  have ael := Tryz.isAgg95
  have zel := Tryz.sizeOf95
  rw [← hz] at zel
  rw [← hP] at ts0 as0 zs0 ts1 as1 zs1 tsl asl zsl ael zel eg hp ⊢
  obtain ⟨Z, hZ, hZs⟩ : ∃ Z : Array Value, (∀ w, (zeroValue 95).run P w = .ok (.agg Z) w) ∧ Z.size = z := ⟨_, by have h := Tryz.zeroValue95; rw [← hP] at h; exact h, by rw [hz]; rfl⟩
  have hinfo : (P.info? 95).map (·.size) = some z := by rw [hP, hz]; kernel_rfl
  clear hP
  go_enter FG, Tryz.ntmps111
  repeat (first | go_skip | go_guarded | go_step | go_upon)
  go_loopg [16] n (fun gg s16 wr => ∃ k : Nat, k ≤ n ∧ n - k ≤ gg ∧ s16 = .int .i64 k ∧ Aside (Below w.heap.size w wr) ∧ Aside (firstE f 0 l = firstE f k (l.drop k)))
  case atStart => exact ⟨0, Nat.zero_le _, by omega, rfl, Below.refl _ w, rfl⟩
  case round =>
    obtain ⟨k, hk, hg, rfl, BW, E⟩ := hrel
    by_cases hlt : k < n
    · have hlti : (k : Int) < (n : Int) := by omega
      obtain ⟨x, hx⟩ := get_some (l := l) (k := k) (by have := N.out; omega)
      obtain ⟨b, off, rfl, hb, hc⟩ := hcell (by omega)
      have hl2 : Sem.run P (loadCellsFrom ⟨b, off + k * 9, none⟩ 0 9 #[]) wr = .ok (eTran x).toArray wr :=
        ld_row (f := eTran) (z := 9) P (fun _ => rfl) (fun j u hj => (BW.out.cell (p := ⟨b, off + j, none⟩) hb).trans (hc j u hj)) hx
      rw [← hz] at hl2
      have one := h1 x (get_mem hx)
      have hXs : (eTran x).toArray.size = z := by rw [hz]; rfl
      have hcall := hp (wr.alloc (.cells (eTran x).toArray 95)) k x hx ((BW.out.alloc BW.out.size _))
      have D : Aside (l.drop k = x :: l.drop (k + 1)) := drop_get hx
      clear hp hc hcell hx hz h1
      obtain ⟨X, hX⟩ : ∃ X, X = (eTran x).toArray := ⟨_, rfl⟩
      rw [← hX] at hl2 hcall hXs one
      clear hX
      have hst := run_storeCells_new (P := P) wr 95 Z X (by rw [hXs]; exact hinfo) (by rw [hZs, hXs]) one
      have hld := run_loadCellsFrom_new (P := P) wr 95 X z hXs
      have BA : Aside (Below wr.heap.size wr (wr.alloc (.cells X 95))) := new_below _ _
      clear one hinfo
      obtain ⟨q, hq⟩ : ∃ q, q = f k x := ⟨_, rfl⟩
      rw [← hq] at hcall
      have Q : Aside (q = f k x) := hq
      clear hq
      by_cases h0 : q = 0
      · subst h0
        iterate 50 (first | go_skip | go_guarded | go_step | go_upon)
        refine wp_call_fn (g := g) (lb := lb) _ rfl _ rfl rfl [.int .i64 (k : Int), .agg X] rfl eg ?_
        refine hcall.mono ?_; rintro e w' ⟨rfl, hb'⟩; refine ⟨_, rfl, ?_⟩
        have B2 : Aside (Below wr.heap.size wr w') := then_ BA.out hb'
        clear hcall hl2 hst hld BA hb'
        repeat (first | go_skip | go_guarded | go_step | go_upon)
        trace_state
        go_roundg (n - (k + 1))
        case measure => omega
        case rel =>
          refine ⟨k + 1, by omega, by omega, by go_num, then_ BW.out B2.out, ?_⟩
          show _ = _
          rw [E.out, D.out, firstE_next Q.out.symm]
      · iterate 50 (first | go_skip | go_guarded | go_step | go_upon)
        refine wp_call_fn (g := g) (lb := lb) _ rfl _ rfl rfl [.int .i64 (k : Int), .agg X] rfl eg ?_
        refine hcall.mono ?_; rintro e w' ⟨rfl, hb'⟩; refine ⟨_, rfl, ?_⟩
        have B2 : Aside (Below wr.heap.size wr w') := then_ BA.out hb'
        clear hcall hl2 hst hld BA hb'
        repeat (first | go_skip | go_guarded | go_step | go_upon)
        trace_state
        go_ret
        refine ⟨?_, then_ BW.out B2.out⟩
        rw [R.out, E.out, D.out, firstE_hit (by rw [← Q.out]; exact h0), ← Q.out]
        rfl
    · have hlti : ¬ (k : Int) < (n : Int) := by omega
      have D : Aside (l.drop k = []) := drop_end (by have := N.out; omega)
      clear hp hcell
      repeat (first | go_skip | go_guarded | go_step | go_upon)
      go_ret
      refine ⟨?_, BW.out⟩
      rw [R.out, E.out, D.out]
      rfl


set_option maxHeartbeats 1000000 in
/-- model.checkEach. -/
theorem eachStc (v : Value) (l : List Stc) (m : Nat) (f : Nat → Stc → Int) (g : Nat) (lb : Array Value) (eg : ∀ args w, (callFunc g args).run Tryz.prog w = .ok (.enter g args) w) (w : World) (hrow : IsRow eStc 7 w v l) (hl : l.length ≤ 9223372036854775807) (h1 : ∀ x ∈ l, (eStc x).toArray.all (·.oneCell') = true) (hp : Chk Tryz.prog g lb eStc f l w) :
    Calls Tryz.prog 115 #[v, .int .i64 (m : Int), .func (.func g) #[] lb] w fun e w' => e = .returned (.int .i64 (eachE m f l)) ∧ Below w.heap.size w w' := by
  obtain ⟨a, cap, rfl, hcap, hcell⟩ := rows_open (z := 7) (by decide) hrow
  obtain ⟨n, hn⟩ : ∃ n, n = l.length := ⟨_, rfl⟩
  rw [← hn] at hl hcap hcell ⊢
  have N := hid hn
  clear hn hrow
  by_cases hmn : m < n
  · have hmi : (m : Int) < (n : Int) := by omega
    have R := hid (show eachE m f l = 7 by unfold eachE; rw [if_pos (by have := N.out; omega)])
    clear hp hcell
    go_enter Tryz.func115, Tryz.ntmps115
    repeat (first | go_skip | go_guarded | go_step | go_upon)
    go_ret
    exact ⟨ret_int R.out.symm, Below.refl _ _⟩
  have hmi : ¬ (m : Int) < (n : Int) := by omega
  have R := hid (show eachE m f l = firstE f 0 l by unfold eachE; rw [if_neg (by have := N.out; omega)])
  obtain ⟨P, hP⟩ : ∃ P, P = Tryz.prog := ⟨_, rfl⟩
  obtain ⟨z, hz⟩ : ∃ z, z = 7 := ⟨_, rfl⟩
  have mixed : P.follows .mixedOrders = true := by rw [hP]; kernel_rfl
  have FG : P.funcs[115]? = some Tryz.f115 := by rw [hP]; exact Tryz.func115
  have ts0 := Tryz.underlying3
  have as0 := Tryz.isAgg3
  have zs0 := Tryz.sizeOf3
  have ts1 := Tryz.underlying4
  have as1 := Tryz.isAgg4
  have zs1 := Tryz.sizeOf4
  have tsl := Tryz.underlying27
  have asl := Tryz.isAgg27
  have zsl := Tryz.sizeOf27
  have ael := Tryz.isAgg59
  have zel := Tryz.sizeOf59
  rw [← hz] at zel
  rw [← hP] at ts0 as0 zs0 ts1 as1 zs1 tsl asl zsl ael zel eg hp ⊢
  obtain ⟨Z, hZ, hZs⟩ : ∃ Z : Array Value, (∀ w, (zeroValue 59).run P w = .ok (.agg Z) w) ∧ Z.size = z := ⟨_, by have h := Tryz.zeroValue59; rw [← hP] at h; exact h, by rw [hz]; rfl⟩
  have hinfo : (P.info? 59).map (·.size) = some z := by rw [hP, hz]; kernel_rfl
  clear hP
  go_enter FG, Tryz.ntmps115
  repeat (first | go_skip | go_guarded | go_step | go_upon)
  go_loopg [16] n (fun gg s16 wr => ∃ k : Nat, k ≤ n ∧ n - k ≤ gg ∧ s16 = .int .i64 k ∧ Aside (Below w.heap.size w wr) ∧ Aside (firstE f 0 l = firstE f k (l.drop k)))
  case atStart => exact ⟨0, Nat.zero_le _, by omega, rfl, Below.refl _ w, rfl⟩
  case round =>
    obtain ⟨k, hk, hg, rfl, BW, E⟩ := hrel
    by_cases hlt : k < n
    · have hlti : (k : Int) < (n : Int) := by omega
      obtain ⟨x, hx⟩ := get_some (l := l) (k := k) (by have := N.out; omega)
      obtain ⟨b, off, rfl, hb, hc⟩ := hcell (by omega)
      have hl2 : Sem.run P (loadCellsFrom ⟨b, off + k * 7, none⟩ 0 7 #[]) wr = .ok (eStc x).toArray wr :=
        ld_row (f := eStc) (z := 7) P (fun _ => rfl) (fun j u hj => (BW.out.cell (p := ⟨b, off + j, none⟩) hb).trans (hc j u hj)) hx
      rw [← hz] at hl2
      have one := h1 x (get_mem hx)
      have hXs : (eStc x).toArray.size = z := by rw [hz]; rfl
      have hcall := hp (wr.alloc (.cells (eStc x).toArray 59)) k x hx ((BW.out.alloc BW.out.size _))
      have D : Aside (l.drop k = x :: l.drop (k + 1)) := drop_get hx
      clear hp hc hcell hx hz h1
      obtain ⟨X, hX⟩ : ∃ X, X = (eStc x).toArray := ⟨_, rfl⟩
      rw [← hX] at hl2 hcall hXs one
      clear hX
      have hst := run_storeCells_new (P := P) wr 59 Z X (by rw [hXs]; exact hinfo) (by rw [hZs, hXs]) one
      have hld := run_loadCellsFrom_new (P := P) wr 59 X z hXs
      have BA : Aside (Below wr.heap.size wr (wr.alloc (.cells X 59))) := new_below _ _
      clear one hinfo
      obtain ⟨q, hq⟩ : ∃ q, q = f k x := ⟨_, rfl⟩
      rw [← hq] at hcall
      have Q : Aside (q = f k x) := hq
      clear hq
      by_cases h0 : q = 0
      · subst h0
        iterate 50 (first | go_skip | go_guarded | go_step | go_upon)
        refine wp_call_fn (g := g) (lb := lb) _ rfl _ rfl rfl [.int .i64 (k : Int), .agg X] rfl eg ?_
        refine hcall.mono ?_; rintro e w' ⟨rfl, hb'⟩; refine ⟨_, rfl, ?_⟩
        have B2 : Aside (Below wr.heap.size wr w') := then_ BA.out hb'
        clear hcall hl2 hst hld BA hb'
        repeat (first | go_skip | go_guarded | go_step | go_upon)
        trace_state
        go_roundg (n - (k + 1))
        case measure => omega
        case rel =>
          refine ⟨k + 1, by omega, by omega, by go_num, then_ BW.out B2.out, ?_⟩
          show _ = _
          rw [E.out, D.out, firstE_next Q.out.symm]
      · iterate 50 (first | go_skip | go_guarded | go_step | go_upon)
        refine wp_call_fn (g := g) (lb := lb) _ rfl _ rfl rfl [.int .i64 (k : Int), .agg X] rfl eg ?_
        refine hcall.mono ?_; rintro e w' ⟨rfl, hb'⟩; refine ⟨_, rfl, ?_⟩
        have B2 : Aside (Below wr.heap.size wr w') := then_ BA.out hb'
        clear hcall hl2 hst hld BA hb'
        repeat (first | go_skip | go_guarded | go_step | go_upon)
        trace_state
        go_ret
        refine ⟨?_, then_ BW.out B2.out⟩
        rw [R.out, E.out, D.out, firstE_hit (by rw [← Q.out]; exact h0), ← Q.out]
        rfl
    · have hlti : ¬ (k : Int) < (n : Int) := by omega
      have D : Aside (l.drop k = []) := drop_end (by have := N.out; omega)
      clear hp hcell
      repeat (first | go_skip | go_guarded | go_step | go_upon)
      go_ret
      refine ⟨?_, BW.out⟩
      rw [R.out, E.out, D.out]
      rfl


set_option maxHeartbeats 1000000 in
/-- model.checkEach. -/
theorem eachRed (v : Value) (l : List Red) (m : Nat) (f : Nat → Red → Int) (g : Nat) (lb : Array Value) (eg : ∀ args w, (callFunc g args).run Tryz.prog w = .ok (.enter g args) w) (w : World) (hrow : IsRow eRed 5 w v l) (hl : l.length ≤ 9223372036854775807) (h1 : ∀ x ∈ l, (eRed x).toArray.all (·.oneCell') = true) (hp : Chk Tryz.prog g lb eRed f l w) :
    Calls Tryz.prog 166 #[v, .int .i64 (m : Int), .func (.func g) #[] lb] w fun e w' => e = .returned (.int .i64 (eachE m f l)) ∧ Below w.heap.size w w' := by
  obtain ⟨a, cap, rfl, hcap, hcell⟩ := rows_open (z := 5) (by decide) hrow
  obtain ⟨n, hn⟩ : ∃ n, n = l.length := ⟨_, rfl⟩
  rw [← hn] at hl hcap hcell ⊢
  have N := hid hn
  clear hn hrow
  by_cases hmn : m < n
  · have hmi : (m : Int) < (n : Int) := by omega
    have R := hid (show eachE m f l = 7 by unfold eachE; rw [if_pos (by have := N.out; omega)])
    clear hp hcell
    go_enter Tryz.func166, Tryz.ntmps166
    repeat (first | go_skip | go_guarded | go_step | go_upon)
    go_ret
    exact ⟨ret_int R.out.symm, Below.refl _ _⟩
  have hmi : ¬ (m : Int) < (n : Int) := by omega
  have R := hid (show eachE m f l = firstE f 0 l by unfold eachE; rw [if_neg (by have := N.out; omega)])
  obtain ⟨P, hP⟩ : ∃ P, P = Tryz.prog := ⟨_, rfl⟩
  obtain ⟨z, hz⟩ : ∃ z, z = 5 := ⟨_, rfl⟩
  have mixed : P.follows .mixedOrders = true := by rw [hP]; kernel_rfl
  have FG : P.funcs[166]? = some Tryz.f166 := by rw [hP]; exact Tryz.func166
  have ts0 := Tryz.underlying3
  have as0 := Tryz.isAgg3
  have zs0 := Tryz.sizeOf3
  have ts1 := Tryz.underlying4
  have as1 := Tryz.isAgg4
  have zs1 := Tryz.sizeOf4
  have tsl := Tryz.underlying29
  have asl := Tryz.isAgg29
  have zsl := Tryz.sizeOf29
  have ael := Tryz.isAgg72
  have zel := Tryz.sizeOf72
  rw [← hz] at zel
  rw [← hP] at ts0 as0 zs0 ts1 as1 zs1 tsl asl zsl ael zel eg hp ⊢
  obtain ⟨Z, hZ, hZs⟩ : ∃ Z : Array Value, (∀ w, (zeroValue 72).run P w = .ok (.agg Z) w) ∧ Z.size = z := ⟨_, by have h := Tryz.zeroValue72; rw [← hP] at h; exact h, by rw [hz]; rfl⟩
  have hinfo : (P.info? 72).map (·.size) = some z := by rw [hP, hz]; kernel_rfl
  clear hP
  go_enter FG, Tryz.ntmps166
  repeat (first | go_skip | go_guarded | go_step | go_upon)
  go_loopg [16] n (fun gg s16 wr => ∃ k : Nat, k ≤ n ∧ n - k ≤ gg ∧ s16 = .int .i64 k ∧ Aside (Below w.heap.size w wr) ∧ Aside (firstE f 0 l = firstE f k (l.drop k)))
  case atStart => exact ⟨0, Nat.zero_le _, by omega, rfl, Below.refl _ w, rfl⟩
  case round =>
    obtain ⟨k, hk, hg, rfl, BW, E⟩ := hrel
    by_cases hlt : k < n
    · have hlti : (k : Int) < (n : Int) := by omega
      obtain ⟨x, hx⟩ := get_some (l := l) (k := k) (by have := N.out; omega)
      obtain ⟨b, off, rfl, hb, hc⟩ := hcell (by omega)
      have hl2 : Sem.run P (loadCellsFrom ⟨b, off + k * 5, none⟩ 0 5 #[]) wr = .ok (eRed x).toArray wr :=
        ld_row (f := eRed) (z := 5) P (fun _ => rfl) (fun j u hj => (BW.out.cell (p := ⟨b, off + j, none⟩) hb).trans (hc j u hj)) hx
      rw [← hz] at hl2
      have one := h1 x (get_mem hx)
      have hXs : (eRed x).toArray.size = z := by rw [hz]; rfl
      have hcall := hp (wr.alloc (.cells (eRed x).toArray 72)) k x hx ((BW.out.alloc BW.out.size _))
      have D : Aside (l.drop k = x :: l.drop (k + 1)) := drop_get hx
      clear hp hc hcell hx hz h1
      obtain ⟨X, hX⟩ : ∃ X, X = (eRed x).toArray := ⟨_, rfl⟩
      rw [← hX] at hl2 hcall hXs one
      clear hX
      have hst := run_storeCells_new (P := P) wr 72 Z X (by rw [hXs]; exact hinfo) (by rw [hZs, hXs]) one
      have hld := run_loadCellsFrom_new (P := P) wr 72 X z hXs
      have BA : Aside (Below wr.heap.size wr (wr.alloc (.cells X 72))) := new_below _ _
      clear one hinfo
      obtain ⟨q, hq⟩ : ∃ q, q = f k x := ⟨_, rfl⟩
      rw [← hq] at hcall
      have Q : Aside (q = f k x) := hq
      clear hq
      by_cases h0 : q = 0
      · subst h0
        iterate 50 (first | go_skip | go_guarded | go_step | go_upon)
        refine wp_call_fn (g := g) (lb := lb) _ rfl _ rfl rfl [.int .i64 (k : Int), .agg X] rfl eg ?_
        refine hcall.mono ?_; rintro e w' ⟨rfl, hb'⟩; refine ⟨_, rfl, ?_⟩
        have B2 : Aside (Below wr.heap.size wr w') := then_ BA.out hb'
        clear hcall hl2 hst hld BA hb'
        repeat (first | go_skip | go_guarded | go_step | go_upon)
        trace_state
        go_roundg (n - (k + 1))
        case measure => omega
        case rel =>
          refine ⟨k + 1, by omega, by omega, by go_num, then_ BW.out B2.out, ?_⟩
          show _ = _
          rw [E.out, D.out, firstE_next Q.out.symm]
      · iterate 50 (first | go_skip | go_guarded | go_step | go_upon)
        refine wp_call_fn (g := g) (lb := lb) _ rfl _ rfl rfl [.int .i64 (k : Int), .agg X] rfl eg ?_
        refine hcall.mono ?_; rintro e w' ⟨rfl, hb'⟩; refine ⟨_, rfl, ?_⟩
        have B2 : Aside (Below wr.heap.size wr w') := then_ BA.out hb'
        clear hcall hl2 hst hld BA hb'
        repeat (first | go_skip | go_guarded | go_step | go_upon)
        trace_state
        go_ret
        refine ⟨?_, then_ BW.out B2.out⟩
        rw [R.out, E.out, D.out, firstE_hit (by rw [← Q.out]; exact h0), ← Q.out]
        rfl
    · have hlti : ¬ (k : Int) < (n : Int) := by omega
      have D : Aside (l.drop k = []) := drop_end (by have := N.out; omega)
      clear hp hcell
      repeat (first | go_skip | go_guarded | go_step | go_upon)
      go_ret
      refine ⟨?_, BW.out⟩
      rw [R.out, E.out, D.out]
      rfl


set_option maxHeartbeats 1000000 in
/-- model.checkEach. -/
theorem eachRng (v : Value) (l : List Rng) (m : Nat) (f : Nat → Rng → Int) (g : Nat) (lb : Array Value) (eg : ∀ args w, (callFunc g args).run Tryz.prog w = .ok (.enter g args) w) (w : World) (hrow : IsRow eRng 3 w v l) (hl : l.length ≤ 9223372036854775807) (h1 : ∀ x ∈ l, (eRng x).toArray.all (·.oneCell') = true) (hp : Chk Tryz.prog g lb eRng f l w) :
    Calls Tryz.prog 162 #[v, .int .i64 (m : Int), .func (.func g) #[] lb] w fun e w' => e = .returned (.int .i64 (eachE m f l)) ∧ Below w.heap.size w w' := by
  obtain ⟨a, cap, rfl, hcap, hcell⟩ := rows_open (z := 3) (by decide) hrow
  obtain ⟨n, hn⟩ : ∃ n, n = l.length := ⟨_, rfl⟩
  rw [← hn] at hl hcap hcell ⊢
  have N := hid hn
  clear hn hrow
  by_cases hmn : m < n
  · have hmi : (m : Int) < (n : Int) := by omega
    have R := hid (show eachE m f l = 7 by unfold eachE; rw [if_pos (by have := N.out; omega)])
    clear hp hcell
    go_enter Tryz.func162, Tryz.ntmps162
    repeat (first | go_skip | go_guarded | go_step | go_upon)
    go_ret
    exact ⟨ret_int R.out.symm, Below.refl _ _⟩
  have hmi : ¬ (m : Int) < (n : Int) := by omega
  have R := hid (show eachE m f l = firstE f 0 l by unfold eachE; rw [if_neg (by have := N.out; omega)])
  obtain ⟨P, hP⟩ : ∃ P, P = Tryz.prog := ⟨_, rfl⟩
  obtain ⟨z, hz⟩ : ∃ z, z = 3 := ⟨_, rfl⟩
  have mixed : P.follows .mixedOrders = true := by rw [hP]; kernel_rfl
  have FG : P.funcs[162]? = some Tryz.f162 := by rw [hP]; exact Tryz.func162
  have ts0 := Tryz.underlying3
  have as0 := Tryz.isAgg3
  have zs0 := Tryz.sizeOf3
  have ts1 := Tryz.underlying4
  have as1 := Tryz.isAgg4
  have zs1 := Tryz.sizeOf4
  have tsl := Tryz.underlying28
  have asl := Tryz.isAgg28
  have zsl := Tryz.sizeOf28
  have ael := Tryz.isAgg168
  have zel := Tryz.sizeOf168
  rw [← hz] at zel
  rw [← hP] at ts0 as0 zs0 ts1 as1 zs1 tsl asl zsl ael zel eg hp ⊢
  obtain ⟨Z, hZ, hZs⟩ : ∃ Z : Array Value, (∀ w, (zeroValue 168).run P w = .ok (.agg Z) w) ∧ Z.size = z := ⟨_, by have h := Tryz.zeroValue168; rw [← hP] at h; exact h, by rw [hz]; rfl⟩
  have hinfo : (P.info? 168).map (·.size) = some z := by rw [hP, hz]; kernel_rfl
  clear hP
  go_enter FG, Tryz.ntmps162
  repeat (first | go_skip | go_guarded | go_step | go_upon)
  go_loopg [16] n (fun gg s16 wr => ∃ k : Nat, k ≤ n ∧ n - k ≤ gg ∧ s16 = .int .i64 k ∧ Aside (Below w.heap.size w wr) ∧ Aside (firstE f 0 l = firstE f k (l.drop k)))
  case atStart => exact ⟨0, Nat.zero_le _, by omega, rfl, Below.refl _ w, rfl⟩
  case round =>
    obtain ⟨k, hk, hg, rfl, BW, E⟩ := hrel
    by_cases hlt : k < n
    · have hlti : (k : Int) < (n : Int) := by omega
      obtain ⟨x, hx⟩ := get_some (l := l) (k := k) (by have := N.out; omega)
      obtain ⟨b, off, rfl, hb, hc⟩ := hcell (by omega)
      have hl2 : Sem.run P (loadCellsFrom ⟨b, off + k * 3, none⟩ 0 3 #[]) wr = .ok (eRng x).toArray wr :=
        ld_row (f := eRng) (z := 3) P (fun _ => rfl) (fun j u hj => (BW.out.cell (p := ⟨b, off + j, none⟩) hb).trans (hc j u hj)) hx
      rw [← hz] at hl2
      have one := h1 x (get_mem hx)
      have hXs : (eRng x).toArray.size = z := by rw [hz]; rfl
      have hcall := hp (wr.alloc (.cells (eRng x).toArray 168)) k x hx ((BW.out.alloc BW.out.size _))
      have D : Aside (l.drop k = x :: l.drop (k + 1)) := drop_get hx
      clear hp hc hcell hx hz h1
      obtain ⟨X, hX⟩ : ∃ X, X = (eRng x).toArray := ⟨_, rfl⟩
      rw [← hX] at hl2 hcall hXs one
      clear hX
      have hst := run_storeCells_new (P := P) wr 168 Z X (by rw [hXs]; exact hinfo) (by rw [hZs, hXs]) one
      have hld := run_loadCellsFrom_new (P := P) wr 168 X z hXs
      have BA : Aside (Below wr.heap.size wr (wr.alloc (.cells X 168))) := new_below _ _
      clear one hinfo
      obtain ⟨q, hq⟩ : ∃ q, q = f k x := ⟨_, rfl⟩
      rw [← hq] at hcall
      have Q : Aside (q = f k x) := hq
      clear hq
      by_cases h0 : q = 0
      · subst h0
        iterate 50 (first | go_skip | go_guarded | go_step | go_upon)
        refine wp_call_fn (g := g) (lb := lb) _ rfl _ rfl rfl [.int .i64 (k : Int), .agg X] rfl eg ?_
        refine hcall.mono ?_; rintro e w' ⟨rfl, hb'⟩; refine ⟨_, rfl, ?_⟩
        have B2 : Aside (Below wr.heap.size wr w') := then_ BA.out hb'
        clear hcall hl2 hst hld BA hb'
        repeat (first | go_skip | go_guarded | go_step | go_upon)
        trace_state
        go_roundg (n - (k + 1))
        case measure => omega
        case rel =>
          refine ⟨k + 1, by omega, by omega, by go_num, then_ BW.out B2.out, ?_⟩
          show _ = _
          rw [E.out, D.out, firstE_next Q.out.symm]
      · iterate 50 (first | go_skip | go_guarded | go_step | go_upon)
        refine wp_call_fn (g := g) (lb := lb) _ rfl _ rfl rfl [.int .i64 (k : Int), .agg X] rfl eg ?_
        refine hcall.mono ?_; rintro e w' ⟨rfl, hb'⟩; refine ⟨_, rfl, ?_⟩
        have B2 : Aside (Below wr.heap.size wr w') := then_ BA.out hb'
        clear hcall hl2 hst hld BA hb'
        repeat (first | go_skip | go_guarded | go_step | go_upon)
        trace_state
        go_ret
        refine ⟨?_, then_ BW.out B2.out⟩
        rw [R.out, E.out, D.out, firstE_hit (by rw [← Q.out]; exact h0), ← Q.out]
        rfl
    · have hlti : ¬ (k : Int) < (n : Int) := by omega
      have D : Aside (l.drop k = []) := drop_end (by have := N.out; omega)
      clear hp hcell
      repeat (first | go_skip | go_guarded | go_step | go_upon)
      go_ret
      refine ⟨?_, BW.out⟩
      rw [R.out, E.out, D.out]
      rfl


set_option maxHeartbeats 1000000 in
/-- model.checkEach. -/
theorem eachNbr (v : Value) (l : List Nbr) (m : Nat) (f : Nat → Nbr → Int) (g : Nat) (lb : Array Value) (eg : ∀ args w, (callFunc g args).run Tryz.prog w = .ok (.enter g args) w) (w : World) (hrow : IsRow eNbr 4 w v l) (hl : l.length ≤ 9223372036854775807) (h1 : ∀ x ∈ l, (eNbr x).toArray.all (·.oneCell') = true) (hp : Chk Tryz.prog g lb eNbr f l w) :
    Calls Tryz.prog 171 #[v, .int .i64 (m : Int), .func (.func g) #[] lb] w fun e w' => e = .returned (.int .i64 (eachE m f l)) ∧ Below w.heap.size w w' := by
  obtain ⟨a, cap, rfl, hcap, hcell⟩ := rows_open (z := 4) (by decide) hrow
  obtain ⟨n, hn⟩ : ∃ n, n = l.length := ⟨_, rfl⟩
  rw [← hn] at hl hcap hcell ⊢
  have N := hid hn
  clear hn hrow
  by_cases hmn : m < n
  · have hmi : (m : Int) < (n : Int) := by omega
    have R := hid (show eachE m f l = 7 by unfold eachE; rw [if_pos (by have := N.out; omega)])
    clear hp hcell
    go_enter Tryz.func171, Tryz.ntmps171
    repeat (first | go_skip | go_guarded | go_step | go_upon)
    go_ret
    exact ⟨ret_int R.out.symm, Below.refl _ _⟩
  have hmi : ¬ (m : Int) < (n : Int) := by omega
  have R := hid (show eachE m f l = firstE f 0 l by unfold eachE; rw [if_neg (by have := N.out; omega)])
  obtain ⟨P, hP⟩ : ∃ P, P = Tryz.prog := ⟨_, rfl⟩
  obtain ⟨z, hz⟩ : ∃ z, z = 4 := ⟨_, rfl⟩
  have mixed : P.follows .mixedOrders = true := by rw [hP]; kernel_rfl
  have FG : P.funcs[171]? = some Tryz.f171 := by rw [hP]; exact Tryz.func171
  have ts0 := Tryz.underlying3
  have as0 := Tryz.isAgg3
  have zs0 := Tryz.sizeOf3
  have ts1 := Tryz.underlying4
  have as1 := Tryz.isAgg4
  have zs1 := Tryz.sizeOf4
  have tsl := Tryz.underlying34
  have asl := Tryz.isAgg34
  have zsl := Tryz.sizeOf34
  have ael := Tryz.isAgg172
  have zel := Tryz.sizeOf172
  rw [← hz] at zel
  rw [← hP] at ts0 as0 zs0 ts1 as1 zs1 tsl asl zsl ael zel eg hp ⊢
  obtain ⟨Z, hZ, hZs⟩ : ∃ Z : Array Value, (∀ w, (zeroValue 172).run P w = .ok (.agg Z) w) ∧ Z.size = z := ⟨_, by have h := Tryz.zeroValue172; rw [← hP] at h; exact h, by rw [hz]; rfl⟩
  have hinfo : (P.info? 172).map (·.size) = some z := by rw [hP, hz]; kernel_rfl
  clear hP
  go_enter FG, Tryz.ntmps171
  repeat (first | go_skip | go_guarded | go_step | go_upon)
  go_loopg [16] n (fun gg s16 wr => ∃ k : Nat, k ≤ n ∧ n - k ≤ gg ∧ s16 = .int .i64 k ∧ Aside (Below w.heap.size w wr) ∧ Aside (firstE f 0 l = firstE f k (l.drop k)))
  case atStart => exact ⟨0, Nat.zero_le _, by omega, rfl, Below.refl _ w, rfl⟩
  case round =>
    obtain ⟨k, hk, hg, rfl, BW, E⟩ := hrel
    by_cases hlt : k < n
    · have hlti : (k : Int) < (n : Int) := by omega
      obtain ⟨x, hx⟩ := get_some (l := l) (k := k) (by have := N.out; omega)
      obtain ⟨b, off, rfl, hb, hc⟩ := hcell (by omega)
      have hl2 : Sem.run P (loadCellsFrom ⟨b, off + k * 4, none⟩ 0 4 #[]) wr = .ok (eNbr x).toArray wr :=
        ld_row (f := eNbr) (z := 4) P (fun _ => rfl) (fun j u hj => (BW.out.cell (p := ⟨b, off + j, none⟩) hb).trans (hc j u hj)) hx
      rw [← hz] at hl2
      have one := h1 x (get_mem hx)
      have hXs : (eNbr x).toArray.size = z := by rw [hz]; rfl
      have hcall := hp (wr.alloc (.cells (eNbr x).toArray 172)) k x hx ((BW.out.alloc BW.out.size _))
      have D : Aside (l.drop k = x :: l.drop (k + 1)) := drop_get hx
      clear hp hc hcell hx hz h1
      obtain ⟨X, hX⟩ : ∃ X, X = (eNbr x).toArray := ⟨_, rfl⟩
      rw [← hX] at hl2 hcall hXs one
      clear hX
      have hst := run_storeCells_new (P := P) wr 172 Z X (by rw [hXs]; exact hinfo) (by rw [hZs, hXs]) one
      have hld := run_loadCellsFrom_new (P := P) wr 172 X z hXs
      have BA : Aside (Below wr.heap.size wr (wr.alloc (.cells X 172))) := new_below _ _
      clear one hinfo
      obtain ⟨q, hq⟩ : ∃ q, q = f k x := ⟨_, rfl⟩
      rw [← hq] at hcall
      have Q : Aside (q = f k x) := hq
      clear hq
      by_cases h0 : q = 0
      · subst h0
        iterate 50 (first | go_skip | go_guarded | go_step | go_upon)
        refine wp_call_fn (g := g) (lb := lb) _ rfl _ rfl rfl [.int .i64 (k : Int), .agg X] rfl eg ?_
        refine hcall.mono ?_; rintro e w' ⟨rfl, hb'⟩; refine ⟨_, rfl, ?_⟩
        have B2 : Aside (Below wr.heap.size wr w') := then_ BA.out hb'
        clear hcall hl2 hst hld BA hb'
        repeat (first | go_skip | go_guarded | go_step | go_upon)
        trace_state
        go_roundg (n - (k + 1))
        case measure => omega
        case rel =>
          refine ⟨k + 1, by omega, by omega, by go_num, then_ BW.out B2.out, ?_⟩
          show _ = _
          rw [E.out, D.out, firstE_next Q.out.symm]
      · iterate 50 (first | go_skip | go_guarded | go_step | go_upon)
        refine wp_call_fn (g := g) (lb := lb) _ rfl _ rfl rfl [.int .i64 (k : Int), .agg X] rfl eg ?_
        refine hcall.mono ?_; rintro e w' ⟨rfl, hb'⟩; refine ⟨_, rfl, ?_⟩
        have B2 : Aside (Below wr.heap.size wr w') := then_ BA.out hb'
        clear hcall hl2 hst hld BA hb'
        repeat (first | go_skip | go_guarded | go_step | go_upon)
        trace_state
        go_ret
        refine ⟨?_, then_ BW.out B2.out⟩
        rw [R.out, E.out, D.out, firstE_hit (by rw [← Q.out]; exact h0), ← Q.out]
        rfl
    · have hlti : ¬ (k : Int) < (n : Int) := by omega
      have D : Aside (l.drop k = []) := drop_end (by have := N.out; omega)
      clear hp hcell
      repeat (first | go_skip | go_guarded | go_step | go_upon)
      go_ret
      refine ⟨?_, BW.out⟩
      rw [R.out, E.out, D.out]
      rfl


set_option maxHeartbeats 1000000 in
/-- model.checkEach. -/
theorem eachPfx (v : Value) (l : List Pfx) (m : Nat) (f : Nat → Pfx → Int) (g : Nat) (lb : Array Value) (eg : ∀ args w, (callFunc g args).run Tryz.prog w = .ok (.enter g args) w) (w : World) (hrow : IsRow ePfx 2 w v l) (hl : l.length ≤ 9223372036854775807) (h1 : ∀ x ∈ l, (ePfx x).toArray.all (·.oneCell') = true) (hp : Chk Tryz.prog g lb ePfx f l w) :
    Calls Tryz.prog 175 #[v, .int .i64 (m : Int), .func (.func g) #[] lb] w fun e w' => e = .returned (.int .i64 (eachE m f l)) ∧ Below w.heap.size w w' := by
  obtain ⟨a, cap, rfl, hcap, hcell⟩ := rows_open (z := 2) (by decide) hrow
  obtain ⟨n, hn⟩ : ∃ n, n = l.length := ⟨_, rfl⟩
  rw [← hn] at hl hcap hcell ⊢
  have N := hid hn
  clear hn hrow
  by_cases hmn : m < n
  · have hmi : (m : Int) < (n : Int) := by omega
    have R := hid (show eachE m f l = 7 by unfold eachE; rw [if_pos (by have := N.out; omega)])
    clear hp hcell
    go_enter Tryz.func175, Tryz.ntmps175
    repeat (first | go_skip | go_guarded | go_step | go_upon)
    go_ret
    exact ⟨ret_int R.out.symm, Below.refl _ _⟩
  have hmi : ¬ (m : Int) < (n : Int) := by omega
  have R := hid (show eachE m f l = firstE f 0 l by unfold eachE; rw [if_neg (by have := N.out; omega)])
  obtain ⟨P, hP⟩ : ∃ P, P = Tryz.prog := ⟨_, rfl⟩
  obtain ⟨z, hz⟩ : ∃ z, z = 2 := ⟨_, rfl⟩
  have mixed : P.follows .mixedOrders = true := by rw [hP]; kernel_rfl
  have FG : P.funcs[175]? = some Tryz.f175 := by rw [hP]; exact Tryz.func175
  have ts0 := Tryz.underlying3
  have as0 := Tryz.isAgg3
  have zs0 := Tryz.sizeOf3
  have ts1 := Tryz.underlying4
  have as1 := Tryz.isAgg4
  have zs1 := Tryz.sizeOf4
  have tsl := Tryz.underlying35
  have asl := Tryz.isAgg35
  have zsl := Tryz.sizeOf35
  have ael := Tryz.isAgg57
  have zel := Tryz.sizeOf57
  rw [← hz] at zel
  rw [← hP] at ts0 as0 zs0 ts1 as1 zs1 tsl asl zsl ael zel eg hp ⊢
  obtain ⟨Z, hZ, hZs⟩ : ∃ Z : Array Value, (∀ w, (zeroValue 57).run P w = .ok (.agg Z) w) ∧ Z.size = z := ⟨_, by have h := Tryz.zeroValue57; rw [← hP] at h; exact h, by rw [hz]; rfl⟩
  have hinfo : (P.info? 57).map (·.size) = some z := by rw [hP, hz]; kernel_rfl
  clear hP
  go_enter FG, Tryz.ntmps175
  repeat (first | go_skip | go_guarded | go_step | go_upon)
  go_loopg [16] n (fun gg s16 wr => ∃ k : Nat, k ≤ n ∧ n - k ≤ gg ∧ s16 = .int .i64 k ∧ Aside (Below w.heap.size w wr) ∧ Aside (firstE f 0 l = firstE f k (l.drop k)))
  case atStart => exact ⟨0, Nat.zero_le _, by omega, rfl, Below.refl _ w, rfl⟩
  case round =>
    obtain ⟨k, hk, hg, rfl, BW, E⟩ := hrel
    by_cases hlt : k < n
    · have hlti : (k : Int) < (n : Int) := by omega
      obtain ⟨x, hx⟩ := get_some (l := l) (k := k) (by have := N.out; omega)
      obtain ⟨b, off, rfl, hb, hc⟩ := hcell (by omega)
      have hl2 : Sem.run P (loadCellsFrom ⟨b, off + k * 2, none⟩ 0 2 #[]) wr = .ok (ePfx x).toArray wr :=
        ld_row (f := ePfx) (z := 2) P (fun _ => rfl) (fun j u hj => (BW.out.cell (p := ⟨b, off + j, none⟩) hb).trans (hc j u hj)) hx
      rw [← hz] at hl2
      have one := h1 x (get_mem hx)
      have hXs : (ePfx x).toArray.size = z := by rw [hz]; rfl
      have hcall := hp (wr.alloc (.cells (ePfx x).toArray 57)) k x hx ((BW.out.alloc BW.out.size _))
      have D : Aside (l.drop k = x :: l.drop (k + 1)) := drop_get hx
      clear hp hc hcell hx hz h1
      obtain ⟨X, hX⟩ : ∃ X, X = (ePfx x).toArray := ⟨_, rfl⟩
      rw [← hX] at hl2 hcall hXs one
      clear hX
      have hst := run_storeCells_new (P := P) wr 57 Z X (by rw [hXs]; exact hinfo) (by rw [hZs, hXs]) one
      have hld := run_loadCellsFrom_new (P := P) wr 57 X z hXs
      have BA : Aside (Below wr.heap.size wr (wr.alloc (.cells X 57))) := new_below _ _
      clear one hinfo
      obtain ⟨q, hq⟩ : ∃ q, q = f k x := ⟨_, rfl⟩
      rw [← hq] at hcall
      have Q : Aside (q = f k x) := hq
      clear hq
      by_cases h0 : q = 0
      · subst h0
        iterate 50 (first | go_skip | go_guarded | go_step | go_upon)
        refine wp_call_fn (g := g) (lb := lb) _ rfl _ rfl rfl [.int .i64 (k : Int), .agg X] rfl eg ?_
        refine hcall.mono ?_; rintro e w' ⟨rfl, hb'⟩; refine ⟨_, rfl, ?_⟩
        have B2 : Aside (Below wr.heap.size wr w') := then_ BA.out hb'
        clear hcall hl2 hst hld BA hb'
        repeat (first | go_skip | go_guarded | go_step | go_upon)
        trace_state
        go_roundg (n - (k + 1))
        case measure => omega
        case rel =>
          refine ⟨k + 1, by omega, by omega, by go_num, then_ BW.out B2.out, ?_⟩
          show _ = _
          rw [E.out, D.out, firstE_next Q.out.symm]
      · iterate 50 (first | go_skip | go_guarded | go_step | go_upon)
        refine wp_call_fn (g := g) (lb := lb) _ rfl _ rfl rfl [.int .i64 (k : Int), .agg X] rfl eg ?_
        refine hcall.mono ?_; rintro e w' ⟨rfl, hb'⟩; refine ⟨_, rfl, ?_⟩
        have B2 : Aside (Below wr.heap.size wr w') := then_ BA.out hb'
        clear hcall hl2 hst hld BA hb'
        repeat (first | go_skip | go_guarded | go_step | go_upon)
        trace_state
        go_ret
        refine ⟨?_, then_ BW.out B2.out⟩
        rw [R.out, E.out, D.out, firstE_hit (by rw [← Q.out]; exact h0), ← Q.out]
        rfl
    · have hlti : ¬ (k : Int) < (n : Int) := by omega
      have D : Aside (l.drop k = []) := drop_end (by have := N.out; omega)
      clear hp hcell
      repeat (first | go_skip | go_guarded | go_step | go_upon)
      go_ret
      refine ⟨?_, BW.out⟩
      rw [R.out, E.out, D.out]
      rfl


set_option maxHeartbeats 1000000 in
/-- model.checkEach. -/
theorem eachAggr (v : Value) (l : List Aggr) (m : Nat) (f : Nat → Aggr → Int) (g : Nat) (lb : Array Value) (eg : ∀ args w, (callFunc g args).run Tryz.prog w = .ok (.enter g args) w) (w : World) (hrow : IsRow eAggr 3 w v l) (hl : l.length ≤ 9223372036854775807) (h1 : ∀ x ∈ l, (eAggr x).toArray.all (·.oneCell') = true) (hp : Chk Tryz.prog g lb eAggr f l w) :
    Calls Tryz.prog 178 #[v, .int .i64 (m : Int), .func (.func g) #[] lb] w fun e w' => e = .returned (.int .i64 (eachE m f l)) ∧ Below w.heap.size w w' := by
  obtain ⟨a, cap, rfl, hcap, hcell⟩ := rows_open (z := 3) (by decide) hrow
  obtain ⟨n, hn⟩ : ∃ n, n = l.length := ⟨_, rfl⟩
  rw [← hn] at hl hcap hcell ⊢
  have N := hid hn
  clear hn hrow
  by_cases hmn : m < n
  · have hmi : (m : Int) < (n : Int) := by omega
    have R := hid (show eachE m f l = 7 by unfold eachE; rw [if_pos (by have := N.out; omega)])
    clear hp hcell
    go_enter Tryz.func178, Tryz.ntmps178
    repeat (first | go_skip | go_guarded | go_step | go_upon)
    go_ret
    exact ⟨ret_int R.out.symm, Below.refl _ _⟩
  have hmi : ¬ (m : Int) < (n : Int) := by omega
  have R := hid (show eachE m f l = firstE f 0 l by unfold eachE; rw [if_neg (by have := N.out; omega)])
  obtain ⟨P, hP⟩ : ∃ P, P = Tryz.prog := ⟨_, rfl⟩
  obtain ⟨z, hz⟩ : ∃ z, z = 3 := ⟨_, rfl⟩
  have mixed : P.follows .mixedOrders = true := by rw [hP]; kernel_rfl
  have FG : P.funcs[178]? = some Tryz.f178 := by rw [hP]; exact Tryz.func178
  have ts0 := Tryz.underlying3
  have as0 := Tryz.isAgg3
  have zs0 := Tryz.sizeOf3
  have ts1 := Tryz.underlying4
  have as1 := Tryz.isAgg4
  have zs1 := Tryz.sizeOf4
  have tsl := Tryz.underlying36
  have asl := Tryz.isAgg36
  have zsl := Tryz.sizeOf36
  have ael := Tryz.isAgg64
  have zel := Tryz.sizeOf64
  rw [← hz] at zel
  rw [← hP] at ts0 as0 zs0 ts1 as1 zs1 tsl asl zsl ael zel eg hp ⊢
  obtain ⟨Z, hZ, hZs⟩ : ∃ Z : Array Value, (∀ w, (zeroValue 64).run P w = .ok (.agg Z) w) ∧ Z.size = z := ⟨_, by have h := Tryz.zeroValue64; rw [← hP] at h; exact h, by rw [hz]; rfl⟩
  have hinfo : (P.info? 64).map (·.size) = some z := by rw [hP, hz]; kernel_rfl
  clear hP
  go_enter FG, Tryz.ntmps178
  repeat (first | go_skip | go_guarded | go_step | go_upon)
  go_loopg [16] n (fun gg s16 wr => ∃ k : Nat, k ≤ n ∧ n - k ≤ gg ∧ s16 = .int .i64 k ∧ Aside (Below w.heap.size w wr) ∧ Aside (firstE f 0 l = firstE f k (l.drop k)))
  case atStart => exact ⟨0, Nat.zero_le _, by omega, rfl, Below.refl _ w, rfl⟩
  case round =>
    obtain ⟨k, hk, hg, rfl, BW, E⟩ := hrel
    by_cases hlt : k < n
    · have hlti : (k : Int) < (n : Int) := by omega
      obtain ⟨x, hx⟩ := get_some (l := l) (k := k) (by have := N.out; omega)
      obtain ⟨b, off, rfl, hb, hc⟩ := hcell (by omega)
      have hl2 : Sem.run P (loadCellsFrom ⟨b, off + k * 3, none⟩ 0 3 #[]) wr = .ok (eAggr x).toArray wr :=
        ld_row (f := eAggr) (z := 3) P (fun _ => rfl) (fun j u hj => (BW.out.cell (p := ⟨b, off + j, none⟩) hb).trans (hc j u hj)) hx
      rw [← hz] at hl2
      have one := h1 x (get_mem hx)
      have hXs : (eAggr x).toArray.size = z := by rw [hz]; rfl
      have hcall := hp (wr.alloc (.cells (eAggr x).toArray 64)) k x hx ((BW.out.alloc BW.out.size _))
      have D : Aside (l.drop k = x :: l.drop (k + 1)) := drop_get hx
      clear hp hc hcell hx hz h1
      obtain ⟨X, hX⟩ : ∃ X, X = (eAggr x).toArray := ⟨_, rfl⟩
      rw [← hX] at hl2 hcall hXs one
      clear hX
      have hst := run_storeCells_new (P := P) wr 64 Z X (by rw [hXs]; exact hinfo) (by rw [hZs, hXs]) one
      have hld := run_loadCellsFrom_new (P := P) wr 64 X z hXs
      have BA : Aside (Below wr.heap.size wr (wr.alloc (.cells X 64))) := new_below _ _
      clear one hinfo
      obtain ⟨q, hq⟩ : ∃ q, q = f k x := ⟨_, rfl⟩
      rw [← hq] at hcall
      have Q : Aside (q = f k x) := hq
      clear hq
      by_cases h0 : q = 0
      · subst h0
        iterate 50 (first | go_skip | go_guarded | go_step | go_upon)
        refine wp_call_fn (g := g) (lb := lb) _ rfl _ rfl rfl [.int .i64 (k : Int), .agg X] rfl eg ?_
        refine hcall.mono ?_; rintro e w' ⟨rfl, hb'⟩; refine ⟨_, rfl, ?_⟩
        have B2 : Aside (Below wr.heap.size wr w') := then_ BA.out hb'
        clear hcall hl2 hst hld BA hb'
        repeat (first | go_skip | go_guarded | go_step | go_upon)
        trace_state
        go_roundg (n - (k + 1))
        case measure => omega
        case rel =>
          refine ⟨k + 1, by omega, by omega, by go_num, then_ BW.out B2.out, ?_⟩
          show _ = _
          rw [E.out, D.out, firstE_next Q.out.symm]
      · iterate 50 (first | go_skip | go_guarded | go_step | go_upon)
        refine wp_call_fn (g := g) (lb := lb) _ rfl _ rfl rfl [.int .i64 (k : Int), .agg X] rfl eg ?_
        refine hcall.mono ?_; rintro e w' ⟨rfl, hb'⟩; refine ⟨_, rfl, ?_⟩
        have B2 : Aside (Below wr.heap.size wr w') := then_ BA.out hb'
        clear hcall hl2 hst hld BA hb'
        repeat (first | go_skip | go_guarded | go_step | go_upon)
        trace_state
        go_ret
        refine ⟨?_, then_ BW.out B2.out⟩
        rw [R.out, E.out, D.out, firstE_hit (by rw [← Q.out]; exact h0), ← Q.out]
        rfl
    · have hlti : ¬ (k : Int) < (n : Int) := by omega
      have D : Aside (l.drop k = []) := drop_end (by have := N.out; omega)
      clear hp hcell
      repeat (first | go_skip | go_guarded | go_step | go_upon)
      go_ret
      refine ⟨?_, BW.out⟩
      rw [R.out, E.out, D.out]
      rfl


set_option maxHeartbeats 1000000 in
/-- model.checkEach. -/
theorem eachCnd (v : Value) (l : List Cnd) (m : Nat) (f : Nat → Cnd → Int) (g : Nat) (lb : Array Value) (eg : ∀ args w, (callFunc g args).run Tryz.prog w = .ok (.enter g args) w) (w : World) (hrow : IsRow eCnd 5 w v l) (hl : l.length ≤ 9223372036854775807) (h1 : ∀ x ∈ l, (eCnd x).toArray.all (·.oneCell') = true) (hp : Chk Tryz.prog g lb eCnd f l w) :
    Calls Tryz.prog 182 #[v, .int .i64 (m : Int), .func (.func g) #[] lb] w fun e w' => e = .returned (.int .i64 (eachE m f l)) ∧ Below w.heap.size w w' := by
  obtain ⟨a, cap, rfl, hcap, hcell⟩ := rows_open (z := 5) (by decide) hrow
  obtain ⟨n, hn⟩ : ∃ n, n = l.length := ⟨_, rfl⟩
  rw [← hn] at hl hcap hcell ⊢
  have N := hid hn
  clear hn hrow
  by_cases hmn : m < n
  · have hmi : (m : Int) < (n : Int) := by omega
    have R := hid (show eachE m f l = 7 by unfold eachE; rw [if_pos (by have := N.out; omega)])
    clear hp hcell
    go_enter Tryz.func182, Tryz.ntmps182
    repeat (first | go_skip | go_guarded | go_step | go_upon)
    go_ret
    exact ⟨ret_int R.out.symm, Below.refl _ _⟩
  have hmi : ¬ (m : Int) < (n : Int) := by omega
  have R := hid (show eachE m f l = firstE f 0 l by unfold eachE; rw [if_neg (by have := N.out; omega)])
  obtain ⟨P, hP⟩ : ∃ P, P = Tryz.prog := ⟨_, rfl⟩
  obtain ⟨z, hz⟩ : ∃ z, z = 5 := ⟨_, rfl⟩
  have mixed : P.follows .mixedOrders = true := by rw [hP]; kernel_rfl
  have FG : P.funcs[182]? = some Tryz.f182 := by rw [hP]; exact Tryz.func182
  have ts0 := Tryz.underlying3
  have as0 := Tryz.isAgg3
  have zs0 := Tryz.sizeOf3
  have ts1 := Tryz.underlying4
  have as1 := Tryz.isAgg4
  have zs1 := Tryz.sizeOf4
  have tsl := Tryz.underlying37
  have asl := Tryz.isAgg37
  have zsl := Tryz.sizeOf37
  have ael := Tryz.isAgg177
  have zel := Tryz.sizeOf177
  rw [← hz] at zel
  rw [← hP] at ts0 as0 zs0 ts1 as1 zs1 tsl asl zsl ael zel eg hp ⊢
  obtain ⟨Z, hZ, hZs⟩ : ∃ Z : Array Value, (∀ w, (zeroValue 177).run P w = .ok (.agg Z) w) ∧ Z.size = z := ⟨_, by have h := Tryz.zeroValue177; rw [← hP] at h; exact h, by rw [hz]; rfl⟩
  have hinfo : (P.info? 177).map (·.size) = some z := by rw [hP, hz]; kernel_rfl
  clear hP
  go_enter FG, Tryz.ntmps182
  repeat (first | go_skip | go_guarded | go_step | go_upon)
  go_loopg [16] n (fun gg s16 wr => ∃ k : Nat, k ≤ n ∧ n - k ≤ gg ∧ s16 = .int .i64 k ∧ Aside (Below w.heap.size w wr) ∧ Aside (firstE f 0 l = firstE f k (l.drop k)))
  case atStart => exact ⟨0, Nat.zero_le _, by omega, rfl, Below.refl _ w, rfl⟩
  case round =>
    obtain ⟨k, hk, hg, rfl, BW, E⟩ := hrel
    by_cases hlt : k < n
    · have hlti : (k : Int) < (n : Int) := by omega
      obtain ⟨x, hx⟩ := get_some (l := l) (k := k) (by have := N.out; omega)
      obtain ⟨b, off, rfl, hb, hc⟩ := hcell (by omega)
      have hl2 : Sem.run P (loadCellsFrom ⟨b, off + k * 5, none⟩ 0 5 #[]) wr = .ok (eCnd x).toArray wr :=
        ld_row (f := eCnd) (z := 5) P (fun _ => rfl) (fun j u hj => (BW.out.cell (p := ⟨b, off + j, none⟩) hb).trans (hc j u hj)) hx
      rw [← hz] at hl2
      have one := h1 x (get_mem hx)
      have hXs : (eCnd x).toArray.size = z := by rw [hz]; rfl
      have hcall := hp (wr.alloc (.cells (eCnd x).toArray 177)) k x hx ((BW.out.alloc BW.out.size _))
      have D : Aside (l.drop k = x :: l.drop (k + 1)) := drop_get hx
      clear hp hc hcell hx hz h1
      obtain ⟨X, hX⟩ : ∃ X, X = (eCnd x).toArray := ⟨_, rfl⟩
      rw [← hX] at hl2 hcall hXs one
      clear hX
      have hst := run_storeCells_new (P := P) wr 177 Z X (by rw [hXs]; exact hinfo) (by rw [hZs, hXs]) one
      have hld := run_loadCellsFrom_new (P := P) wr 177 X z hXs
      have BA : Aside (Below wr.heap.size wr (wr.alloc (.cells X 177))) := new_below _ _
      clear one hinfo
      obtain ⟨q, hq⟩ : ∃ q, q = f k x := ⟨_, rfl⟩
      rw [← hq] at hcall
      have Q : Aside (q = f k x) := hq
      clear hq
      by_cases h0 : q = 0
      · subst h0
        iterate 50 (first | go_skip | go_guarded | go_step | go_upon)
        refine wp_call_fn (g := g) (lb := lb) _ rfl _ rfl rfl [.int .i64 (k : Int), .agg X] rfl eg ?_
        refine hcall.mono ?_; rintro e w' ⟨rfl, hb'⟩; refine ⟨_, rfl, ?_⟩
        have B2 : Aside (Below wr.heap.size wr w') := then_ BA.out hb'
        clear hcall hl2 hst hld BA hb'
        repeat (first | go_skip | go_guarded | go_step | go_upon)
        trace_state
        go_roundg (n - (k + 1))
        case measure => omega
        case rel =>
          refine ⟨k + 1, by omega, by omega, by go_num, then_ BW.out B2.out, ?_⟩
          show _ = _
          rw [E.out, D.out, firstE_next Q.out.symm]
      · iterate 50 (first | go_skip | go_guarded | go_step | go_upon)
        refine wp_call_fn (g := g) (lb := lb) _ rfl _ rfl rfl [.int .i64 (k : Int), .agg X] rfl eg ?_
        refine hcall.mono ?_; rintro e w' ⟨rfl, hb'⟩; refine ⟨_, rfl, ?_⟩
        have B2 : Aside (Below wr.heap.size wr w') := then_ BA.out hb'
        clear hcall hl2 hst hld BA hb'
        repeat (first | go_skip | go_guarded | go_step | go_upon)
        trace_state
        go_ret
        refine ⟨?_, then_ BW.out B2.out⟩
        rw [R.out, E.out, D.out, firstE_hit (by rw [← Q.out]; exact h0), ← Q.out]
        rfl
    · have hlti : ¬ (k : Int) < (n : Int) := by omega
      have D : Aside (l.drop k = []) := drop_end (by have := N.out; omega)
      clear hp hcell
      repeat (first | go_skip | go_guarded | go_step | go_upon)
      go_ret
      refine ⟨?_, BW.out⟩
      rw [R.out, E.out, D.out]
      rfl


set_option maxHeartbeats 1000000 in
/-- model.checkEach. -/
theorem eachRtr (v : Value) (l : List Rtr) (m : Nat) (f : Nat → Rtr → Int) (g : Nat) (lb : Array Value) (eg : ∀ args w, (callFunc g args).run Tryz.prog w = .ok (.enter g args) w) (w : World) (hrow : IsRow eRtr 25 w v l) (hl : l.length ≤ 9223372036854775807) (h1 : ∀ x ∈ l, (eRtr x).toArray.all (·.oneCell') = true) (hp : Chk Tryz.prog g lb eRtr f l w) :
    Calls Tryz.prog 58 #[v, .int .i64 (m : Int), .func (.func g) #[] lb] w fun e w' => e = .returned (.int .i64 (eachE m f l)) ∧ Below w.heap.size w w' := by
  obtain ⟨a, cap, rfl, hcap, hcell⟩ := rows_open (z := 25) (by decide) hrow
  obtain ⟨n, hn⟩ : ∃ n, n = l.length := ⟨_, rfl⟩
  rw [← hn] at hl hcap hcell ⊢
  have N := hid hn
  clear hn hrow
  by_cases hmn : m < n
  · have hmi : (m : Int) < (n : Int) := by omega
    have R := hid (show eachE m f l = 7 by unfold eachE; rw [if_pos (by have := N.out; omega)])
    clear hp hcell
    go_enter Tryz.func58, Tryz.ntmps58
    repeat (first | go_skip | go_guarded | go_step | go_upon)
    go_ret
    exact ⟨ret_int R.out.symm, Below.refl _ _⟩
  have hmi : ¬ (m : Int) < (n : Int) := by omega
  have R := hid (show eachE m f l = firstE f 0 l by unfold eachE; rw [if_neg (by have := N.out; omega)])
  obtain ⟨P, hP⟩ : ∃ P, P = Tryz.prog := ⟨_, rfl⟩
  obtain ⟨z, hz⟩ : ∃ z, z = 25 := ⟨_, rfl⟩
  have mixed : P.follows .mixedOrders = true := by rw [hP]; kernel_rfl
  have FG : P.funcs[58]? = some Tryz.f58 := by rw [hP]; exact Tryz.func58
  have ts0 := Tryz.underlying3
  have as0 := Tryz.isAgg3
  have zs0 := Tryz.sizeOf3
  have ts1 := Tryz.underlying4
  have as1 := Tryz.isAgg4
  have zs1 := Tryz.sizeOf4
  have tsl := Tryz.underlying46
  have asl := Tryz.isAgg46
  have zsl := Tryz.sizeOf46
  have ael := Tryz.isAgg41
  have zel := Tryz.sizeOf41
  rw [← hz] at zel
  rw [← hP] at ts0 as0 zs0 ts1 as1 zs1 tsl asl zsl ael zel eg hp ⊢
  obtain ⟨Z, hZ, hZs⟩ : ∃ Z : Array Value, (∀ w, (zeroValue 41).run P w = .ok (.agg Z) w) ∧ Z.size = z := ⟨_, by have h := Tryz.zeroValue41; rw [← hP] at h; exact h, by rw [hz]; rfl⟩
  have hinfo : (P.info? 41).map (·.size) = some z := by rw [hP, hz]; kernel_rfl
  clear hP
  go_enter FG, Tryz.ntmps58
  repeat (first | go_skip | go_guarded | go_step | go_upon)
  go_loopg [16] n (fun gg s16 wr => ∃ k : Nat, k ≤ n ∧ n - k ≤ gg ∧ s16 = .int .i64 k ∧ Aside (Below w.heap.size w wr) ∧ Aside (firstE f 0 l = firstE f k (l.drop k)))
  case atStart => exact ⟨0, Nat.zero_le _, by omega, rfl, Below.refl _ w, rfl⟩
  case round =>
    obtain ⟨k, hk, hg, rfl, BW, E⟩ := hrel
    by_cases hlt : k < n
    · have hlti : (k : Int) < (n : Int) := by omega
      obtain ⟨x, hx⟩ := get_some (l := l) (k := k) (by have := N.out; omega)
      obtain ⟨b, off, rfl, hb, hc⟩ := hcell (by omega)
      have hl2 : Sem.run P (loadCellsFrom ⟨b, off + k * 25, none⟩ 0 25 #[]) wr = .ok (eRtr x).toArray wr :=
        ld_row (f := eRtr) (z := 25) P (fun _ => rfl) (fun j u hj => (BW.out.cell (p := ⟨b, off + j, none⟩) hb).trans (hc j u hj)) hx
      rw [← hz] at hl2
      have one := h1 x (get_mem hx)
      have hXs : (eRtr x).toArray.size = z := by rw [hz]; rfl
      have hcall := hp (wr.alloc (.cells (eRtr x).toArray 41)) k x hx ((BW.out.alloc BW.out.size _))
      have D : Aside (l.drop k = x :: l.drop (k + 1)) := drop_get hx
      clear hp hc hcell hx hz h1
      obtain ⟨X, hX⟩ : ∃ X, X = (eRtr x).toArray := ⟨_, rfl⟩
      rw [← hX] at hl2 hcall hXs one
      clear hX
      have hst := run_storeCells_new (P := P) wr 41 Z X (by rw [hXs]; exact hinfo) (by rw [hZs, hXs]) one
      have hld := run_loadCellsFrom_new (P := P) wr 41 X z hXs
      have BA : Aside (Below wr.heap.size wr (wr.alloc (.cells X 41))) := new_below _ _
      clear one hinfo
      obtain ⟨q, hq⟩ : ∃ q, q = f k x := ⟨_, rfl⟩
      rw [← hq] at hcall
      have Q : Aside (q = f k x) := hq
      clear hq
      by_cases h0 : q = 0
      · subst h0
        iterate 50 (first | go_skip | go_guarded | go_step | go_upon)
        refine wp_call_fn (g := g) (lb := lb) _ rfl _ rfl rfl [.int .i64 (k : Int), .agg X] rfl eg ?_
        refine hcall.mono ?_; rintro e w' ⟨rfl, hb'⟩; refine ⟨_, rfl, ?_⟩
        have B2 : Aside (Below wr.heap.size wr w') := then_ BA.out hb'
        clear hcall hl2 hst hld BA hb'
        repeat (first | go_skip | go_guarded | go_step | go_upon)
        trace_state
        go_roundg (n - (k + 1))
        case measure => omega
        case rel =>
          refine ⟨k + 1, by omega, by omega, by go_num, then_ BW.out B2.out, ?_⟩
          show _ = _
          rw [E.out, D.out, firstE_next Q.out.symm]
      · iterate 50 (first | go_skip | go_guarded | go_step | go_upon)
        refine wp_call_fn (g := g) (lb := lb) _ rfl _ rfl rfl [.int .i64 (k : Int), .agg X] rfl eg ?_
        refine hcall.mono ?_; rintro e w' ⟨rfl, hb'⟩; refine ⟨_, rfl, ?_⟩
        have B2 : Aside (Below wr.heap.size wr w') := then_ BA.out hb'
        clear hcall hl2 hst hld BA hb'
        repeat (first | go_skip | go_guarded | go_step | go_upon)
        trace_state
        go_ret
        refine ⟨?_, then_ BW.out B2.out⟩
        rw [R.out, E.out, D.out, firstE_hit (by rw [← Q.out]; exact h0), ← Q.out]
        rfl
    · have hlti : ¬ (k : Int) < (n : Int) := by omega
      have D : Aside (l.drop k = []) := drop_end (by have := N.out; omega)
      clear hp hcell
      repeat (first | go_skip | go_guarded | go_step | go_upon)
      go_ret
      refine ⟨?_, BW.out⟩
      rw [R.out, E.out, D.out]
      rfl

end Go.Proofs.YtmffbdohcnebdaaGreat.Mw
