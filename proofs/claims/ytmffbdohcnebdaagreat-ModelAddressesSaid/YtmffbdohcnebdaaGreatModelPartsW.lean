/-
  THE WALK OF THE LAW ModelParts.
-/
import Derived.Test.YtmffbdohcnebdaaGreatModelLookupsW
import Derived.Test.YtmffbdohcnebdaaGreatModCk
namespace Go.Proofs.YtmffbdohcnebdaaGreat.Mw
set_option linter.unusedSimpArgs false
set_option linter.unusedVariables false
open Go.RowKit Kt Mm Mp

theorem netw_router {l : List Rtr} (h : netwE l = 0) {k : Nat} {r : Rtr} (hr : l[k]? = some r) : rtrE r = 0 := by
  have h1 := (eachE_ok.1 h).2 k r hr
  unfold routerE at h1
  split at h1
  · assumption
  · exact h1
theorem netw_one {r : Rtr} (h : rtrE r = 0) : netwE [r] = 0 := by
  refine eachE_ok.2 ⟨by simp, fun j x hj => ?_⟩
  cases j with
  | zero =>
    simp at hj
    subst hj
    simp [routerE, h, shares]
  | succ j => simp at hj
/-- One element of a list, as a slice of its own. -/
theorem net_sub {w : World} {b off n cap c' : Nat} {l : List Rtr} (h : NetIn w (.slice (some ⟨b, off, none⟩) n cap) l) {k : Nat} {r : Rtr} (hr : l[k]? = some r) (hc : 1 ≤ c') : NetIn w (.slice (some ⟨b, off + k * 25, none⟩) 1 c') [r] := by
  refine ⟨⟨?_, by simp⟩, fun x hx => by rw [List.mem_singleton.1 hx]; exact h.each r (get_mem hr)⟩
  obtain ⟨h1, h2⟩ := h.row.row
  rcases h2 with ⟨h2, _⟩ | ⟨y, cap', hv, hnc, hcell⟩
  · cases h2
  · cases hv
    refine rows_at (by rw [fl_one]; rfl) hc fun j u hj => ?_
    rw [fl_one] at hj
    exact row_cells (f := eRtr) (z := 25) (fun _ => rfl) (fun j u hj => by rw [← add_lit]; exact hcell j u hj) hr j u hj

set_option maxHeartbeats 16000000 in
set_option maxRecDepth 4000 in
theorem walkModelParts (u : Value) (l : List Rtr) (kk : Int) (W : World) (hn : NetIn W u l) :
    Calls Tryz.prog 5 #[.agg #[u], .int .i64 kk] W fun e w' => e = .returned (.bool true) ∧ Below W.heap.size W w' := by
  have hSn := fun wx => saneC wx
  have hSl := fun wx (r : Rtr) (h : RtrIn wx r) => smallC r wx h
  have hCk := fun wx (h : NetIn wx u l) => checkN u l wx h
  have hCr := fun wx (r : Rtr) (h : RtrIn wx r) => checkR r wx h
  have hCo := fun wx (v : Value) (r : Rtr) (h : NetIn wx v [r]) => checkN v [r] wx h
  obtain ⟨e0, he0⟩ : ∃ e, e = netwE l := ⟨_, rfl⟩
  rw [← he0] at hCk
  have E := hid he0
  obtain ⟨ad, cap, hu, hcap, hcell⟩ := rows_open (z := 25) (by decide) hn.row.row
  obtain ⟨n, hnl⟩ : ∃ n, n = l.length := ⟨_, rfl⟩
  have hlen := hn.row.len
  rw [← hnl] at hu hcap hlen
  have N := hid hnl
  have HN := hid (show NetIn W (.slice ad n cap) l by rw [← hu]; exact hn)
  rw [hu] at hCk ⊢
  obtain ⟨w1, hw1⟩ : ∃ w1, W.alloc (.cells #[.slice ad n cap] 48) = w1 := ⟨_, rfl⟩
  have hhB : w1.heap[W.heap.size]? = some (.cells #[.slice ad n cap] 48 (0, 0)) := by rw [← hw1, heap_new]
  have HB := hid (show Below W.heap.size W w1 by rw [← hw1]; exact new_below _ _)
  have G1 : Below w1.heap.size w1 w1 := Below.refl _ _
  have FB : ∀ v : World, Below w1.heap.size w1 v → v.cell? ⟨W.heap.size, 0, none⟩ = some (.slice ad n cap) := fun v h => box_at (blk_keep hhB h) rfl
  have LB0 : ∀ v : World, Below w1.heap.size w1 v → Sem.run Tryz.prog (loadCellsFrom ⟨W.heap.size, 0, none⟩ 0 1 #[]) v = .ok #[.slice ad n cap] v := fun v h => ld_box _ (blk_keep hhB h) rfl
  have r1 := fun wx (h : Below w1.heap.size w1 wx) => hCk wx (HN.out.keep (then_ HB.out h))
  clear hn hu hnl he0 hcell hCk hhB
  obtain ⟨P, hP⟩ : ∃ P, P = Tryz.prog := ⟨_, rfl⟩
  have HP := hid hP
  have mixed : P.follows .mixedOrders = true := by rw [hP]; kernel_rfl
  have FG : P.funcs[5]? = some Tryz.f5 := by rw [hP]; exact Tryz.func5
  obtain ⟨zRouter, hzRouter⟩ : ∃ z, z = 25 := ⟨_, rfl⟩
  have nzRouter : ¬ zRouter = 0 := by omega
  have ty3 := Tryz.underlying3; have ag3 := Tryz.isAgg3; have sz3 := Tryz.sizeOf3; have ru3 := Tryz.runUnderlying3
  have ty4 := Tryz.underlying4; have ag4 := Tryz.isAgg4; have sz4 := Tryz.sizeOf4; have ru4 := Tryz.runUnderlying4
  have ty41 := Tryz.underlying41; have ag41 := Tryz.isAgg41; have sz41 := Tryz.sizeOf41; have ru41 := Tryz.runUnderlying41
  rw [← hzRouter] at sz41
  have ty43 := Tryz.underlying43; have ag43 := Tryz.isAgg43; have sz43 := Tryz.sizeOf43; have ru43 := Tryz.runUnderlying43
  have ty46 := Tryz.underlying46; have ag46 := Tryz.isAgg46; have sz46 := Tryz.sizeOf46; have ru46 := Tryz.runUnderlying46
  have ty48 := Tryz.underlying48; have ag48 := Tryz.isAgg48; have sz48 := Tryz.sizeOf48; have ru48 := Tryz.runUnderlying48
  have zeNetwork := Tryz.zeroValue48
  have en0 : ∀ args w, (callFunc 15 args).run Tryz.prog w = .ok (.enter 15 args) w := enters_of Tryz.func15 (by kernel_rfl) rfl
  have en1 : ∀ args w, (callFunc 12 args).run Tryz.prog w = .ok (.enter 12 args) w := enters_of Tryz.func12 (by kernel_rfl) rfl
  have en2 : ∀ args w, (callFunc 11 args).run Tryz.prog w = .ok (.enter 11 args) w := enters_of Tryz.func11 (by kernel_rfl) rfl
  have en3 : ∀ args w, (callFunc 14 args).run Tryz.prog w = .ok (.enter 14 args) w := enters_of Tryz.func14 (by kernel_rfl) rfl
  rw [← hP] at ty3 ag3 sz3 ru3 ty4 ag4 sz4 ru4 ty41 ag41 sz41 ru41 ty43 ag43 sz43 ru43 ty46 ag46 sz46 ru46 ty48 ag48 sz48 ru48 zeNetwork en0 en1 en2 en3 hSn hSl r1 hCr hCo LB0 ⊢
  clear hP
  have ZR := hid hzRouter
  clear hzRouter
  by_cases h8 : 10 < n
  · have h8i : (10 : Int) < (n : Int) := by omega
    go_enter FG, Tryz.ntmps5
    repeat' (first | go_skip | go_guarded | go_step | go_upon)
    go_ret
    exact ⟨rfl, HB.out⟩
  have h8i : ¬ (10 : Int) < (n : Int) := by omega
  by_cases hk0 : kk < 0
  · go_enter FG, Tryz.ntmps5
    repeat' (first | go_skip | go_guarded | go_step | go_upon)
    go_ret
    exact ⟨rfl, HB.out⟩
  by_cases hkn : (n : Int) ≤ kk
  · go_enter FG, Tryz.ntmps5
    repeat' (first | go_skip | go_guarded | go_step | go_upon)
    go_ret
    exact ⟨rfl, HB.out⟩
  obtain ⟨k, rfl⟩ : ∃ k : Nat, kk = (k : Int) := ⟨kk.toNat, by omega⟩
  go_enter FG, Tryz.ntmps5
  repeat' (first | go_skip | go_guarded | go_step | go_upon)
  clear h8 h8i hk0
  go_loopg [5] n (fun gg s5 wr => ∃ i : Nat, i ≤ n ∧ n - i ≤ gg ∧ s5 = .int .i64 i ∧ Below w1.heap.size w1 wr)
  case atStart => exact ⟨0, Nat.zero_le _, by omega, rfl, by assumption⟩
  case round =>
    obtain ⟨i, hi, hg, rfl, hwr⟩ := hrel
    have fb := FB wr hwr
    by_cases hlt : i < n
    · have hlti : (i : Int) < (n : Int) := by omega
      have hk0 : (0 : Int) ≤ (i : Int) := by omega
      obtain ⟨r, hx⟩ := get_some (l := l) (k := i) (by have := N.out; omega)
      have HR := (HN.out.each r (get_mem hx)).keep (then_ HB.out hwr)
      obtain ⟨b, off, cap', hv, -, -, -⟩ := row_addr (z := 25) (by decide) HN.out.row.row hx
      injection hv with e1 e2 e3
      subst e1
      clear e2 e3
      have LR : Sem.run P (loadCellsFrom ⟨b, off + i * zRouter, none⟩ 0 zRouter #[]) wr = .ok (eRtr r).toArray wr := by
        rw [ZR.out]; exact ld_at (f := eRtr) (z := 25) P (fun _ => rfl) (HN.out.keep (then_ HB.out hwr)).row.row rfl hx
      have cS := hSl wr r HR
      obtain ⟨X, hX⟩ : ∃ X, X = (eRtr r).toArray := ⟨_, rfl⟩
      obtain ⟨sb, hsb⟩ : ∃ b, b = smallB r := ⟨_, rfl⟩
      rw [← hX] at LR cS
      rw [← hsb] at cS
      have SB := hid hsb
      clear hx hX HR hsb
      cases sb
      case false =>
        repeat' (first | (go_at_call 11; with_reducible refine (cS).mono ?_; rintro e w' ⟨rfl, b⟩; have b' := then_ (w := w1) (by assumption) b; clear b; try dsimp only) | go_skip | go_guarded | go_step | go_upon)
        go_ret
        exact ⟨rfl, then_ HB.out (by assumption)⟩
      case true =>
        repeat' (first | (go_at_call 11; with_reducible refine (cS).mono ?_; rintro e w' ⟨rfl, b⟩; have b' := then_ (w := w1) (by assumption) b; clear b; try dsimp only) | go_skip | go_guarded | go_step | go_upon)
        go_roundg (n - (i + 1))
        case measure => omega
        case rel => exact ⟨i + 1, by omega, by omega, by go_num, by assumption⟩
    · have hlti : ¬ (i : Int) < (n : Int) := by omega
      have hkl : k < n := by omega
      have k0 : (0 : Int) ≤ (k : Int) := by omega
      have k1 : (k : Int) < (n : Int) := by omega
      have k2 : IntKind.i64.wrap ((k : Int) + 1) = (k : Int) + 1 := by rw [IntKind.wrap_i64]; omega
      obtain ⟨r, hx⟩ := get_some (l := l) (k := k) (by have := N.out; omega)
      have HR := hid (HN.out.each r (get_mem hx))
      obtain ⟨b, off, cap', hv, -, -, -⟩ := row_addr (z := 25) (by decide) HN.out.row.row hx
      injection hv with e1 e2 e3
      subst e1
      clear e2 e3
      by_cases h0 : e0 = 0
      · subst h0
        have R0 := hid (netw_router E.out.symm hx)
        have HS := hid (net_sub (c' := cap - k) HN.out hx (by omega))
        have cR := fun wx (h : Below w1.heap.size w1 wx) => hCr wx r (HR.out.keep (then_ HB.out h))
        have cO := fun wx (h : Below w1.heap.size w1 wx) => hCo wx _ r (HS.out.keep (then_ HB.out h))
        rw [R0.out] at cR
        rw [netw_one R0.out] at cO
        have LR : ∀ v : World, Below w1.heap.size w1 v → Sem.run P (loadCellsFrom ⟨b, off + k * zRouter, none⟩ 0 zRouter #[]) v = .ok (eRtr r).toArray v := fun v h => by
          rw [ZR.out]; exact ld_at (f := eRtr) (z := 25) P (fun _ => rfl) (HN.out.keep (then_ HB.out h)).row.row rfl hx
        obtain ⟨X, hX⟩ : ∃ X, X = (eRtr r).toArray := ⟨_, rfl⟩
        rw [← hX] at LR cR
        rw [← ZR.out] at cO
        clear hx hX hCr hCo
        repeat' (first | (go_at_call 15; with_reducible refine (r1 _ (by assumption)).mono ?_; rintro e w' ⟨rfl, b⟩; have b' := then_ (w := w1) (by assumption) b; clear b; try dsimp only) | (go_at_call 15; with_reducible refine (cO _ (by assumption)).mono ?_; rintro e w' ⟨rfl, b⟩; have b' := then_ (w := w1) (by assumption) b; clear b; try dsimp only) | (go_at_call 12; with_reducible refine (cR _ (by assumption)).mono ?_; rintro e w' ⟨rfl, b⟩; have b' := then_ (w := w1) (by assumption) b; clear b; try dsimp only) | (go_at_call 14; with_reducible refine (hSn _).mono ?_; rintro e w' ⟨rfl, b⟩; have b' := then_ (w := w1) (by assumption) b; clear b; try dsimp only) | go_skip | go_guarded | go_step | go_upon)
        go_ret
        exact ⟨rfl, then_ HB.out (by assumption)⟩
      · have h0b : (e0 != 0) = true := by simpa using h0
        repeat' (first | (go_at_call 15; with_reducible refine (r1 _ (by assumption)).mono ?_; rintro e w' ⟨rfl, b⟩; have b' := then_ (w := w1) (by assumption) b; clear b; try dsimp only) | (go_at_call 14; with_reducible refine (hSn _).mono ?_; rintro e w' ⟨rfl, b⟩; have b' := then_ (w := w1) (by assumption) b; clear b; try dsimp only) | go_skip | go_guarded | go_step | go_upon)
        go_ret
        exact ⟨rfl, then_ HB.out (by assumption)⟩
end Go.Proofs.YtmffbdohcnebdaaGreat.Mw
