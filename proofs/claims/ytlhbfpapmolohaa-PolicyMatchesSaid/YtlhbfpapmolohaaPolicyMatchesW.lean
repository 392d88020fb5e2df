/-
  THE WALK OF THE LAW PolicyMatches.
-/
import Derived.Test.YtlhbfpapmolohaaPolS
import Derived.Test.YtlhbfpapmolohaaModRa
namespace Go.Proofs.Ytlhbfpapmolohaa.Mw
set_option linter.unusedSimpArgs false
set_option linter.unusedVariables false
open Go.RowKit Kt Mm Mp Am

set_option maxHeartbeats 8000000 in
theorem walkPolicyMatches (x : PList) (p : Pfx) (W : World) (hx : InRow ePRule 5 W x.v x.rules) (hxA : ∀ y ∈ x.rules, low y.pfx.addr) (ha : low p.addr) :
    Calls Try.prog 3 #[.agg (ePList x).toArray, .agg (ePfx p).toArray] W fun e w' => e = .returned (.bool true) ∧ Below W.heap.size W w' := by
  have hSn := fun wx => plSane wx
  have hV : ∀ wx, Calls Try.prog 9 #[.agg #[.int .u32 (p.addr : Int), .int .i64 p.len]] wx fun e w' => e = .returned (.bool (vPf p)) ∧ Below wx.heap.size wx w' := fun wx => Ad.refValid p.addr p.len wx ha
  have hR := fun (y : PRule) (h : low y.pfx.addr) wx => rPRule y wx h
  have hM1 := fun (y : PRule) wx => plMatches y p wx ha
  have hM2 := fun (y : PRule) wx => rfMatches y p wx ha
  obtain ⟨X, hX⟩ : ∃ X, X = (ePList x).toArray := ⟨_, rfl⟩
  obtain ⟨Y, hY⟩ : ∃ Y, Y = (ePfx p).toArray := ⟨_, rfl⟩
  obtain ⟨w2, hw2⟩ : ∃ w2, (W.alloc (.cells X 24)).alloc (.cells Y 27) = w2 := ⟨_, rfl⟩
  have hhX : w2.heap[W.heap.size]? = some (.cells X 24 (0, 0)) := by rw [← hw2, Below.heap_alloc _ _ _ (by simp), heap_new]
  have hhY : w2.heap[W.heap.size + 1]? = some (.cells Y 27 (0, 0)) := by rw [← hw2]; have h := heap_new (W.alloc (.cells X 24)) (.cells Y 27 (0, 0)); rwa [new_size] at h
  have FX1 : ∀ v : World, Below w2.heap.size w2 v → v.cell? ⟨W.heap.size, 1, none⟩ = some (x.v) := fun v h => box_at (blk_keep hhX h) (by rw [hX]; rfl)
  have KX : ∀ v : World, Below w2.heap.size w2 v → v.heap[W.heap.size]? = some (.cells X 24 (0, 0)) := fun v h => blk_keep hhX h
  have FY0 : ∀ v : World, Below w2.heap.size w2 v → v.cell? ⟨W.heap.size + 1, 0, none⟩ = some (.int .u32 (p.addr : Int)) := fun v h => box_at (blk_keep hhY h) (by rw [hY]; rfl)
  have FY1 : ∀ v : World, Below w2.heap.size w2 v → v.cell? ⟨W.heap.size + 1, 1, none⟩ = some (.int .i64 p.len) := fun v h => box_at (blk_keep hhY h) (by rw [hY]; rfl)
  have Gw2 : Below w2.heap.size w2 w2 := Below.refl _ _
  have Hw2 := hid (show Below W.heap.size W w2 by rw [← hw2]; exact al2 _ _ _)
  have hX' := hid hX
  have hY' := hid hY
  try rw [← hX]
  try rw [← hY]
  clear hX hY hhX hhY
  have hXs : X.size = 2 := by rw [hX'.out]; rfl
  have hF1 := fun wx (h : Below w2.heap.size w2 wx) => plFirst x p wx (hx.keep (then_ Hw2.out h)) ha
  have hF2 := fun wx (h : Below w2.heap.size w2 wx) => rfFirst x p wx (hx.keep (then_ Hw2.out h)) ha
  obtain ⟨q, hq⟩ : ∃ q, q = fpI x.rules p := ⟨_, rfl⟩
  obtain ⟨vp, hvp⟩ : ∃ q, q = vPf p := ⟨_, rfl⟩
  rw [← hX'.out, ← hq] at hF1 hF2
  rw [← hvp] at hV
  simp only [ePfx] at hM1 hM2 hF1 hF2
  obtain ⟨l, hl⟩ : ∃ l, l = x.rules := ⟨_, rfl⟩
  obtain ⟨a, cap, hv, hcap, hcell⟩ := rows_open (z := 5) (by decide) hx.row
  have hlen := hx.len
  rw [← hl] at hv hcap hcell hlen hxA
  obtain ⟨n, hn⟩ : ∃ n, n = l.length := ⟨_, rfl⟩
  rw [← hn] at hv hcap hcell hlen
  rw [hv] at FX1
  have N := hid hn
  have HC := hid hcell
  have XA := hid hxA
  clear hcell hn hl hx hv hq hvp ha hxA
  obtain ⟨P, hP⟩ : ∃ P, P = Try.prog := ⟨_, rfl⟩
  have HP := hid hP
  have mixed : P.follows .mixedOrders = true := by rw [hP]; kernel_rfl
  have FG : P.funcs[3]? = some Try.f3 := by rw [hP]; exact Try.func3
  obtain ⟨zPrefixList, hzPrefixList⟩ : ∃ z, z = 2 := ⟨_, rfl⟩
  have nzPrefixList : ¬ zPrefixList = 0 := by omega
  obtain ⟨zPrefixRule, hzPrefixRule⟩ : ∃ z, z = 5 := ⟨_, rfl⟩
  have nzPrefixRule : ¬ zPrefixRule = 0 := by omega
  have ty3 := Try.underlying3; have ag3 := Try.isAgg3; have sz3 := Try.sizeOf3; have ru3 := Try.runUnderlying3
  have ty4 := Try.underlying4; have ag4 := Try.isAgg4; have sz4 := Try.sizeOf4; have ru4 := Try.runUnderlying4
  have ty22 := Try.underlying22; have ag22 := Try.isAgg22; have sz22 := Try.sizeOf22; have ru22 := Try.runUnderlying22
  have ty24 := Try.underlying24; have ag24 := Try.isAgg24; have sz24 := Try.sizeOf24; have ru24 := Try.runUnderlying24
  rw [← hzPrefixList] at sz24
  have ty27 := Try.underlying27; have ag27 := Try.isAgg27; have sz27 := Try.sizeOf27; have ru27 := Try.runUnderlying27
  have ty31 := Try.underlying31; have ag31 := Try.isAgg31; have sz31 := Try.sizeOf31; have ru31 := Try.runUnderlying31
  rw [← hzPrefixRule] at sz31
  have en0 : ∀ args w, (callFunc 15 args).run Try.prog w = .ok (.enter 15 args) w := enters_of Try.func15 (by kernel_rfl) rfl
  have en1 : ∀ args w, (callFunc 9 args).run Try.prog w = .ok (.enter 9 args) w := enters_of Try.func9 (by kernel_rfl) rfl
  have en2 : ∀ args w, (callFunc 14 args).run Try.prog w = .ok (.enter 14 args) w := enters_of Try.func14 (by kernel_rfl) rfl
  have en3 : ∀ args w, (callFunc 12 args).run Try.prog w = .ok (.enter 12 args) w := enters_of Try.func12 (by kernel_rfl) rfl
  have en4 : ∀ args w, (callFunc 10 args).run Try.prog w = .ok (.enter 10 args) w := enters_of Try.func10 (by kernel_rfl) rfl
  have en5 : ∀ args w, (callFunc 13 args).run Try.prog w = .ok (.enter 13 args) w := enters_of Try.func13 (by kernel_rfl) rfl
  have en6 : ∀ args w, (callFunc 11 args).run Try.prog w = .ok (.enter 11 args) w := enters_of Try.func11 (by kernel_rfl) rfl
  rw [← hP] at ty3 ag3 sz3 ru3 ty4 ag4 sz4 ru4 ty22 ag22 sz22 ru22 ty24 ag24 sz24 ru24 ty27 ag27 sz27 ru27 ty31 ag31 sz31 ru31 en0 en1 en2 en3 en4 en5 en6 hSn hV hR hM1 hM2 hF1 hF2 ⊢
  clear hP
  have LX : ∀ v : World, Below w2.heap.size w2 v → Sem.run P (loadCellsFrom ⟨W.heap.size, 0, none⟩ 0 zPrefixList #[]) v = .ok X v := fun v h => ld_box P (KX v h) (by rw [hzPrefixList]; exact hXs)
  have ZP := hid hzPrefixRule
  clear hzPrefixRule hzPrefixList KX hXs
  by_cases h40 : 40 < n
  · have h40i : (40 : Int) < (n : Int) := by omega
    go_enter FG, Try.ntmps3
    repeat' (first | (go_at_call 9; with_reducible refine (hV _).mono ?_; rintro e w' ⟨rfl, b⟩; have b' := then_ (w := w2) (by assumption) b; clear b; try dsimp only) | go_skip | go_big_skip | go_big_want | go_big_guard | go_step | go_upon)
    go_ret
    exact ⟨rfl, Hw2.out⟩
  have h40i : ¬ (40 : Int) < (n : Int) := by omega
  cases vp
  case false =>
    go_enter FG, Try.ntmps3
    repeat' (first | (go_at_call 9; with_reducible refine (hV _).mono ?_; rintro e w' ⟨rfl, b⟩; have b' := then_ (w := w2) (by assumption) b; clear b; try dsimp only) | go_skip | go_big_skip | go_big_want | go_big_guard | go_step | go_upon)
    go_ret
    exact ⟨rfl, then_ Hw2.out (by assumption)⟩
  go_enter FG, Try.ntmps3
  repeat' (first | (go_at_call 9; with_reducible refine (hV _).mono ?_; rintro e w' ⟨rfl, b⟩; have b' := then_ (w := w2) (by assumption) b; clear b; try dsimp only) | go_skip | go_big_skip | go_big_want | go_big_guard | go_step | go_upon)
  clear hV
  go_loopg [5] n (fun gg s5 wr => ∃ k : Nat, k ≤ n ∧ n - k ≤ gg ∧ s5 = .int .i64 k ∧ Below w2.heap.size w2 wr)
  case atStart => exact ⟨0, Nat.zero_le _, by omega, rfl, by assumption⟩
  case round =>
    obtain ⟨k, hk, hg, rfl, hwr⟩ := hrel
    have fx1 := FX1 wr hwr
    have GR : Below wr.heap.size wr wr := Below.refl _ _
    by_cases hlt : k < n
    · have hlti : (k : Int) < (n : Int) := by omega
      have hk0 : (0 : Int) ≤ (k : Int) := by omega
      obtain ⟨y, hy⟩ := get_some (l := l) (k := k) (by have := N.out; omega)
      obtain ⟨b, off, rfl, hb, hc⟩ := HC.out (by omega)
      have LY0 : Sem.run P (loadCellsFrom ⟨b, off + k * zPrefixRule, none⟩ 0 zPrefixRule #[]) wr = .ok (ePRule y).toArray wr := by
        rw [ZP.out]; exact ld_row (f := ePRule) (z := 5) P (fun _ => rfl) (fun j u hj => ((then_ Hw2.out hwr).cell (p := ⟨b, off + j, none⟩) hb).trans (hc j u hj)) hy
      have cR := fun wx => hR y (XA.out y (get_mem hy)) wx
      obtain ⟨V, hV⟩ : ∃ V, V = (ePRule y).toArray := ⟨_, rfl⟩
      obtain ⟨o, ho⟩ : ∃ o, o = pruleOk y := ⟨_, rfl⟩
      rw [← hV] at LY0 cR
      rw [← ho] at cR
      clear hV ho hy hc
      cases o
      case false =>
        repeat' (first | (go_at_call 10; with_reducible refine (cR _).mono ?_; rintro e w' ⟨rfl, b⟩; have b' := then_ (w := wr) (by assumption) b; clear b; try dsimp only) | go_skip | go_guarded | go_step | go_upon)
        go_ret
        exact ⟨rfl, then_ Hw2.out (then_ hwr (by assumption))⟩
      case true =>
        repeat' (first | (go_at_call 10; with_reducible refine (cR _).mono ?_; rintro e w' ⟨rfl, b⟩; have b' := then_ (w := wr) (by assumption) b; clear b; try dsimp only) | go_skip | go_guarded | go_step | go_upon)
        go_roundg (n - (k + 1))
        case measure => omega
        case rel => exact ⟨k + 1, by omega, by omega, by go_num, then_ hwr (by assumption)⟩
    · have hlti : ¬ (k : Int) < (n : Int) := by omega
      repeat' (first | go_skip | go_guarded | go_step | go_upon)
      have HWR := hid hwr
      clear hwr fx1
      have hwr2 := HWR.out
      go_loopg [6] n (fun gg s6 wr => ∃ k : Nat, k ≤ n ∧ n - k ≤ gg ∧ s6 = .int .i64 k ∧ Below w2.heap.size w2 wr)
      case atStart => exact ⟨0, Nat.zero_le _, by omega, rfl, by assumption⟩
      case round =>
        obtain ⟨i, hi, hgi, rfl, hwr3⟩ := hrel
        have fx1 := FX1 wr hwr3
        have GR : Below wr.heap.size wr wr := Below.refl _ _
        have uX1 := fun u : Later wr.heap.size wr => FX1 u.w (then_ hwr3 u.h)
        have uf0 := fun u : Later wr.heap.size wr => FY0 u.w (then_ hwr3 u.h)
        have uf1 := fun u : Later wr.heap.size wr => FY1 u.w (then_ hwr3 u.h)
        by_cases him : i < n
        · have himi : (i : Int) < (n : Int) := by omega
          have hi0 : (0 : Int) ≤ (i : Int) := by omega
          obtain ⟨y, hy⟩ := get_some (l := l) (k := i) (by have := N.out; omega)
          obtain ⟨b, off, rfl, hb, hc⟩ := HC.out (by omega)
          have uL : ∀ u : Later wr.heap.size wr, Sem.run P (loadCellsFrom ⟨b, off + i * zPrefixRule, none⟩ 0 zPrefixRule #[]) u.w = .ok (ePRule y).toArray u.w := fun u => by
            rw [ZP.out]; exact ld_row (f := ePRule) (z := 5) P (fun _ => rfl) (fun j v hj => ((then_ Hw2.out (then_ hwr3 u.h)).cell (p := ⟨b, off + j, none⟩) hb).trans (hc j v hj)) hy
          have c1 := fun wx => hM1 y wx
          have c2 := fun wx => hM2 y wx
          obtain ⟨V, hV⟩ : ∃ V, V = (ePRule y).toArray := ⟨_, rfl⟩
          obtain ⟨o, ho⟩ : ∃ o, o = mtB y p := ⟨_, rfl⟩
          rw [← hV] at uL c1 c2
          rw [← ho] at c1 c2
          clear hV ho hy hc
          repeat' (first | go_skip | go_guarded | go_step | go_upon)
          refine wp_region_base wr (by assumption) (by first | assumption | kernel_rfl) (by kernel_rfl) ?_
          repeat (go_big_quiet_step (first | (go_at_call 11; with_reducible exact later_of (Nat.le_refl _) (c1 _)) | (go_at_call 12; with_reducible exact later_of (Nat.le_refl _) (c2 _))))
          refine wpQuiet_nil ?_
          rintro _ ⟨u, rfl⟩
          have bu := u.h
          repeat' (first | go_skip | go_guarded | go_step | go_upon)
          go_roundg (n - (i + 1))
          case measure => omega
          case rel => exact ⟨i + 1, by omega, by omega, by go_num, then_ hwr3 (by assumption)⟩
        · have himi : ¬ (i : Int) < (n : Int) := by omega
          have uL := fun u : Later wr.heap.size wr => LX u.w (then_ hwr3 u.h)
          have c1 := fun u : Later wr.heap.size wr => hF1 u.w (then_ hwr3 u.h)
          have c2 := fun u : Later wr.heap.size wr => hF2 u.w (then_ hwr3 u.h)
          repeat' (first | go_skip | go_guarded | go_step | go_upon)
          refine wp_region_base wr (by assumption) (by first | assumption | kernel_rfl) (by kernel_rfl) ?_
          repeat (go_big_quiet_step (first | (go_at_call 13; with_reducible exact later_of (Nat.le_refl _) (c1 _)) | (go_at_call 14; with_reducible exact later_of (Nat.le_refl _) (c2 _)) | (go_at_call 15; with_reducible exact later_of (Nat.le_refl _) (hSn _))))
          refine wpQuiet_nil ?_
          rintro _ ⟨u, rfl⟩
          have bu := u.h
          repeat' (first | go_skip | go_guarded | go_step | go_upon)
          go_ret
          exact ⟨rfl, then_ Hw2.out (then_ hwr3 (by assumption))⟩
end Go.Proofs.Ytlhbfpapmolohaa.Mw
