/-
  PolicyAppliesZ: PolU, PolV, PolW, PolX, PolY, PolicyAppliesW, PolicyAppliesL, joined.
-/
import Derived.Test.YtlhbfpapmolohaaPolH
import Derived.Test.YtlhbfpapmolohaaModRa
import Derived.Test.YtlhbfpapmolohaaPolT
import Derived.Test.YtlhbfpapmolohaaPolF
import Derived.BigRegion
import Derived.Deep.RegionHeld3
import Derived.Test.YtlhbfpapmolohaaRows
import Derived.Test.YtlhbfpapmolohaaPolO
import Derived.WalkKit
import Derived.ProofKit
import Derived.OpenShut
import Derived.ShutString
import Derived.ChangeOld
import Derived.Below
import Derived.Lib.SmallJoins
import Derived.ChangeMaps5
/-
  THE CONTRACT OF THE LAW'S Same, FOR TWO ROUTES THAT ARE EQUAL.
-/
namespace Go.Proofs.Ytlhbfpapmolohaa.Mw
set_option linter.unusedSimpArgs false
set_option linter.unusedVariables false
open Go.RowKit Kt Mm Mp Am

set_option maxHeartbeats 1000000 in
theorem eqInHop (d : Nat) (x y : Hp) (w : World) : (Op.equalIn (d + 2) 91 (.agg (eHp x).toArray) (.agg (eHp y).toArray)).run Try.prog w = .ok (decide (x = y)) w := by
  have hS : Try.prog.underlying 91 = some (.struct (Try.prog.fieldsOf 91)) := by kernel_rfl
  have hp : Try.prog.stoodInHeld 91 = false := by kernel_rfl
  rw [run_equalIn_agg w _ 91 _ _ hS hp]
  simp only [Program.fieldsOf, Try.underlying91]
  have h : (decide (x = y)) = ((x.ifc == y.ifc) && (((x.addr : Int) == (y.addr : Int)) && true)) := by
    simp only [str_dec, int_dec, bool_dec, nat_dec]
    cases x; cases y
    simp only [Hp.mk.injEq, Bool.decide_and, Bool.and_true]
  rw [h]
  exact (eqF (by decide) (by have a := Try.isAgg3 w; simp only [part, Sem.run_bind, a, Result.andThen_ok, Bool.false_eq_true, if_false]; rfl) (by have a := Try.isAgg3 w; simp only [part, Sem.run_bind, a, Result.andThen_ok, Bool.false_eq_true, if_false]; rfl) (run_equalIn_int w d _ .i64 .i64 x.ifc y.ifc Try.underlying3) (eqF (by decide) (by have a := Try.isAgg25 w; simp only [part, Sem.run_bind, a, Result.andThen_ok, Bool.false_eq_true, if_false]; rfl) (by have a := Try.isAgg25 w; simp only [part, Sem.run_bind, a, Result.andThen_ok, Bool.false_eq_true, if_false]; rfl) (run_equalIn_int w d _ .u32 .u32 (x.addr : Int) (y.addr : Int) Try.underlying25) eqF0))

set_option maxHeartbeats 8000000 in
set_option maxRecDepth 16000 in
theorem same0 (x : Rte) (vP vH : Value) (w : World) (hx : RteIn w x) (h1 : InRow eInt 1 w vP x.path) (h2 : InRow eHp 2 w vH x.hops) :
    Calls Try.prog 24 #[.agg (eRte x).toArray, .agg (eRte { x with vPath := vP, vHops := vH }).toArray] w fun e w' => e = .returned (.bool true) ∧ Below w.heap.size w w' := by
  have hEp : ∀ wx, (Op.equalIn 10000 27 (.agg #[.int .u32 (x.pfx.addr : Int), .int .i64 x.pfx.len]) (.agg #[.int .u32 (x.pfx.addr : Int), .int .i64 x.pfx.len])).run Try.prog wx = .ok true wx := fun wx => (eqInPfx 9998 x.pfx x.pfx wx).trans (by rw [decide_eq_true rfl])
  have hEh : ∀ (h : Hp) wx, (Op.equalIn 10000 91 (.agg (eHp h).toArray) (.agg (eHp h).toArray)).run Try.prog wx = .ok true wx := fun h wx => (eqInHop 9998 h h wx).trans (by rw [decide_eq_true rfl])
  have hGp : ∀ (op : BinOp) (s t : Operand) (p q : Array Value) wx, (eqGuard op 27 s t (.agg p) (.agg q)).run Try.prog wx = .ok () wx := fun op s t p q wx => run_eqGuard_agg wx op _ s t p q (by kernel_rfl)
  have hGh : ∀ (op : BinOp) (s t : Operand) (p q : Array Value) wx, (eqGuard op 91 s t (.agg p) (.agg q)).run Try.prog wx = .ok () wx := fun op s t p q wx => run_eqGuard_agg wx op _ s t p q (by kernel_rfl)
  obtain ⟨v1, hv1⟩ : ∃ v, v = x.vPath := ⟨_, rfl⟩
  obtain ⟨v2, hv2⟩ : ∃ v, v = x.vHops := ⟨_, rfl⟩
  obtain ⟨a1, p1, e1, hp1, c1⟩ := rows_open (z := 1) (by decide) hx.path.row
  obtain ⟨a2, p2, e2, hp2, c2⟩ := rows_open (z := 2) (by decide) hx.hops.row
  obtain ⟨a3, p3, e3, hp3, c3⟩ := rows_open (z := 1) (by decide) h1.row
  obtain ⟨a4, p4, e4, hp4, c4⟩ := rows_open (z := 2) (by decide) h2.row
  have l1 := h1.len
  have l2 := h2.len
  obtain ⟨X, hX⟩ : ∃ X, X = (eRte x).toArray := ⟨_, rfl⟩
  obtain ⟨Y, hY⟩ : ∃ Y, Y = (eRte { x with vPath := vP, vHops := vH }).toArray := ⟨_, rfl⟩
  obtain ⟨w2, hw2⟩ : ∃ w2, (w.alloc (.cells X 62)).alloc (.cells Y 62) = w2 := ⟨_, rfl⟩
  have hhX : w2.heap[w.heap.size]? = some (.cells X 62 (0, 0)) := by rw [← hw2, Below.heap_alloc _ _ _ (by simp), heap_new]
  have hhY : w2.heap[w.heap.size + 1]? = some (.cells Y 62 (0, 0)) := by rw [← hw2]; have h := heap_new (w.alloc (.cells X 62)) (.cells Y 62 (0, 0)); rwa [new_size] at h
  have FX0 : ∀ v : World, Below w2.heap.size w2 v → v.cell? ⟨w.heap.size, 0, none⟩ = some (.int .u32 (x.pfx.addr : Int)) := fun v h => box_at (blk_keep hhX h) (by rw [hX]; rfl)
  have FX1 : ∀ v : World, Below w2.heap.size w2 v → v.cell? ⟨w.heap.size, 1, none⟩ = some (.int .i64 x.pfx.len) := fun v h => box_at (blk_keep hhX h) (by rw [hX]; rfl)
  have FX2 : ∀ v : World, Below w2.heap.size w2 v → v.cell? ⟨w.heap.size, 2, none⟩ = some (.int .i64 x.proto) := fun v h => box_at (blk_keep hhX h) (by rw [hX]; rfl)
  have FX3 : ∀ v : World, Below w2.heap.size w2 v → v.cell? ⟨w.heap.size, 3, none⟩ = some (.int .i64 x.cls) := fun v h => box_at (blk_keep hhX h) (by rw [hX]; rfl)
  have FX4 : ∀ v : World, Below w2.heap.size w2 v → v.cell? ⟨w.heap.size, 4, none⟩ = some (.int .i64 x.admin) := fun v h => box_at (blk_keep hhX h) (by rw [hX]; rfl)
  have FX5 : ∀ v : World, Below w2.heap.size w2 v → v.cell? ⟨w.heap.size, 5, none⟩ = some (.int .i64 x.metric) := fun v h => box_at (blk_keep hhX h) (by rw [hX]; rfl)
  have FX6 : ∀ v : World, Below w2.heap.size w2 v → v.cell? ⟨w.heap.size, 6, none⟩ = some (.int .i64 x.inner) := fun v h => box_at (blk_keep hhX h) (by rw [hX]; rfl)
  have FX7 : ∀ v : World, Below w2.heap.size w2 v → v.cell? ⟨w.heap.size, 7, none⟩ = some (.int .i64 x.tag) := fun v h => box_at (blk_keep hhX h) (by rw [hX]; rfl)
  have FX8 : ∀ v : World, Below w2.heap.size w2 v → v.cell? ⟨w.heap.size, 8, none⟩ = some (.int .i64 x.pref) := fun v h => box_at (blk_keep hhX h) (by rw [hX]; rfl)
  have FX9 : ∀ v : World, Below w2.heap.size w2 v → v.cell? ⟨w.heap.size, 9, none⟩ = some (x.vPath) := fun v h => box_at (blk_keep hhX h) (by rw [hX]; rfl)
  have FX10 : ∀ v : World, Below w2.heap.size w2 v → v.cell? ⟨w.heap.size, 10, none⟩ = some (.int .u32 (x.frm : Int)) := fun v h => box_at (blk_keep hhX h) (by rw [hX]; rfl)
  have FX11 : ∀ v : World, Below w2.heap.size w2 v → v.cell? ⟨w.heap.size, 11, none⟩ = some (.int .u32 (x.next : Int)) := fun v h => box_at (blk_keep hhX h) (by rw [hX]; rfl)
  have FX12 : ∀ v : World, Below w2.heap.size w2 v → v.cell? ⟨w.heap.size, 12, none⟩ = some (x.vHops) := fun v h => box_at (blk_keep hhX h) (by rw [hX]; rfl)
  have FX13 : ∀ v : World, Below w2.heap.size w2 v → v.cell? ⟨w.heap.size, 13, none⟩ = some (.bool x.discard) := fun v h => box_at (blk_keep hhX h) (by rw [hX]; rfl)
  have FY0 : ∀ v : World, Below w2.heap.size w2 v → v.cell? ⟨w.heap.size + 1, 0, none⟩ = some (.int .u32 (x.pfx.addr : Int)) := fun v h => box_at (blk_keep hhY h) (by rw [hY]; rfl)
  have FY1 : ∀ v : World, Below w2.heap.size w2 v → v.cell? ⟨w.heap.size + 1, 1, none⟩ = some (.int .i64 x.pfx.len) := fun v h => box_at (blk_keep hhY h) (by rw [hY]; rfl)
  have FY2 : ∀ v : World, Below w2.heap.size w2 v → v.cell? ⟨w.heap.size + 1, 2, none⟩ = some (.int .i64 x.proto) := fun v h => box_at (blk_keep hhY h) (by rw [hY]; rfl)
  have FY3 : ∀ v : World, Below w2.heap.size w2 v → v.cell? ⟨w.heap.size + 1, 3, none⟩ = some (.int .i64 x.cls) := fun v h => box_at (blk_keep hhY h) (by rw [hY]; rfl)
  have FY4 : ∀ v : World, Below w2.heap.size w2 v → v.cell? ⟨w.heap.size + 1, 4, none⟩ = some (.int .i64 x.admin) := fun v h => box_at (blk_keep hhY h) (by rw [hY]; rfl)
  have FY5 : ∀ v : World, Below w2.heap.size w2 v → v.cell? ⟨w.heap.size + 1, 5, none⟩ = some (.int .i64 x.metric) := fun v h => box_at (blk_keep hhY h) (by rw [hY]; rfl)
  have FY6 : ∀ v : World, Below w2.heap.size w2 v → v.cell? ⟨w.heap.size + 1, 6, none⟩ = some (.int .i64 x.inner) := fun v h => box_at (blk_keep hhY h) (by rw [hY]; rfl)
  have FY7 : ∀ v : World, Below w2.heap.size w2 v → v.cell? ⟨w.heap.size + 1, 7, none⟩ = some (.int .i64 x.tag) := fun v h => box_at (blk_keep hhY h) (by rw [hY]; rfl)
  have FY8 : ∀ v : World, Below w2.heap.size w2 v → v.cell? ⟨w.heap.size + 1, 8, none⟩ = some (.int .i64 x.pref) := fun v h => box_at (blk_keep hhY h) (by rw [hY]; rfl)
  have FY9 : ∀ v : World, Below w2.heap.size w2 v → v.cell? ⟨w.heap.size + 1, 9, none⟩ = some (vP) := fun v h => box_at (blk_keep hhY h) (by rw [hY]; rfl)
  have FY10 : ∀ v : World, Below w2.heap.size w2 v → v.cell? ⟨w.heap.size + 1, 10, none⟩ = some (.int .u32 (x.frm : Int)) := fun v h => box_at (blk_keep hhY h) (by rw [hY]; rfl)
  have FY11 : ∀ v : World, Below w2.heap.size w2 v → v.cell? ⟨w.heap.size + 1, 11, none⟩ = some (.int .u32 (x.next : Int)) := fun v h => box_at (blk_keep hhY h) (by rw [hY]; rfl)
  have FY12 : ∀ v : World, Below w2.heap.size w2 v → v.cell? ⟨w.heap.size + 1, 12, none⟩ = some (vH) := fun v h => box_at (blk_keep hhY h) (by rw [hY]; rfl)
  have FY13 : ∀ v : World, Below w2.heap.size w2 v → v.cell? ⟨w.heap.size + 1, 13, none⟩ = some (.bool x.discard) := fun v h => box_at (blk_keep hhY h) (by rw [hY]; rfl)
  have Gw2 : Below w2.heap.size w2 w2 := Below.refl _ _
  have Hw2 := hid (show Below w.heap.size w w2 by rw [← hw2]; exact al2 _ _ _)
  have hX' := hid hX
  have hY' := hid hY
  try rw [← hX]
  try rw [← hY]
  clear hX hY hhX hhY
  obtain ⟨n, hn⟩ : ∃ n, n = x.path.length := ⟨_, rfl⟩
  obtain ⟨m, hm⟩ : ∃ n, n = x.hops.length := ⟨_, rfl⟩
  rw [← hn] at e1 e3 hp1 hp3 c1 c3 l1
  rw [← hm] at e2 e4 hp2 hp4 c2 c4 l2
  rw [e1] at FX9
  rw [e2] at FX12
  rw [e3] at FY9
  rw [e4] at FY12
  obtain ⟨ps, hps⟩ : ∃ q, q = x.path := ⟨_, rfl⟩
  obtain ⟨hs, hhs⟩ : ∃ q, q = x.hops := ⟨_, rfl⟩
  obtain ⟨q0, hq0⟩ : ∃ q : Int, q = (x.pfx.addr : Int) := ⟨_, rfl⟩
  obtain ⟨q1, hq1⟩ : ∃ q : Int, q = x.pfx.len := ⟨_, rfl⟩
  obtain ⟨q2, hq2⟩ : ∃ q : Int, q = x.proto := ⟨_, rfl⟩
  obtain ⟨q3, hq3⟩ : ∃ q : Int, q = x.cls := ⟨_, rfl⟩
  obtain ⟨q4, hq4⟩ : ∃ q : Int, q = x.admin := ⟨_, rfl⟩
  obtain ⟨q5, hq5⟩ : ∃ q : Int, q = x.metric := ⟨_, rfl⟩
  obtain ⟨q6, hq6⟩ : ∃ q : Int, q = x.inner := ⟨_, rfl⟩
  obtain ⟨q7, hq7⟩ : ∃ q : Int, q = x.tag := ⟨_, rfl⟩
  obtain ⟨q8, hq8⟩ : ∃ q : Int, q = x.pref := ⟨_, rfl⟩
  obtain ⟨q10, hq10⟩ : ∃ q : Int, q = (x.frm : Int) := ⟨_, rfl⟩
  obtain ⟨q11, hq11⟩ : ∃ q : Int, q = (x.next : Int) := ⟨_, rfl⟩
  obtain ⟨q13, hq13⟩ : ∃ q : Bool, q = x.discard := ⟨_, rfl⟩
  rw [← hps] at hn c1 c3
  rw [← hhs] at hm c2 c4
  rw [← hq0, ← hq1] at hEp
  rw [← hq0] at FX0 FY0
  rw [← hq1] at FX1 FY1
  rw [← hq2] at FX2 FY2
  rw [← hq3] at FX3 FY3
  rw [← hq4] at FX4 FY4
  rw [← hq5] at FX5 FY5
  rw [← hq6] at FX6 FY6
  rw [← hq7] at FX7 FY7
  rw [← hq8] at FX8 FY8
  rw [← hq10] at FX10 FY10
  rw [← hq11] at FX11 FY11
  rw [← hq13] at FX13 FY13
  have N := hid hn
  have M := hid hm
  have C1 := hid c1
  have C2 := hid c2
  have C3 := hid c3
  have C4 := hid c4
  clear c1 c2 c3 c4 e1 e2 e3 e4 hp1 hp2 hp3 hp4 hx h1 h2 hv1 hv2 hq0 hq1 hq2 hq3 hq4 hq5 hq6 hq7 hq8 hq10 hq11 hq13 hn hm hps hhs v1 v2
  obtain ⟨P, hP⟩ : ∃ P, P = Try.prog := ⟨_, rfl⟩
  have HP := hid hP
  have mixed : P.follows .mixedOrders = true := by rw [hP]; kernel_rfl
  have FG : P.funcs[24]? = some Try.f24 := by rw [hP]; exact Try.func24
  obtain ⟨zRoute, hzRoute⟩ : ∃ z, z = 14 := ⟨_, rfl⟩
  have nzRoute : ¬ zRoute = 0 := by omega
  obtain ⟨zHop, hzHop⟩ : ∃ z, z = 2 := ⟨_, rfl⟩
  have nzHop : ¬ zHop = 0 := by omega
  have ty3 := Try.underlying3; have ag3 := Try.isAgg3; have sz3 := Try.sizeOf3; have ru3 := Try.runUnderlying3
  have ty4 := Try.underlying4; have ag4 := Try.isAgg4; have sz4 := Try.sizeOf4; have ru4 := Try.runUnderlying4
  have ty25 := Try.underlying25; have ag25 := Try.isAgg25; have sz25 := Try.sizeOf25; have ru25 := Try.runUnderlying25
  have ty27 := Try.underlying27; have ag27 := Try.isAgg27; have sz27 := Try.sizeOf27; have ru27 := Try.runUnderlying27
  have ty59 := Try.underlying59; have ag59 := Try.isAgg59; have sz59 := Try.sizeOf59; have ru59 := Try.runUnderlying59
  have ty60 := Try.underlying60; have ag60 := Try.isAgg60; have sz60 := Try.sizeOf60; have ru60 := Try.runUnderlying60
  have ty62 := Try.underlying62; have ag62 := Try.isAgg62; have sz62 := Try.sizeOf62; have ru62 := Try.runUnderlying62
  rw [← hzRoute] at sz62
  have ty91 := Try.underlying91; have ag91 := Try.isAgg91; have sz91 := Try.sizeOf91; have ru91 := Try.runUnderlying91
  rw [← hzHop] at sz91
  rw [← hP] at ty3 ag3 sz3 ru3 ty4 ag4 sz4 ru4 ty25 ag25 sz25 ru25 ty27 ag27 sz27 ru27 ty59 ag59 sz59 ru59 ty60 ag60 sz60 ru60 ty62 ag62 sz62 ru62 ty91 ag91 sz91 ru91 hEp hEh hGp hGh ⊢
  clear hP
  have ZH := hid hzHop
  clear hzHop hzRoute
  go_enter FG, Try.ntmps24
  repeat' (first | go_skip | go_big_skip | go_big_want | go_big_guard | go_step | go_upon)
  clear FX0 FX1 FX2 FX3 FX4 FX5 FX6 FX7 FX8 FX10 FX11 FX13 FY0 FY1 FY2 FY3 FY4 FY5 FY6 FY7 FY8 FY10 FY11 FY13 hEp hGp
  go_loopg [5] n (fun gg s5 wr => ∃ k : Nat, k ≤ n ∧ n - k ≤ gg ∧ s5 = .int .i64 k ∧ Below w2.heap.size w2 wr)
  case atStart => exact ⟨0, Nat.zero_le _, by omega, rfl, by assumption⟩
  case round =>
    obtain ⟨k, hk, hg, rfl, hwr⟩ := hrel
    have f9 := FX9 wr hwr
    have g9 := FY9 wr hwr
    have GR : Below wr.heap.size wr wr := Below.refl _ _
    by_cases hlt : k < n
    · have hlti : (k : Int) < (n : Int) := by omega
      have hk0 : (0 : Int) ≤ (k : Int) := by omega
      obtain ⟨y, hy⟩ := get_some (l := ps) (k := k) (by have := N.out; omega)
      obtain ⟨b, off, rfl, hb, hc⟩ := C1.out (by omega)
      obtain ⟨b3, off3, rfl, hb3, hc3⟩ := C3.out (by omega)
      have uN : ∀ u : Later wr.heap.size wr, u.w.cell? ⟨b, off + k, none⟩ = some (.int .i64 y) := fun u => by
        have := ((then_ Hw2.out (then_ hwr u.h)).cell (p := ⟨b, off + k * 1 + 0, none⟩) hb).trans (row_cells (f := eInt) (z := 1) (fun _ => rfl) hc hy 0 _ rfl)
        rwa [Nat.mul_one, Nat.add_zero] at this
      have uM : ∀ u : Later wr.heap.size wr, u.w.cell? ⟨b3, off3 + k, none⟩ = some (.int .i64 y) := fun u => by
        have := ((then_ Hw2.out (then_ hwr u.h)).cell (p := ⟨b3, off3 + k * 1 + 0, none⟩) hb3).trans (row_cells (f := eInt) (z := 1) (fun _ => rfl) hc3 hy 0 _ rfl)
        rwa [Nat.mul_one, Nat.add_zero] at this
      have u9 := fun u : Later wr.heap.size wr => FX9 u.w (then_ hwr u.h)
      have v9 := fun u : Later wr.heap.size wr => FY9 u.w (then_ hwr u.h)
      clear hc hc3 hy
      repeat' (first | go_skip | go_guarded | go_step | go_upon)
      refine wp_region_base wr (by assumption) (by first | assumption | kernel_rfl) (by kernel_rfl) ?_
      repeat (go_big_quiet_step (first | fail))
      refine wpQuiet_nil ?_
      rintro _ ⟨u, rfl⟩
      have bu := u.h
      repeat' (first | go_skip | go_guarded | go_step | go_upon)
      go_roundg (n - (k + 1))
      case measure => omega
      case rel => exact ⟨k + 1, by omega, by omega, by go_num, then_ hwr (by assumption)⟩
    · have hlti : ¬ (k : Int) < (n : Int) := by omega
      repeat' (first | go_skip | go_guarded | go_step | go_upon)
      have HWR := hid hwr
      clear hwr f9 g9
      have hwr2 := HWR.out
      go_loopg [6] m (fun gg s6 wr => ∃ k : Nat, k ≤ m ∧ m - k ≤ gg ∧ s6 = .int .i64 k ∧ Below w2.heap.size w2 wr)
      case atStart => exact ⟨0, Nat.zero_le _, by omega, rfl, by assumption⟩
      case round =>
        obtain ⟨i, hi, hgi, rfl, hwr3⟩ := hrel
        have f12 := FX12 wr hwr3
        have g12 := FY12 wr hwr3
        have GR : Below wr.heap.size wr wr := Below.refl _ _
        by_cases him : i < m
        · have himi : (i : Int) < (m : Int) := by omega
          have hi0 : (0 : Int) ≤ (i : Int) := by omega
          obtain ⟨y, hy⟩ := get_some (l := hs) (k := i) (by have := M.out; omega)
          obtain ⟨b, off, rfl, hb, hc⟩ := C2.out (by omega)
          obtain ⟨b4, off4, rfl, hb4, hc4⟩ := C4.out (by omega)
          have uL : ∀ u : Later wr.heap.size wr, Sem.run P (loadCellsFrom ⟨b, off + i * zHop, none⟩ 0 zHop #[]) u.w = .ok (eHp y).toArray u.w := fun u => by
            rw [ZH.out]; exact ld_row (f := eHp) (z := 2) P (fun _ => rfl) (fun j v hj => ((then_ Hw2.out (then_ hwr3 u.h)).cell (p := ⟨b, off + j, none⟩) hb).trans (hc j v hj)) hy
          have uM : ∀ u : Later wr.heap.size wr, Sem.run P (loadCellsFrom ⟨b4, off4 + i * zHop, none⟩ 0 zHop #[]) u.w = .ok (eHp y).toArray u.w := fun u => by
            rw [ZH.out]; exact ld_row (f := eHp) (z := 2) P (fun _ => rfl) (fun j v hj => ((then_ Hw2.out (then_ hwr3 u.h)).cell (p := ⟨b4, off4 + j, none⟩) hb4).trans (hc4 j v hj)) hy
          have u12 := fun u : Later wr.heap.size wr => FX12 u.w (then_ hwr3 u.h)
          have v12 := fun u : Later wr.heap.size wr => FY12 u.w (then_ hwr3 u.h)
          have hEy := fun wx => hEh y wx
          obtain ⟨V, hV⟩ : ∃ V, V = (eHp y).toArray := ⟨_, rfl⟩
          rw [← hV] at uL uM hEy
          clear hV hy hc hc4
          repeat' (first | go_skip | go_guarded | go_step | go_upon)
          refine wp_region_base wr (by assumption) (by first | assumption | kernel_rfl) (by kernel_rfl) ?_
          repeat (go_big_quiet_step (first | fail))
          refine wpQuiet_nil ?_
          rintro _ ⟨u, rfl⟩
          have bu := u.h
          repeat' (first | go_skip | go_guarded | go_step | go_upon)
          go_roundg (m - (i + 1))
          case measure => omega
          case rel => exact ⟨i + 1, by omega, by omega, by go_num, then_ hwr3 (by assumption)⟩
        · have himi : ¬ (i : Int) < (m : Int) := by omega
          repeat' (first | go_skip | go_guarded | go_step | go_upon)
          go_ret
          exact ⟨rfl, then_ Hw2.out hwr3⟩

theorem sameC (x y : Rte) (w : World) (hx : RteIn w x) (hy : RteIn w y) (hl : Like x y) :
    Calls Try.prog 24 #[.agg (eRte x).toArray, .agg (eRte y).toArray] w fun e w' => e = .returned (.bool true) ∧ Below w.heap.size w w' := by
  have e : y = { x with vPath := y.vPath, vHops := y.vHops } := by
    obtain ⟨h1, h2, h3, h4, h5, h6, h7, h8, h9, h10, h11, h12, h13⟩ := hl
    cases x; cases y; simp_all
  rw [e]
  exact same0 x y.vPath y.vHops w hx (by have := hy.path; rwa [← hl.path] at this) (by have := hy.hops; rwa [← hl.hops] at this)
end Go.Proofs.Ytlhbfpapmolohaa.Mw

/-
  WHAT A VALID ROUTER'S MAPS ARE, AND WHAT APPLYING A MAP TWICE GIVES: PLAIN.
-/
namespace Go.Proofs.Ytlhbfpapmolohaa.Mw
set_option linter.unusedSimpArgs false
set_option linter.unusedVariables false
open Go.RowKit Kt Mm Mp Am

theorem orE_zero : ∀ {l : List Int}, orE l = 0 → ∀ e ∈ l, e = 0
  | [], _, e, he => by cases he
  | x :: l, h, e, he => by
    unfold orE at h
    by_cases hx : x = 0
    · rw [if_pos hx] at h
      rcases List.mem_cons.1 he with rfl | he
      · exact hx
      · exact orE_zero h e he
    · rw [if_neg hx] at h; exact absurd h hx
theorem few_maps {r : Rtr} (h : rtrE (partR r) = 0) : mapsE r.lists r.maps = 0 := orE_zero h _ (by show mapsE r.lists r.maps ∈ checks (partR r); unfold checks; simp [partR])
theorem few_each {r : Rtr} (h : rtrE (partR r) = 0) {j : Nat} {m : RMap} (hj : r.maps[j]? = some m) : headE m.name ((r.maps.take j).any fun y => y.name.toList == m.name.toList) m.clauses.length = 0 ∧ ∀ (i : Nat) (c : Cla), m.clauses[i]? = some c → claE r.lists c = 0 := by
  have h1 := (eachE_ok.1 (few_maps h)).2 j m hj
  unfold rmapE thenE at h1
  split at h1
  next h0 => exact ⟨h0, (eachE_ok.1 h1).2⟩
  next h0 => exact absurd h1 h0
theorem few_named {r : Rtr} (h : rtrE (partR r) = 0) {j : Nat} {m : RMap} (hj : r.maps[j]? = some m) : m.name.toList.isEmpty = false ∧ clsOf r.maps m.name = m.clauses := by
  obtain ⟨h1, h2⟩ := few_each h hj
  unfold headE at h1
  split at h1
  · simp at h1
  next hn =>
    split at h1
    · simp at h1
    next ht =>
      constructor
      · cases he : m.name.toList.isEmpty with
        | false => rfl
        | true =>
          exfalso
          have e2 : m.name.data.toList = [] := by rw [← Lib.toList_data]; simpa using he
          apply hn
          unfold nmB; rw [e2]; rfl
      · have hf : r.maps.find? (fun x => x.name.toList == m.name.toList) = some m := by
          rw [List.find?_eq_some_iff_getElem]
          refine ⟨by simp, j, (List.getElem?_eq_some_iff.1 hj).1, (List.getElem?_eq_some_iff.1 hj).2, fun i hi => ?_⟩
          cases hq : (r.maps[i]'(by have := (List.getElem?_eq_some_iff.1 hj).1; omega)).name.toList == m.name.toList with
          | false => rfl
          | true =>
            exfalso
            apply ht
            rw [List.any_eq_true]
            refine ⟨r.maps[i]'(by have := (List.getElem?_eq_some_iff.1 hj).1; omega), ?_, hq⟩
            rw [List.mem_take_iff_getElem]
            exact ⟨i, by have := (List.getElem?_eq_some_iff.1 hj).1; omega, rfl⟩
        unfold clsOf; rw [hf]
theorem few_cla {r : Rtr} (h : rtrE (partR r) = 0) (s : ByteArray) : ∀ c ∈ clsOf r.maps s, claOk c = true := by
  intro c hc
  unfold clsOf at hc
  split at hc
  · cases hc
  next m hm =>
    obtain ⟨j, hj⟩ := List.getElem?_of_mem (List.mem_of_find?_eq_some hm)
    obtain ⟨i, hi⟩ := List.getElem?_of_mem hc
    have := (few_each h hj).2 i c hi
    unfold claE at this
    split at this
    · simp at this
    · split at this
      · simp at this
      next h0 => simpa using h0

theorem keep_cases (ls : List PList) (ms : List RMap) (s : ByteArray) (x : Rte) (hs : s.toList.isEmpty = false) :
    appO ls ms s x = none ∨ ∃ (c : Cla) (j : Nat), appO ls ms s x = some (setC x c) ∧ clI ls ms s x.pfx x.tag = (j : Int) ∧ j < (clsOf ms s).length ∧ ∀ t, clI ls ms s x.pfx t = (j : Int) → permC ls ms s x.pfx t = some c := by
  rw [app_perm hs]
  rcases ix_find (p := cmB ls x.pfx x.tag) (clsOf ms s) with ⟨h1, h2⟩ | ⟨j, c, h1, h2, h3, h4, h5⟩
  · left; unfold permC; rw [h2]
  · cases hp : c.permit with
    | false => left; unfold permC; rw [h3]; simp [hp]
    | true =>
      right
      refine ⟨c, j, ?_, h1, h5, ?_⟩
      · unfold permC; rw [h3]; simp [hp]
      · intro t ht
        rcases ix_find (p := cmB ls x.pfx t) (clsOf ms s) with ⟨g1, g2⟩ | ⟨i, d, g1, g2, g3, g4, g5⟩
        · unfold clI at ht; rw [g1] at ht; omega
        · unfold clI at ht; rw [g1] at ht
          have : i = j := by omega
          subst this
          rw [h2] at g2; injection g2 with g2; subst g2
          unfold permC; rw [g3]; simp [hp]
theorem rep_rep (a s : Int) : repI (repI a s) s = repI a s := by unfold repI; split <;> simp_all
theorem like_again {x y v : Rte} {c : Cla} (h : Like (setC x c) y) (h2 : Like (setC y c) v) : Like v y := by
  obtain ⟨a1, a2, a3, a4, a5, a6, a7, a8, a9, a10, a11, a12, a13⟩ := h
  obtain ⟨b1, b2, b3, b4, b5, b6, b7, b8, b9, b10, b11, b12, b13⟩ := h2
  simp only [setC] at a5 a7 a8 b1 b2 b3 b4 b5 b6 b7 b8 b9 b10 b11 b12 b13
  exact ⟨b1.symm, b2.symm, b3.symm, b4.symm, by rw [← b5, ← a5, rep_rep], b6.symm, by rw [← b7, ← a7, rep_rep], by rw [← b8, ← a8, rep_rep], b9.symm, b10.symm, b11.symm, b12.symm, b13.symm⟩
theorem like_back {x y : Rte} {c : Cla} (h : Like (setC x c) y) : Like { y with metric := x.metric, tag := x.tag, pref := x.pref } x := by
  obtain ⟨a1, a2, a3, a4, a5, a6, a7, a8, a9, a10, a11, a12, a13⟩ := h
  exact ⟨a1.symm, a2.symm, a3.symm, a4.symm, rfl, a6.symm, rfl, rfl, a9.symm, a10.symm, a11.symm, a12.symm, a13.symm⟩
theorem Like.symm {x y : Rte} (h : Like x y) : Like y x := by
  obtain ⟨a1, a2, a3, a4, a5, a6, a7, a8, a9, a10, a11, a12, a13⟩ := h
  exact ⟨a1.symm, a2.symm, a3.symm, a4.symm, a5.symm, a6.symm, a7.symm, a8.symm, a9.symm, a10.symm, a11.symm, a12.symm, a13.symm⟩
/-- A route that Apply handed back changed: the index of the clause for it is a number of the list's. -/
theorem clI_cases (ls : List PList) (ms : List RMap) (s : ByteArray) (p : Pfx) (t : Int) : clI ls ms s p t = -1 ∨ ∃ j : Nat, clI ls ms s p t = (j : Int) ∧ j < (clsOf ms s).length := by
  rcases ix_find (p := cmB ls p t) (clsOf ms s) with ⟨h1, h2⟩ | ⟨j, c, h1, h2, h3, h4, h5⟩
  · exact .inl h1
  · exact .inr ⟨j, h1, h5⟩
end Go.Proofs.Ytlhbfpapmolohaa.Mw

/-
  THE CONTRACT OF THE REFERENCE's Clause.
-/
namespace Go.Proofs.Ytlhbfpapmolohaa.Mw
set_option linter.unusedSimpArgs false
set_option linter.unusedVariables false
open Go.RowKit Kt Mm Mp Am

set_option maxHeartbeats 40000000 in
theorem rfClause (r : Rtr) (s : ByteArray) (x : Rte) (w : World) (hr : RtrIn w r) (ha : low x.pfx.addr) :
    Calls Try.prog 23 #[.agg (eRtr r).toArray, .string s, .agg (eRte x).toArray] w fun e w' => e = .returned (.int .i64 (clI r.lists r.maps s x.pfx x.tag)) ∧ Below w.heap.size w w' := by
  obtain ⟨X, hX⟩ : ∃ X, X = (eRtr r).toArray := ⟨_, rfl⟩
  obtain ⟨Y, hY⟩ : ∃ Y, Y = (eRte x).toArray := ⟨_, rfl⟩
  obtain ⟨w2, hw2⟩ : ∃ w2, (w.alloc (.cells X 55)).alloc (.cells Y 62) = w2 := ⟨_, rfl⟩
  have hhX : w2.heap[w.heap.size]? = some (.cells X 55 (0, 0)) := by rw [← hw2, Below.heap_alloc _ _ _ (by simp), heap_new]
  have hhY : w2.heap[w.heap.size + 1]? = some (.cells Y 62 (0, 0)) := by rw [← hw2]; have h := heap_new (w.alloc (.cells X 55)) (.cells Y 62 (0, 0)); rwa [new_size] at h
  have KX : ∀ v : World, Below w2.heap.size w2 v → v.heap[w.heap.size]? = some (.cells X 55 (0, 0)) := fun v h => blk_keep hhX h
  have FX4 : ∀ v : World, Below w2.heap.size w2 v → v.cell? ⟨w.heap.size, 4, none⟩ = some (r.vMaps) := fun v h => box_at (blk_keep hhX h) (by rw [hX]; rfl)
  have FY0 : ∀ v : World, Below w2.heap.size w2 v → v.cell? ⟨w.heap.size + 1, 0, none⟩ = some (.int .u32 (x.pfx.addr : Int)) := fun v h => box_at (blk_keep hhY h) (by rw [hY]; rfl)
  have FY1 : ∀ v : World, Below w2.heap.size w2 v → v.cell? ⟨w.heap.size + 1, 1, none⟩ = some (.int .i64 x.pfx.len) := fun v h => box_at (blk_keep hhY h) (by rw [hY]; rfl)
  have FY7 : ∀ v : World, Below w2.heap.size w2 v → v.cell? ⟨w.heap.size + 1, 7, none⟩ = some (.int .i64 x.tag) := fun v h => box_at (blk_keep hhY h) (by rw [hY]; rfl)
  have Gw2 : Below w2.heap.size w2 w2 := Below.refl _ _
  have Hw2 := hid (show Below w.heap.size w w2 by rw [← hw2]; exact al2 _ _ _)
  have hX' := hid hX
  have hY' := hid hY
  try rw [← hX]
  try rw [← hY]
  clear hX hY hhX hhY
  have hXs : X.size = 25 := by rw [hX'.out]; rfl
  have hM := fun wx (h : Below w2.heap.size w2 wx) => rkRMap X r.vMaps r.maps s wx (by rw [hX'.out]; rfl) (hr.keep (then_ Hw2.out h)).maps.row hr.maps.len
  have hPm := fun (c : Cla) wx (h : Below w2.heap.size w2 wx) => rfPermits r c.lst x.pfx wx (hr.keep (then_ Hw2.out h)) ha
  rw [← hX'.out] at hPm
  simp only [ePfx] at hPm
  obtain ⟨aM, capM, hvM, hcapM, hcM⟩ := rows_open (z := 2) (by decide) hr.maps.row
  obtain ⟨ms, hms⟩ : ∃ l, l = r.maps := ⟨_, rfl⟩
  have lenM := hr.maps.len
  have MR := hid (fun m (h : m ∈ r.maps) => hr.mapsR m h)
  rw [← hms] at hvM hcapM hcM lenM hM MR
  obtain ⟨nm, hnm⟩ : ∃ n, n = ms.length := ⟨_, rfl⟩
  rw [← hnm] at hvM hcapM hcM lenM
  rw [hvM] at FX4
  have NM := hid hnm
  have HM := hid hcM
  obtain ⟨I, hI⟩ : ∃ q, q = clI r.lists ms s x.pfx x.tag := ⟨_, rfl⟩
  rw [← hms, ← hI]
  have RI := hid hI
  clear hcM hnm hms hr hvM ha hI
  obtain ⟨P, hP⟩ : ∃ P, P = Try.prog := ⟨_, rfl⟩
  have HP := hid hP
  have mixed : P.follows .mixedOrders = true := by rw [hP]; kernel_rfl
  have FG : P.funcs[23]? = some Try.f23 := by rw [hP]; exact Try.func23
  obtain ⟨zRouter, hzRouter⟩ : ∃ z, z = 25 := ⟨_, rfl⟩
  have nzRouter : ¬ zRouter = 0 := by omega
  obtain ⟨zRouteMap, hzRouteMap⟩ : ∃ z, z = 2 := ⟨_, rfl⟩
  have nzRouteMap : ¬ zRouteMap = 0 := by omega
  obtain ⟨zClause, hzClause⟩ : ∃ z, z = 7 := ⟨_, rfl⟩
  have nzClause : ¬ zClause = 0 := by omega
  obtain ⟨zRoute, hzRoute⟩ : ∃ z, z = 14 := ⟨_, rfl⟩
  have nzRoute : ¬ zRoute = 0 := by omega
  have ty3 := Try.underlying3; have ag3 := Try.isAgg3; have sz3 := Try.sizeOf3; have ru3 := Try.runUnderlying3
  have ty9 := Try.underlying9; have ag9 := Try.isAgg9; have sz9 := Try.sizeOf9; have ru9 := Try.runUnderlying9
  have ty27 := Try.underlying27; have ag27 := Try.isAgg27; have sz27 := Try.sizeOf27; have ru27 := Try.runUnderlying27
  have ty38 := Try.underlying38; have ag38 := Try.isAgg38; have sz38 := Try.sizeOf38; have ru38 := Try.runUnderlying38
  have ty55 := Try.underlying55; have ag55 := Try.isAgg55; have sz55 := Try.sizeOf55; have ru55 := Try.runUnderlying55
  rw [← hzRouter] at sz55
  have ty62 := Try.underlying62; have ag62 := Try.isAgg62; have sz62 := Try.sizeOf62; have ru62 := Try.runUnderlying62
  rw [← hzRoute] at sz62
  have ty63 := Try.underlying63; have ag63 := Try.isAgg63; have sz63 := Try.sizeOf63; have ru63 := Try.runUnderlying63
  have ty65 := Try.underlying65; have ag65 := Try.isAgg65; have sz65 := Try.sizeOf65; have ru65 := Try.runUnderlying65
  rw [← hzRouteMap] at sz65
  have ty80 := Try.underlying80; have ag80 := Try.isAgg80; have sz80 := Try.sizeOf80; have ru80 := Try.runUnderlying80
  rw [← hzClause] at sz80
  have zeClause := Try.zeroValue80
  have en0 : ∀ args w, (callFunc 19 args).run Try.prog w = .ok (.enter 19 args) w := enters_of Try.func19 (by kernel_rfl) rfl
  have en1 : ∀ args w, (callFunc 39 args).run Try.prog w = .ok (.enter 39 args) w := enters_of Try.func39 (by kernel_rfl) rfl
  rw [← hP] at ty3 ag3 sz3 ru3 ty9 ag9 sz9 ru9 ty27 ag27 sz27 ru27 ty38 ag38 sz38 ru38 ty55 ag55 sz55 ru55 ty62 ag62 sz62 ru62 ty63 ag63 sz63 ru63 ty65 ag65 sz65 ru65 ty80 ag80 sz80 ru80 zeClause en0 en1 hM hPm ⊢
  clear hP
  have LX : ∀ v : World, Below w2.heap.size w2 v → Sem.run P (loadCellsFrom ⟨w.heap.size, 0, none⟩ 0 zRouter #[]) v = .ok X v := fun v h => ld_box P (KX v h) (by rw [hzRouter]; exact hXs)
  have ZC := hid hzClause
  have ZM := hid hzRouteMap
  clear hzRouter hzClause hzRoute hzRouteMap KX hXs
  rcases ix_find (p := fun x : RMap => x.name.toList == s.toList) ms with ⟨hi, hf⟩ | ⟨j, m, hi, hx, hf, -, hj⟩
  · have R := hid (show I = -1 by rw [RI.out]; unfold clI clsOf; rw [hf]; rfl)
    rw [hi] at hM
    clear hi hf hPm
    go_enter FG, Try.ntmps23
    repeat' (first | (go_at_call 39; with_reducible refine (hM _ (by assumption)).mono ?_; rintro e w' ⟨rfl, b⟩; have b' := then_ (w := w2) (by assumption) b; clear b; try dsimp only) | go_skip | go_guarded | go_step | go_upon)
    go_ret
    exact ⟨ret_int R.out.symm, then_ Hw2.out (by assumption)⟩
  · have R := hid (show I = ixB (cmB r.lists x.pfx x.tag) m.clauses by rw [RI.out]; unfold clI clsOf; rw [hf])
    rw [hi] at hM
    have hji : (j : Int) < (nm : Int) := by have := NM.out; omega
    have hj0 : (0 : Int) ≤ (j : Int) := by omega
    have hjl : ¬ (j : Int) < 0 := by omega
    obtain ⟨b, off, rfl, hb, hc⟩ := HM.out (by have := NM.out; omega)
    have mv := hid (MR.out m (get_mem hx))
    obtain ⟨a, cap, hv, hcap, hcell⟩ := rows_open (z := 7) (by decide) mv.out.row
    have hlen := mv.out.len
    obtain ⟨l, hl⟩ : ∃ l, l = m.clauses := ⟨_, rfl⟩
    rw [← hl] at hv hcap hcell hlen R
    obtain ⟨n, hn⟩ : ∃ n, n = l.length := ⟨_, rfl⟩
    rw [← hn] at hv hcap hcell hlen
    have N := hid hn
    have HC := hid hcell
    have FE : ∀ v : World, Below w2.heap.size w2 v → v.cell? ⟨b, off + j * zRouteMap + 1, none⟩ = some (.slice a n cap) := fun v h => by
      rw [ZM.out, ← hv]; exact ((then_ Hw2.out h).cell (p := ⟨b, off + j * 2 + 1, none⟩) hb).trans (row_cells (f := eRMap) (z := 2) (fun _ => rfl) hc hx 1 _ rfl)
    have E0 := hid (show I = ixF (cmB r.lists x.pfx x.tag) 0 (l.drop 0) from R.out)
    clear hi hf hx hc hv hcell hl hn
    go_enter FG, Try.ntmps23
    repeat' (first | (go_at_call 39; with_reducible refine (hM _ (by assumption)).mono ?_; rintro e w' ⟨rfl, b⟩; have b' := then_ (w := w2) (by assumption) b; clear b; try dsimp only) | go_skip | go_guarded | go_step | go_upon)
    clear hM
    go_loopg [8] n (fun gg s8 wr => ∃ k : Nat, k ≤ n ∧ n - k ≤ gg ∧ s8 = .int .i64 k ∧ Below w2.heap.size w2 wr ∧ Aside (I = ixF (cmB r.lists x.pfx x.tag) k (l.drop k)))
    case atStart => exact ⟨0, Nat.zero_le _, by omega, rfl, by assumption, E0.out⟩
    case round =>
      obtain ⟨k, hk, hg, rfl, hwr, E⟩ := hrel
      have f4 := FX4 wr hwr
      have fe := FE wr hwr
      by_cases hlt : k < n
      · have hlti : (k : Int) < (n : Int) := by omega
        have hk0 : (0 : Int) ≤ (k : Int) := by omega
        obtain ⟨y, hy⟩ := get_some (l := l) (k := k) (by have := N.out; omega)
        obtain ⟨bc, oc, rfl, hbc, hcc⟩ := HC.out (by omega)
        have LV0 : Sem.run P (loadCellsFrom ⟨bc, oc + k * zClause, none⟩ 0 zClause #[]) wr = .ok (eCla y).toArray wr := by
          rw [ZC.out]; exact ld_row (f := eCla) (z := 7) P (fun _ => rfl) (fun j u hj => ((then_ Hw2.out hwr).cell (p := ⟨bc, oc + j, none⟩) hbc).trans (hcc j u hj)) hy
        have cP := fun wx (h : Below w2.heap.size w2 wx) => hPm y wx h
        obtain ⟨V, hV⟩ : ∃ V, V = (eCla y).toArray := ⟨_, rfl⟩
        have hVs : V.size = 7 := by rw [hV]; rfl
        have hV1 := hid (show V.all (·.oneCell') = true by rw [hV]; exact cla_one y)
        have v1 : V[1]? = some (.string y.lst) := by rw [hV]; rfl
        have v2 : V[2]? = some (.int .i64 y.tag) := by rw [hV]; rfl
        rw [← hV] at LV0
        obtain ⟨o, ho⟩ : ∃ o, o = pmB r.lists y.lst x.pfx := ⟨_, rfl⟩
        rw [← ho] at cP
        have D := hid (drop_get hy)
        have HO := hid (show cmB r.lists x.pfx x.tag y = ((decide (y.tag = -1) || decide (y.tag = x.tag)) && o) by rw [ho]; rfl)
        clear hV hy hcc ho
        repeat' ((fail_if_success (with_reducible show Hid _)); (first | ((with_reducible show Oper.wp _ ⟨_, .store 80 _ _, _, _, _, _⟩ _ _ _ _); refine stopP ?_) | go_skip | go_guarded | go_step | go_upon))
        refine hid ?_
        refine wp_store_box (w := wr.alloc (.cells zeroCl 80)) 80 _ _ (by rfl) (g := wr.heap.size) (cur := zeroCl) (X := V) (by rfl) (by rfl) (by intro v; rw [hVs, ← ZC.out]; first | exact sz80 v | assumption) (heap_new _ _) (by rw [hVs]; rfl) hV1.out ?_
        intro w4 h1 h2 h3
        have HB4 := hid (show Below wr.heap.size wr w4 from (al1 wr _).trans (h3 _ (Nat.le_refl _)))
        have HW4 := hid (then_ (show Below w2.heap.size w2 wr from hwr) HB4.out)
        have G4 : Below w4.heap.size w4 w4 := Below.refl _ _
        have FV1 : ∀ v : World, Below w4.heap.size w4 v → v.cell? ⟨wr.heap.size, 1, none⟩ = some (.string y.lst) := fun v h => box_at (blk_keep h1 h) v1
        have FV2 : ∀ v : World, Below w4.heap.size w4 v → v.cell? ⟨wr.heap.size, 2, none⟩ = some (.int .i64 y.tag) := fun v h => box_at (blk_keep h1 h) v2
        have LX4 := fun (v : World) (h : Below w4.heap.size w4 v) => LX v (then_ HW4.out h)
        have F0 := fun (v : World) (h : Below w4.heap.size w4 v) => FY0 v (then_ HW4.out h)
        have F1 := fun (v : World) (h : Below w4.heap.size w4 v) => FY1 v (then_ HW4.out h)
        have F7 := fun (v : World) (h : Below w4.heap.size w4 v) => FY7 v (then_ HW4.out h)
        have cP4 := fun wx (h : Below w4.heap.size w4 wx) => cP wx (then_ HW4.out h)
        clear LV0 cP h1 h2 h3 hVs v1 v2 f4 fe
        dsimp only [Act.put]
        have fin : ∀ q : Bool, cmB r.lists x.pfx x.tag y = q → Hid (q = true → I = k) ∧ Hid (q = false → I = ixF (cmB r.lists x.pfx x.tag) (k + 1) (l.drop (k + 1))) := fun q hq => ⟨hid fun h => by rw [E.out, D.out]; exact ixF_hit (hq.trans h), hid fun h => by rw [E.out, D.out]; exact ixF_next (hq.trans h)⟩
        clear LX FY0 FY1 FY7
        cases o
        case false =>
          have Q := hid ((fin false (by rw [HO.out]; simp)).2.out rfl)
          clear fin HO
          repeat' (first | (go_at_call 19; with_reducible refine (cP4 _ (by assumption)).mono ?_; rintro e w' ⟨rfl, b⟩; have b' := then_ (w := w4) (by assumption) b; clear b; try dsimp only) | go_skip | go_big_skip | go_big_want | go_big_guard | go_step | go_upon)
          go_roundg (n - (k + 1))
          case measure => omega
          case rel => exact ⟨k + 1, by omega, by omega, by go_num, then_ HW4.out (by assumption), Q.out⟩
        case true =>
          by_cases ht1 : y.tag = -1
          · have Q := hid ((fin true (by rw [HO.out]; simp [ht1])).1.out rfl)
            rw [ht1] at FV2
            clear fin HO
            repeat' (first | (go_at_call 19; with_reducible refine (cP4 _ (by assumption)).mono ?_; rintro e w' ⟨rfl, b⟩; have b' := then_ (w := w4) (by assumption) b; clear b; try dsimp only) | go_skip | go_big_skip | go_big_want | go_big_guard | go_step | go_upon)
            go_ret
            exact ⟨ret_int Q.out.symm, then_ Hw2.out (then_ HW4.out (by assumption))⟩
          · have tn : (y.tag == -1) = false := by simpa using ht1
            by_cases ht2 : y.tag = x.tag
            · have Q := hid ((fin true (by rw [HO.out]; simp [ht2])).1.out rfl)
              rw [ht2] at FV2 tn ht1
              clear fin HO
              repeat' (first | (go_at_call 19; with_reducible refine (cP4 _ (by assumption)).mono ?_; rintro e w' ⟨rfl, b⟩; have b' := then_ (w := w4) (by assumption) b; clear b; try dsimp only) | go_skip | go_big_skip | go_big_want | go_big_guard | go_step | go_upon)
              go_ret
              exact ⟨ret_int Q.out.symm, then_ Hw2.out (then_ HW4.out (by assumption))⟩
            · have tm : (y.tag == x.tag) = false := by simpa using ht2
              have Q := hid ((fin false (by rw [HO.out]; simp [ht1, ht2])).2.out rfl)
              clear fin HO
              repeat' (first | (go_at_call 19; with_reducible refine (cP4 _ (by assumption)).mono ?_; rintro e w' ⟨rfl, b⟩; have b' := then_ (w := w4) (by assumption) b; clear b; try dsimp only) | go_skip | go_big_skip | go_big_want | go_big_guard | go_step | go_upon)
              go_roundg (n - (k + 1))
              case measure => omega
              case rel => exact ⟨k + 1, by omega, by omega, by go_num, then_ HW4.out (by assumption), Q.out⟩
      · have hlti : ¬ (k : Int) < (n : Int) := by omega
        have Q := hid (show I = -1 by rw [E.out, drop_end (by have := N.out; omega)]; rfl)
        repeat' (first | go_skip | go_guarded | go_step | go_upon)
        go_ret
        exact ⟨ret_int Q.out.symm, then_ Hw2.out (by assumption)⟩
end Go.Proofs.Ytlhbfpapmolohaa.Mw

/-
  THE CONTRACT OF THE REFERENCE's Prepend.
-/
namespace Go.Proofs.Ytlhbfpapmolohaa.Mw
set_option linter.unusedSimpArgs false
set_option linter.unusedVariables false
open Go.RowKit Kt Mm Mp Am

theorem row_new {P : Program} {t : TypeId} {cur : Array Value} {l : List Value} (hl : cur.size = l.length) (h1 : ∀ v ∈ l, v.oneCell' = true) (v : World) :
    Sem.run P (storeCells ⟨v.heap.size, 0, none⟩ l) (v.alloc (.cells cur t)) = .ok () ((v.alloc (.cells cur t)).setRow v.heap.size l.toArray) := by
  have hst := run_storeCells_from (P := P) v.heap.size t l 0 cur (v.alloc (.cells cur t)) (heap_new _ _) (by simp [hl]) h1
  simpa using hst
theorem row_below {t : TypeId} {cur X : Array Value} (v : World) : Below v.heap.size v ((v.alloc (.cells cur t)).setRow v.heap.size X) := (al1 v _).trans (setRow_below _ _ X _ (Nat.le_refl _))
theorem row_heap {t : TypeId} {cur X : Array Value} (v : World) : ((v.alloc (.cells cur t)).setRow v.heap.size X).heap[v.heap.size]? = some (.cells X t (0, 0)) := setRow_heap _ _ cur X t (0, 0) (heap_new _ _)

theorem row_late {P : Program} {t : TypeId} {cur : Array Value} {l : List Value} (hl : cur.size = l.length) (h1 : ∀ v ∈ l, v.oneCell' = true) (v u : World) (hu : Below (v.alloc (.cells cur t)).heap.size (v.alloc (.cells cur t)) u) :
    Sem.run P (storeCells ⟨v.heap.size, 0, none⟩ l) u = .ok () (u.setRow v.heap.size l.toArray) := by
  have hst := run_storeCells_from (P := P) v.heap.size t l 0 cur u (blk_keep (heap_new _ _) hu) (by simp [hl]) h1
  simpa using hst
theorem late_below {t : TypeId} {cur X : Array Value} {B : Nat} {w0 v u : World} (h : Below B w0 v) (hB : B ≤ v.heap.size) (hu : Below (v.alloc (.cells cur t)).heap.size (v.alloc (.cells cur t)) u) : Below B w0 (u.setRow v.heap.size X) :=
  (h.trans (((al1 v _).trans (hu.mono (al1 v _).size)).mono hB)).trans (setRow_below _ _ X _ hB)
theorem late_heap {t : TypeId} {cur X : Array Value} {v u : World} (hu : Below (v.alloc (.cells cur t)).heap.size (v.alloc (.cells cur t)) u) : (u.setRow v.heap.size X).heap[v.heap.size]? = some (.cells X t (0, 0)) := setRow_heap _ _ cur X t (0, 0) (blk_keep (heap_new _ _) hu)

theorem undrew {v u : World} (h : Below v.drew.heap.size v.drew u) : Below v.heap.size v u := Below.trans (Below.refl _ v).drew h

noncomputable def PP : Program := Try.prog

set_option maxHeartbeats 40000000 in
set_option maxRecDepth 8000 in
theorem rfPrepend (r : Rtr) (s : ByteArray) (x : Rte) (w : World) (hr : RtrIn w r) (hx : RteIn w x) :
    Calls Try.prog 26 #[.agg (eRtr r).toArray, .string s, .agg (eRte x).toArray] w fun e w' => e = .returned (.int .i64 (prepI r.lists r.maps s x.pfx x.tag)) ∧ Below w.heap.size w w' := by
  obtain ⟨X, hX⟩ : ∃ X, X = (eRtr r).toArray := ⟨_, rfl⟩
  obtain ⟨Y, hY⟩ : ∃ Y, Y = (eRte x).toArray := ⟨_, rfl⟩
  obtain ⟨w2, hw2⟩ : ∃ w2, (w.alloc (.cells X 55)).alloc (.cells Y 62) = w2 := ⟨_, rfl⟩
  have hhX : w2.heap[w.heap.size]? = some (.cells X 55 (0, 0)) := by rw [← hw2, Below.heap_alloc _ _ _ (by simp), heap_new]
  have hhY : w2.heap[w.heap.size + 1]? = some (.cells Y 62 (0, 0)) := by rw [← hw2]; have h := heap_new (w.alloc (.cells X 55)) (.cells Y 62 (0, 0)); rwa [new_size] at h
  have KX : ∀ v : World, Below w2.heap.size w2 v → v.heap[w.heap.size]? = some (.cells X 55 (0, 0)) := fun v h => blk_keep hhX h
  have FX4 : ∀ v : World, Below w2.heap.size w2 v → v.cell? ⟨w.heap.size, 4, none⟩ = some (r.vMaps) := fun v h => box_at (blk_keep hhX h) (by rw [hX]; rfl)
  have KY : ∀ v : World, Below w2.heap.size w2 v → v.heap[w.heap.size + 1]? = some (.cells Y 62 (0, 0)) := fun v h => blk_keep hhY h
  have Gw2 : Below w2.heap.size w2 w2 := Below.refl _ _
  have Hw2 := hid (show Below w.heap.size w w2 by rw [← hw2]; exact al2 _ _ _)
  have hX' := hid hX
  have hY' := hid hY
  try rw [← hX]
  try rw [← hY]
  clear hX hY hhX hhY
  have hXs : X.size = 25 := by rw [hX'.out]; rfl
  have hYs : Y.size = 14 := by rw [hY'.out]; rfl
  have hM := fun wx (h : Below w2.heap.size w2 wx) => rkRMap X r.vMaps r.maps s wx (by rw [hX'.out]; rfl) (hr.keep (then_ Hw2.out h)).maps.row hr.maps.len
  have hC := fun wx (h : Below w2.heap.size w2 wx) => rfClause r s x wx (hr.keep (then_ Hw2.out h)) hx.pfxA
  rw [← hX'.out, ← hY'.out] at hC
  obtain ⟨aM, capM, hvM, hcapM, hcM⟩ := rows_open (z := 2) (by decide) hr.maps.row
  obtain ⟨ms, hms⟩ : ∃ l, l = r.maps := ⟨_, rfl⟩
  have lenM := hr.maps.len
  have MR := hid (fun m (h : m ∈ r.maps) => hr.mapsR m h)
  rw [← hms] at hvM hcapM hcM lenM hM MR hC
  obtain ⟨nm, hnm⟩ : ∃ n, n = ms.length := ⟨_, rfl⟩
  rw [← hnm] at hvM hcapM hcM lenM
  rw [hvM] at FX4
  have NM := hid hnm
  have HM := hid hcM
  obtain ⟨I, hI⟩ : ∃ q, q = prepI r.lists ms s x.pfx x.tag := ⟨_, rfl⟩
  rw [← hms, ← hI]
  have RI := hid hI
  clear hcM hnm hms hr hvM hI hx
  have hP : PP = Try.prog := rfl
  have HP := hid hP
  have mixed : PP.follows .mixedOrders = true := by rw [hP]; kernel_rfl
  have FG : PP.funcs[26]? = some Try.f26 := by rw [hP]; exact Try.func26
  obtain ⟨zRouter, hzRouter⟩ : ∃ z, z = 25 := ⟨_, rfl⟩
  have nzRouter : ¬ zRouter = 0 := by omega
  obtain ⟨zRouteMap, hzRouteMap⟩ : ∃ z, z = 2 := ⟨_, rfl⟩
  have nzRouteMap : ¬ zRouteMap = 0 := by omega
  obtain ⟨zClause, hzClause⟩ : ∃ z, z = 7 := ⟨_, rfl⟩
  have nzClause : ¬ zClause = 0 := by omega
  obtain ⟨zRoute, hzRoute⟩ : ∃ z, z = 14 := ⟨_, rfl⟩
  have nzRoute : ¬ zRoute = 0 := by omega
  have ty3 := Try.underlying3; have ag3 := Try.isAgg3; have sz3 := Try.sizeOf3; have ru3 := Try.runUnderlying3
  have ty4 := Try.underlying4; have ag4 := Try.isAgg4; have sz4 := Try.sizeOf4; have ru4 := Try.runUnderlying4
  have ty9 := Try.underlying9; have ag9 := Try.isAgg9; have sz9 := Try.sizeOf9; have ru9 := Try.runUnderlying9
  have ty38 := Try.underlying38; have ag38 := Try.isAgg38; have sz38 := Try.sizeOf38; have ru38 := Try.runUnderlying38
  have ty55 := Try.underlying55; have ag55 := Try.isAgg55; have sz55 := Try.sizeOf55; have ru55 := Try.runUnderlying55
  rw [← hzRouter] at sz55
  have ty62 := Try.underlying62; have ag62 := Try.isAgg62; have sz62 := Try.sizeOf62; have ru62 := Try.runUnderlying62
  rw [← hzRoute] at sz62
  have ty63 := Try.underlying63; have ag63 := Try.isAgg63; have sz63 := Try.sizeOf63; have ru63 := Try.runUnderlying63
  have ty65 := Try.underlying65; have ag65 := Try.isAgg65; have sz65 := Try.sizeOf65; have ru65 := Try.runUnderlying65
  rw [← hzRouteMap] at sz65
  have ty80 := Try.underlying80; have ag80 := Try.isAgg80; have sz80 := Try.sizeOf80; have ru80 := Try.runUnderlying80
  rw [← hzClause] at sz80
  have zeClause := Try.zeroValue80
  have en0 : ∀ args w, (callFunc 23 args).run Try.prog w = .ok (.enter 23 args) w := enters_of Try.func23 (by kernel_rfl) rfl
  have en1 : ∀ args w, (callFunc 39 args).run Try.prog w = .ok (.enter 39 args) w := enters_of Try.func39 (by kernel_rfl) rfl
  rw [← hP] at ty3 ag3 sz3 ru3 ty4 ag4 sz4 ru4 ty9 ag9 sz9 ru9 ty38 ag38 sz38 ru38 ty55 ag55 sz55 ru55 ty62 ag62 sz62 ru62 ty63 ag63 sz63 ru63 ty65 ag65 sz65 ru65 ty80 ag80 sz80 ru80 zeClause en0 en1 hM hC ⊢
  clear hP
  have LX : ∀ v : World, Below w2.heap.size w2 v → Sem.run PP (loadCellsFrom ⟨w.heap.size, 0, none⟩ 0 zRouter #[]) v = .ok X v := fun v h => ld_box PP (KX v h) (by rw [hzRouter]; exact hXs)
  have LY : ∀ v : World, Below w2.heap.size w2 v → Sem.run PP (loadCellsFrom ⟨w.heap.size + 1, 0, none⟩ 0 zRoute #[]) v = .ok Y v := fun v h => ld_box PP (KY v h) (by rw [hzRoute]; exact hYs)
  have ZM := hid hzRouteMap
  have ZC := hid hzClause
  clear hzRouter hzRoute hzRouteMap hzClause KX KY hXs hYs
  rcases ix_find (p := cmB r.lists x.pfx x.tag) (clsOf ms s) with ⟨hi, hf⟩ | ⟨i, c, hi, hic, hf, -, hil⟩
  · have R := hid (show I = 0 by rw [RI.out]; unfold prepI permC; rw [hf])
    have hC0 := fun wx (h : Below w2.heap.size w2 wx) => hC wx h
    unfold clI at hC0
    rw [hi] at hC0
    clear hi hf hC hM
    go_enter FG, Try.ntmps26
    repeat' (first | (go_at_call 23; with_reducible refine (hC0 _ (by assumption)).mono ?_; rintro e w' ⟨rfl, b⟩; have b' := then_ (w := w2) (by assumption) b; clear b; try dsimp only) | go_skip | go_guarded | go_step | go_upon)
    go_ret
    exact ⟨ret_int R.out.symm, then_ Hw2.out (by assumption)⟩
  · have hC0 := fun wx (h : Below w2.heap.size w2 wx) => hC wx h
    unfold clI at hC0
    rw [hi] at hC0
    have hi0 : (0 : Int) ≤ (i : Int) := by omega
    have hi1 : ¬ (i : Int) < 0 := by omega
    rcases ix_find (p := fun x : RMap => x.name.toList == s.toList) ms with ⟨ji, jf⟩ | ⟨j, m, ji, jx, jf, -, jl⟩
    · exfalso; unfold clsOf at hil; rw [jf] at hil; simp at hil
    have cm : clsOf ms s = m.clauses := by unfold clsOf; rw [jf]
    rw [cm] at hic hil hf
    rw [ji] at hM
    have R := hid (show I = if c.permit then c.prepend else 0 by rw [RI.out]; unfold prepI permC; rw [cm, hf]; cases h : c.permit <;> simp [h])
    have hji : (j : Int) < (nm : Int) := by have := NM.out; omega
    have hj0 : (0 : Int) ≤ (j : Int) := by omega
    obtain ⟨b, off, rfl, hb, hc⟩ := HM.out (by have := NM.out; omega)
    have mv := hid (MR.out m (get_mem jx))
    obtain ⟨a, cap, hv, hcap, hcell⟩ := rows_open (z := 7) (by decide) mv.out.row
    have hlen := mv.out.len
    obtain ⟨n, hn⟩ : ∃ n, n = m.clauses.length := ⟨_, rfl⟩
    rw [← hn] at hv hcap hcell hlen hil
    have hin : (i : Int) < (n : Int) := by omega
    obtain ⟨bc, oc, rfl, hbc, hcc⟩ := hcell (by omega)
    have FE : ∀ v : World, Below w2.heap.size w2 v → v.cell? ⟨b, off + j * zRouteMap + 1, none⟩ = some (.slice (some ⟨bc, oc, none⟩) n cap) := fun v h => by
      rw [ZM.out, ← hv]; exact ((then_ Hw2.out h).cell (p := ⟨b, off + j * 2 + 1, none⟩) hb).trans (row_cells (f := eRMap) (z := 2) (fun _ => rfl) hc jx 1 _ rfl)
    have LC : ∀ v : World, Below w2.heap.size w2 v → Sem.run PP (loadCellsFrom ⟨bc, oc + i * zClause, none⟩ 0 zClause #[]) v = .ok (eCla c).toArray v := fun v h => by
      rw [ZC.out]; exact ld_row (f := eCla) (z := 7) PP (fun _ => rfl) (fun j u hj => ((then_ Hw2.out h).cell (p := ⟨bc, oc + j, none⟩) hbc).trans (hcc j u hj)) hic
    obtain ⟨c0, hc0⟩ : ∃ q, q = c.permit := ⟨_, rfl⟩
    obtain ⟨c6, hc6⟩ : ∃ q, q = c.prepend := ⟨_, rfl⟩
    rw [← hc0, ← hc6] at R
    have G2 : Below w2.heap.size w2 w2 := Below.refl _ _
    have hrow0 : ∀ v : World, Sem.run PP (storeCells ⟨v.heap.size, 0, none⟩ (eCla c)) (v.alloc (.cells #[.bool false, .string ⟨#[]⟩, .int .i64 0, .int .i64 0, .int .i64 0, .int .i64 0, .int .i64 0] 80)) = .ok () ((v.alloc (.cells zeroCl 80)).setRow v.heap.size (eCla c).toArray) := fun v => row_new (by rfl) (fun u hu => by have h := cla_one c; rw [Array.all_eq_true'] at h; exact h u (by simpa using hu)) v
    obtain ⟨RW, hRW⟩ : ∃ f : World → World, f = fun v => (v.alloc (.cells zeroCl 80)).setRow v.heap.size (eCla c).toArray := ⟨_, rfl⟩
    have rB : ∀ v, Below v.heap.size v (RW v) := fun v => by rw [hRW]; exact row_below v
    have r0 : ∀ v, (RW v).cell? ⟨v.heap.size, 0, none⟩ = some (.bool c0) := fun v => by rw [hRW, hc0]; exact box_at (row_heap v) rfl
    have r6 : ∀ v, (RW v).cell? ⟨v.heap.size, 6, none⟩ = some (.int .i64 c6) := fun v => by rw [hRW, hc6]; exact box_at (row_heap v) rfl
    have hrow : ∀ v : World, Sem.run PP (storeCells ⟨v.heap.size, 0, none⟩ (eCla c)) (v.alloc (.cells #[.bool false, .string ⟨#[]⟩, .int .i64 0, .int .i64 0, .int .i64 0, .int .i64 0, .int .i64 0] 80)) = .ok () (RW v) := fun v => by rw [hRW]; exact hrow0 v
    clear hRW hrow0
    have zl : (eCla c).length = zClause := by rw [ZC.out]; rfl
    clear hC hi hf hic ji jf jx jl cm hc hcc hv hn hcell
    go_enter FG, Try.ntmps26
    repeat' ((fail_if_success (with_reducible show Hid _)); (first | (go_at_call 23; with_reducible refine (hC0 _ (by assumption)).mono ?_; rintro e wc ⟨rfl, bc1⟩; refine stopP ?_) | go_skip | go_guarded | go_step | go_upon))
    refine hid ?_
    dsimp only
    clear hC0 LY
    have bw : Below w2.heap.size w2 wc := then_ (by assumption) bc1
    have one := hid (show ∀ u ∈ eCla c, u.oneCell' = true from fun u hu => by have h := cla_one c; rw [Array.all_eq_true'] at h; exact h u (by simpa using hu))
    obtain ⟨RL, hRL⟩ : ∃ f : World → World, f = fun u => u.setRow wc.heap.size (eCla c).toArray := ⟨_, rfl⟩
    have lrow : ∀ u, Below (wc.alloc (.cells #[.bool false, .string ⟨#[]⟩, .int .i64 0, .int .i64 0, .int .i64 0, .int .i64 0, .int .i64 0] 80)).heap.size (wc.alloc (.cells #[.bool false, .string ⟨#[]⟩, .int .i64 0, .int .i64 0, .int .i64 0, .int .i64 0, .int .i64 0] 80)) u → Sem.run PP (storeCells ⟨wc.heap.size, 0, none⟩ (eCla c)) u = .ok () (RL u) := fun u hu => by rw [hRL]; exact row_late (by rfl) one.out wc u hu
    have lB : ∀ u, Below (wc.alloc (.cells #[.bool false, .string ⟨#[]⟩, .int .i64 0, .int .i64 0, .int .i64 0, .int .i64 0, .int .i64 0] 80)).heap.size (wc.alloc (.cells #[.bool false, .string ⟨#[]⟩, .int .i64 0, .int .i64 0, .int .i64 0, .int .i64 0, .int .i64 0] 80)) u → Below w2.heap.size w2 (RL u) := fun u hu => by rw [hRL]; exact late_below bw bw.size hu
    have l0 : ∀ u, Below (wc.alloc (.cells #[.bool false, .string ⟨#[]⟩, .int .i64 0, .int .i64 0, .int .i64 0, .int .i64 0, .int .i64 0] 80)).heap.size (wc.alloc (.cells #[.bool false, .string ⟨#[]⟩, .int .i64 0, .int .i64 0, .int .i64 0, .int .i64 0, .int .i64 0] 80)) u → (RL u).cell? ⟨wc.heap.size, 0, none⟩ = some (.bool c0) := fun u hu => by rw [hRL, hc0]; exact box_at (late_heap hu) rfl
    have l6 : ∀ u, Below (wc.alloc (.cells #[.bool false, .string ⟨#[]⟩, .int .i64 0, .int .i64 0, .int .i64 0, .int .i64 0, .int .i64 0] 80)).heap.size (wc.alloc (.cells #[.bool false, .string ⟨#[]⟩, .int .i64 0, .int .i64 0, .int .i64 0, .int .i64 0, .int .i64 0] 80)) u → (RL u).cell? ⟨wc.heap.size, 6, none⟩ = some (.int .i64 c6) := fun u hu => by rw [hRL, hc6]; exact box_at (late_heap hu) rfl
    have L0 := hid l0
    have L6 := hid l6
    have LR := hid lrow
    have LB := hid lB
    clear hRL one l0 l6 lrow lB
    repeat' (first | go_skip | go_guarded | go_step | go_upon)
    go_region_held3 (fun v => Below w2.heap.size w2 v) ((first | assumption | exact then_ (w := w2) (by assumption) (al1 _ _) | exact then_ (w := w2) (by assumption) (rB _) | go_grown)) (first
      | (go_at_call 39; with_reducible refine (hM _ (by assumption)).mono ?_; rintro e w' ⟨rfl, bz⟩; have b' := then_ (w := w2) (by assumption) bz; (try (have t1 := LR.out _ (undrew bz); have t2 := LB.out _ (undrew bz); have t3 := L0.out _ (undrew bz); have t4 := L6.out _ (undrew bz))); clear bz)
      | fail)
    · have BF : Below w2.heap.size w2 (RW w') := then_ (w := w2) (by assumption) (rB _)
      have e0 := r0 w'
      have e6 := r6 w'
      clear r0 r6 rB LR LB L0 L6 hM hrow hc0 hc6
      cases c0
      all_goals
        repeat' (first | go_skip | go_guarded | go_step | go_upon)
        go_ret
        exact ⟨ret_int (by rw [R.out]; rfl), then_ Hw2.out BF⟩
    · have BF : Below w2.heap.size w2 (RL w') := by assumption
      clear r0 r6 rB LR LB L0 L6 hM hrow hc0 hc6
      cases c0
      all_goals
        repeat' (first | go_skip | go_guarded | go_step | go_upon)
        go_ret
        exact ⟨ret_int (by rw [R.out]; rfl), then_ Hw2.out BF⟩
end Go.Proofs.Ytlhbfpapmolohaa.Mw

/-
  THE CONTRACT OF THE REFERENCE's Apply.
-/
namespace Go.Proofs.Ytlhbfpapmolohaa.Mw
set_option linter.unusedSimpArgs false
set_option linter.unusedVariables false
open Go.RowKit Kt Mm Mp Am

set_option maxHeartbeats 400000000 in
set_option maxRecDepth 8000 in
theorem rfApply (r : Rtr) (s : ByteArray) (x : Rte) (w : World) (hr : RtrIn w r) (hx : RteIn w x) (hcl : ∀ c ∈ clsOf r.maps s, claOk c = true) :
    Calls Try.prog 21 #[.agg (eRtr r).toArray, .string s, .agg (eRte x).toArray] w (AppPost (appO r.lists r.maps s x) w) := by
  obtain ⟨X, hX⟩ : ∃ X, X = (eRtr r).toArray := ⟨_, rfl⟩
  obtain ⟨Y, hY⟩ : ∃ Y, Y = (eRte x).toArray := ⟨_, rfl⟩
  obtain ⟨w2, hw2⟩ : ∃ w2, (w.alloc (.cells X 55)).alloc (.cells Y 62) = w2 := ⟨_, rfl⟩
  have hhX : w2.heap[w.heap.size]? = some (.cells X 55 (0, 0)) := by rw [← hw2, Below.heap_alloc _ _ _ (by simp), heap_new]
  have hhY : w2.heap[w.heap.size + 1]? = some (.cells Y 62 (0, 0)) := by rw [← hw2]; have h := heap_new (w.alloc (.cells X 55)) (.cells Y 62 (0, 0)); rwa [new_size] at h
  have KX : ∀ v : World, Below w2.heap.size w2 v → v.heap[w.heap.size]? = some (.cells X 55 (0, 0)) := fun v h => blk_keep hhX h
  have KY : ∀ v : World, Below w2.heap.size w2 v → v.heap[w.heap.size + 1]? = some (.cells Y 62 (0, 0)) := fun v h => blk_keep hhY h
  have Gw2 : Below w2.heap.size w2 w2 := Below.refl _ _
  have Hw2 := hid (show Below w.heap.size w w2 by rw [← hw2]; exact al2 _ _ _)
  have hX' := hid hX
  have hY' := hid hY
  try rw [← hX]
  try rw [← hY]
  clear hX hY hhX hhY
  have hXs : X.size = 25 := by rw [hX'.out]; rfl
  have hYs : Y.size = 14 := by rw [hY'.out]; rfl
  obtain ⟨w3, hw3⟩ : ∃ w3, w2.alloc (.cells #[.int .u32 0, .int .i64 0, .int .i64 0, .int .i64 0, .int .i64 0, .int .i64 0, .int .i64 0, .int .i64 0, .int .i64 0, .slice none 0 0, .int .u32 0, .int .u32 0, .slice none 0 0, .bool false] 62) = w3 := ⟨_, rfl⟩
  have hh3 : w3.heap[w2.heap.size]? = some (.cells zeroRt 62 (0, 0)) := by rw [← hw3]; exact heap_new _ _
  have H3 := hid (show Below w2.heap.size w2 w3 by rw [← hw3]; exact new_below _ _)
  have s2 : w2.heap.size = w.heap.size + 2 := by rw [← hw2, new_size, new_size]
  have s3 := hid (show w3.heap.size = w.heap.size + 3 by rw [← hw3, new_size, s2])
  have G3 : Below w3.heap.size w3 w3 := Below.refl _ _
  have K3 : ∀ v : World, Below w3.heap.size w3 v → v.heap[w.heap.size + 2]? = some (.cells zeroRt 62 (0, 0)) := fun v h => by rw [← s2]; exact blk_keep hh3 h
  have HW3 := hid (then_ Hw2.out H3.out)
  have hM := fun wx (h : Below w3.heap.size w3 wx) => rkRMap X r.vMaps r.maps s wx (by rw [hX'.out]; rfl) (hr.keep (then_ HW3.out h)).maps.row hr.maps.len
  have hC := fun wx (h : Below w3.heap.size w3 wx) => rfClause r s x wx (hr.keep (then_ HW3.out h)) hx.pfxA
  rw [← hX'.out, ← hY'.out] at hC
  have BX : ∀ v : World, Below w3.heap.size w3 v → v.heap[w.heap.size]? = some (.cells X 55 (0, 0)) := fun v h => KX v (then_ H3.out h)
  have BY : ∀ v : World, Below w3.heap.size w3 v → v.heap[w.heap.size + 1]? = some (.cells Y 62 (0, 0)) := fun v h => KY v (then_ H3.out h)
  obtain ⟨aM, capM, hvM, hcapM, hcM⟩ := rows_open (z := 2) (by decide) hr.maps.row
  have FX4 : ∀ v : World, Below w3.heap.size w3 v → v.cell? ⟨w.heap.size, 4, none⟩ = some r.vMaps := fun v h => box_at (BX v h) (by rw [hX'.out]; rfl)
  have YI := hid (fun wx (h : Below w.heap.size w wx) => hx.keep h)
  have Y1 := hid (show Y.all (·.oneCell') = true by rw [hY'.out]; exact eRte_one hx)
  obtain ⟨O, hO⟩ : ∃ O, O = appO r.lists r.maps s x := ⟨_, rfl⟩
  rw [← hO]
  have HO := hid hO
  obtain ⟨ms, hms⟩ : ∃ l, l = r.maps := ⟨_, rfl⟩
  have lenM := hr.maps.len
  have MR := hid (fun m (h : m ∈ r.maps) => hr.mapsR m h)
  have CL := hid hcl
  rw [← hms] at hvM hcapM hcM lenM hM MR hC HO CL
  obtain ⟨nm, hnm⟩ : ∃ n, n = ms.length := ⟨_, rfl⟩
  rw [← hnm] at hvM hcapM hcM lenM
  rw [hvM] at FX4
  have NM := hid hnm
  have HM := hid hcM
  obtain ⟨POST, hPO⟩ : ∃ Q, Q = AppPost O w := ⟨_, rfl⟩
  rw [← hPO]
  have HPO := hid hPO
  clear hcM hnm hms hr hvM hx hcl hO hh3 KX KY hPO
  have hP : PP = Try.prog := rfl
  have HP := hid hP
  have mixed : PP.follows .mixedOrders = true := by rw [hP]; kernel_rfl
  have FG : PP.funcs[21]? = some Try.f21 := by rw [hP]; exact Try.func21
  obtain ⟨zRouter, hzRouter⟩ : ∃ z, z = 25 := ⟨_, rfl⟩
  have nzRouter : ¬ zRouter = 0 := by omega
  obtain ⟨zRouteMap, hzRouteMap⟩ : ∃ z, z = 2 := ⟨_, rfl⟩
  have nzRouteMap : ¬ zRouteMap = 0 := by omega
  obtain ⟨zClause, hzClause⟩ : ∃ z, z = 7 := ⟨_, rfl⟩
  have nzClause : ¬ zClause = 0 := by omega
  obtain ⟨zRoute, hzRoute⟩ : ∃ z, z = 14 := ⟨_, rfl⟩
  have nzRoute : ¬ zRoute = 0 := by omega
  have ty3 := Try.underlying3; have ag3 := Try.isAgg3; have sz3 := Try.sizeOf3; have ru3 := Try.runUnderlying3
  have ty4 := Try.underlying4; have ag4 := Try.isAgg4; have sz4 := Try.sizeOf4; have ru4 := Try.runUnderlying4
  have ty9 := Try.underlying9; have ag9 := Try.isAgg9; have sz9 := Try.sizeOf9; have ru9 := Try.runUnderlying9
  have ty38 := Try.underlying38; have ag38 := Try.isAgg38; have sz38 := Try.sizeOf38; have ru38 := Try.runUnderlying38
  have ty55 := Try.underlying55; have ag55 := Try.isAgg55; have sz55 := Try.sizeOf55; have ru55 := Try.runUnderlying55
  rw [← hzRouter] at sz55
  have ty62 := Try.underlying62; have ag62 := Try.isAgg62; have sz62 := Try.sizeOf62; have ru62 := Try.runUnderlying62
  rw [← hzRoute] at sz62
  have zeRoute := Try.zeroValue62
  have ty63 := Try.underlying63; have ag63 := Try.isAgg63; have sz63 := Try.sizeOf63; have ru63 := Try.runUnderlying63
  have ty65 := Try.underlying65; have ag65 := Try.isAgg65; have sz65 := Try.sizeOf65; have ru65 := Try.runUnderlying65
  rw [← hzRouteMap] at sz65
  have ty80 := Try.underlying80; have ag80 := Try.isAgg80; have sz80 := Try.sizeOf80; have ru80 := Try.runUnderlying80
  rw [← hzClause] at sz80
  have zeClause := Try.zeroValue80
  have en0 : ∀ args w, (callFunc 23 args).run Try.prog w = .ok (.enter 23 args) w := enters_of Try.func23 (by kernel_rfl) rfl
  have en1 : ∀ args w, (callFunc 39 args).run Try.prog w = .ok (.enter 39 args) w := enters_of Try.func39 (by kernel_rfl) rfl
  rw [← hP] at ty3 ag3 sz3 ru3 ty4 ag4 sz4 ru4 ty9 ag9 sz9 ru9 ty38 ag38 sz38 ru38 ty55 ag55 sz55 ru55 ty62 ag62 sz62 ru62 zeRoute ty63 ag63 sz63 ru63 ty65 ag65 sz65 ru65 ty80 ag80 sz80 ru80 zeClause en0 en1 hM hC ⊢
  clear hP
  have LX : ∀ v : World, Below w3.heap.size w3 v → Sem.run PP (loadCellsFrom ⟨w.heap.size, 0, none⟩ 0 zRouter #[]) v = .ok X v := fun v h => ld_box PP (BX v h) (by rw [hzRouter]; exact hXs)
  have LY : ∀ v : World, Below w3.heap.size w3 v → Sem.run PP (loadCellsFrom ⟨w.heap.size + 1, 0, none⟩ 0 zRoute #[]) v = .ok Y v := fun v h => ld_box PP (BY v h) (by rw [hzRoute]; exact hYs)
  have ZM := hid hzRouteMap
  have ZC := hid hzClause
  have ZT := hid hzRoute
  have zU : ∀ v, (sizeOf 25).run PP v = .ok 1 v := fun v => by rw [HP.out]; exact Try.sizeOf25 v
  have zP : ∀ v, (sizeOf 27).run PP v = .ok 2 v := fun v => by rw [HP.out]; exact Try.sizeOf27 v
  have zI : ∀ v, (sizeOf 59).run PP v = .ok 1 v := fun v => by rw [HP.out]; exact Try.sizeOf59 v
  have zH : ∀ v, (sizeOf 60).run PP v = .ok 1 v := fun v => by rw [HP.out]; exact Try.sizeOf60 v
  have ST : ∀ {A : Array Value}, A.size = 14 → ∀ v, (sizeOf 62).run PP v = .ok A.size v := fun h v => by rw [h, ← ZT.out]; exact sz62 v
  clear hzRouter hzRoute hzRouteMap hzClause hXs BX
  cases hs : s.toList.isEmpty with
  | true =>
    have R := hid (show O = some x from HO.out.trans (app_some hs))
    clear hC hM FX4 HM MR CL
    have Ka := K3 w3 G3
    go_enter FG, Try.ntmps21
    repeat' ((fail_if_success (with_reducible show Hid _)); (first | ((with_reducible show Oper.wp _ ⟨_, .store 62 _ _, _, _, _, _⟩ _ _ _ _); refine stopP ?_) | go_skip | go_guarded | go_step | go_upon))
    refine hid ?_
    refine wp_store_box (w := w3) 62 _ _ (by rfl) (g := w.heap.size + 2) (cur := zeroRt) (X := Y) (by rfl) (by rfl) (ST hYs) Ka (by rw [hYs]; rfl) Y1.out ?_
    intro wb h1 h2 h3
    have BB := hid (HW3.out.trans (h3 w.heap.size (by omega)))
    clear h2 h3 Ka K3 LY LX
    repeat' (first | go_skip | go_guarded | go_step | go_upon)
    (try simp only [Exit.inBlock, Exit.then])
    exact result_box2 (A := Y) (fn := Try.f21) (t := 62) (b := w.heap.size + 2) rfl rfl ag62 (ST hYs) h1 rfl (by rw [HPO.out, R.out]; exact ⟨x, by rw [hY'.out]; rfl, Like.refl _, YI.out _ BB.out, BB.out⟩)
  | false =>
  have OP := hid (HO.out.trans (app_perm hs))
  rcases ix_find (p := cmB r.lists x.pfx x.tag) (clsOf ms s) with ⟨hi, hf⟩ | ⟨i, c, hi, hic, hf, -, hil⟩
  · have R := hid (show O = none by rw [OP.out]; unfold permC; rw [hf])
    unfold clI at hC
    rw [hi] at hC
    clear hi hf hM FX4 HM MR CL OP HO
    go_enter FG, Try.ntmps21
    repeat' ((fail_if_success (with_reducible show Hid _)); (first | (go_at_call 23; with_reducible refine (hC _ (by assumption)).mono ?_; rintro e wc ⟨rfl, bc1⟩; refine stopP ?_) | go_skip | go_guarded | go_step | go_upon))
    refine hid ?_
    dsimp only
    have Ka := K3 wc bc1
    have bw := hid bc1
    clear bc1 hC K3 LX LY
    repeat' ((fail_if_success (with_reducible show Hid _)); (first | ((with_reducible show Oper.wp _ ⟨_, .store 62 _ _, _, _, _, _⟩ _ _ _ _); refine stopP ?_) | go_skip | go_guarded | go_step | go_upon))
    refine hid ?_
    refine wp_store_box (w := wc) 62 _ _ (by rfl) (g := w.heap.size + 2) (cur := zeroRt) (X := zeroRt) (by rfl) (by rfl) (ST rfl) Ka rfl (eRte_one (zeroRte_in w)) ?_
    intro wb h1 h2 h3
    have BB := hid ((then_ HW3.out bw.out).trans (h3 w.heap.size (by omega)))
    clear h2 h3 Ka
    repeat' (first | go_skip | go_guarded | go_step | go_upon)
    (try simp only [Exit.inBlock, Exit.then])
    exact result_box2 (A := zeroRt) (fn := Try.f21) (t := 62) (b := w.heap.size + 2) rfl rfl ag62 (ST rfl) h1 rfl (by rw [HPO.out, R.out]; exact ⟨zeroRte, rfl, Like.refl _, zeroRte_in _, BB.out⟩)

  · unfold clI at hC
    rw [hi] at hC
    have hi0 : (0 : Int) ≤ (i : Int) := by omega
    have hi1 : ¬ (i : Int) < 0 := by omega
    have OK := hid (CL.out c (get_mem hic))
    rcases ix_find (p := fun x : RMap => x.name.toList == s.toList) ms with ⟨ji, jf⟩ | ⟨j, m, ji, jx, jf, -, jl⟩
    · exfalso; unfold clsOf at hil; rw [jf] at hil; simp at hil
    have cm : clsOf ms s = m.clauses := by unfold clsOf; rw [jf]
    rw [cm] at hic hil hf
    rw [ji] at hM
    have R := hid (show O = if c.permit then some (setC x c) else none by rw [OP.out]; unfold permC; rw [cm, hf]; cases h : c.permit <;> simp [h])
    have hji : (j : Int) < (nm : Int) := by have := NM.out; omega
    have hj0 : (0 : Int) ≤ (j : Int) := by omega
    obtain ⟨b, off, rfl, hb, hc⟩ := HM.out (by have := NM.out; omega)
    have mv := hid (MR.out m (get_mem jx))
    obtain ⟨a, cap, hv, hcap, hcell⟩ := rows_open (z := 7) (by decide) mv.out.row
    have hlen := mv.out.len
    obtain ⟨n, hn⟩ : ∃ n, n = m.clauses.length := ⟨_, rfl⟩
    rw [← hn] at hv hcap hcell hlen hil
    have hin : (i : Int) < (n : Int) := by omega
    obtain ⟨bc, oc, rfl, hbc, hcc⟩ := hcell (by omega)
    have FE : ∀ v : World, Below w3.heap.size w3 v → v.cell? ⟨b, off + j * zRouteMap + 1, none⟩ = some (.slice (some ⟨bc, oc, none⟩) n cap) := fun v h => by
      rw [ZM.out, ← hv]; exact ((then_ HW3.out h).cell (p := ⟨b, off + j * 2 + 1, none⟩) hb).trans (row_cells (f := eRMap) (z := 2) (fun _ => rfl) hc jx 1 _ rfl)
    have LC : ∀ v : World, Below w3.heap.size w3 v → Sem.run PP (loadCellsFrom ⟨bc, oc + i * zClause, none⟩ 0 zClause #[]) v = .ok (eCla c).toArray v := fun v h => by
      rw [ZC.out]; exact ld_row (f := eCla) (z := 7) PP (fun _ => rfl) (fun j u hj => ((then_ HW3.out h).cell (p := ⟨bc, oc + j, none⟩) hbc).trans (hcc j u hj)) hic
    have CE := hid (show (eCla c).toArray = #[.bool c.permit, .string c.lst, .int .i64 c.tag, .int .i64 c.setMetric, .int .i64 c.setTag, .int .i64 c.setPref, .int .i64 c.prepend] from rfl)
    have zl : (eCla c).length = zClause := by rw [ZC.out]; rfl
    have one := hid (show ∀ u ∈ eCla c, u.oneCell' = true from fun u hu => by have h := cla_one c; rw [Array.all_eq_true'] at h; exact h u (by simpa using hu))
    have hrow0 : ∀ v : World, Sem.run PP (storeCells ⟨v.heap.size, 0, none⟩ (eCla c)) (v.alloc (.cells #[.bool false, .string ⟨#[]⟩, .int .i64 0, .int .i64 0, .int .i64 0, .int .i64 0, .int .i64 0] 80)) = .ok () ((v.alloc (.cells zeroCl 80)).setRow v.heap.size (eCla c).toArray) := fun v => row_new (by rfl) one.out v
    obtain ⟨RW, hRW⟩ : ∃ f : World → World, f = fun v => (v.alloc (.cells zeroCl 80)).setRow v.heap.size (eCla c).toArray := ⟨_, rfl⟩
    have rB : ∀ v, Below v.heap.size v (RW v) := fun v => by rw [hRW]; exact row_below v
    have rK := hid (show ∀ v, (RW v).heap[v.heap.size]? = some (.cells (eCla c).toArray 80 (0, 0)) from fun v => by rw [hRW]; exact row_heap v)
    have hrow : ∀ v : World, Sem.run PP (storeCells ⟨v.heap.size, 0, none⟩ (eCla c)) (v.alloc (.cells #[.bool false, .string ⟨#[]⟩, .int .i64 0, .int .i64 0, .int .i64 0, .int .i64 0, .int .i64 0] 80)) = .ok () (RW v) := fun v => by rw [hRW]; exact hrow0 v
    clear hRW hrow0 hi hf hic ji jf jx jl cm hc hcc hv hn hcell
    go_enter FG, Try.ntmps21
    repeat' ((fail_if_success (with_reducible show Hid _)); (first | (go_at_call 23; with_reducible refine (hC _ (by assumption)).mono ?_; rintro e wc ⟨rfl, bc1⟩; refine stopP ?_) | go_skip | go_guarded | go_step | go_upon))
    refine hid ?_
    dsimp only
    clear hC
    have bw : Below w3.heap.size w3 wc := bc1
    obtain ⟨RL, hRL⟩ : ∃ f : World → World, f = fun u => u.setRow wc.heap.size (eCla c).toArray := ⟨_, rfl⟩
    have LR := hid (show ∀ u, Below (wc.alloc (.cells #[.bool false, .string ⟨#[]⟩, .int .i64 0, .int .i64 0, .int .i64 0, .int .i64 0, .int .i64 0] 80)).heap.size (wc.alloc (.cells #[.bool false, .string ⟨#[]⟩, .int .i64 0, .int .i64 0, .int .i64 0, .int .i64 0, .int .i64 0] 80)) u → Sem.run PP (storeCells ⟨wc.heap.size, 0, none⟩ (eCla c)) u = .ok () (RL u) from fun u hu => by rw [hRL]; exact row_late (by rfl) one.out wc u hu)
    have LB := hid (show ∀ u, Below (wc.alloc (.cells #[.bool false, .string ⟨#[]⟩, .int .i64 0, .int .i64 0, .int .i64 0, .int .i64 0, .int .i64 0] 80)).heap.size (wc.alloc (.cells #[.bool false, .string ⟨#[]⟩, .int .i64 0, .int .i64 0, .int .i64 0, .int .i64 0, .int .i64 0] 80)) u → Below w3.heap.size w3 (RL u) from fun u hu => by rw [hRL]; exact late_below bw bw.size hu)
    have LK := hid (show ∀ u, Below (wc.alloc (.cells #[.bool false, .string ⟨#[]⟩, .int .i64 0, .int .i64 0, .int .i64 0, .int .i64 0, .int .i64 0] 80)).heap.size (wc.alloc (.cells #[.bool false, .string ⟨#[]⟩, .int .i64 0, .int .i64 0, .int .i64 0, .int .i64 0, .int .i64 0] 80)) u → (RL u).heap[wc.heap.size]? = some (.cells (eCla c).toArray 80 (0, 0)) from fun u hu => by rw [hRL]; exact late_heap hu)
    have gcB := hid (show w3.heap.size ≤ wc.heap.size from bw.size)
    clear hRL one
    repeat' (first | go_skip | go_guarded | go_step | go_upon)
    go_region_held3 (fun v => Below w3.heap.size w3 v) ((first | assumption | exact then_ (w := w3) (by assumption) (al1 _ _) | exact then_ (w := w3) (by assumption) (rB _) | go_grown)) (first
      | (go_at_call 39; with_reducible refine (hM _ (by assumption)).mono ?_; rintro e w' ⟨rfl, bz⟩; have b' := then_ (w := w3) (by assumption) bz; (try (have t1 := LR.out _ (undrew bz); have t2 := LB.out _ (undrew bz); have t3 := hid (LK.out _ (undrew bz)))); clear bz)
      | fail)

    · have BF : Below w3.heap.size w3 (RW w') := then_ (w := w3) (by assumption) (rB _)
      have KC := rK.out w'
      obtain ⟨wz, hz⟩ : ∃ v, v = RW w' := ⟨_, rfl⟩
      rw [← hz] at BF KC ⊢
      have g1 : w.heap.size + 1 ≠ w'.heap.size := by have := s3.out; have := gcB.out; have := b'.size; omega
      have KY0 := BY wz BF
      have HB := hid BF
      clear hz rB rK LR LB LK hM hrow LX LC FE BY
      have EC : ∀ v : World, (∀ k, k ≠ w.heap.size + 1 → v.heap[k]? = wz.heap[k]?) → v.heap[w'.heap.size]? = some (.cells (eCla c).toArray 80 (0, 0)) := fun v h => by rw [h _ (Ne.symm g1)]; exact KC
      have e0 : wz.cell? ⟨w'.heap.size, 0, none⟩ = some (.bool c.permit) := box_at KC rfl
      obtain ⟨c0, hc0⟩ : ∃ q, q = c.permit := ⟨_, rfl⟩
      rw [← hc0] at e0 R
      cases c0
      case false =>
        clear hc0
        have Ka := K3 wz BF
        clear K3 LY EC KC
        repeat' ((fail_if_success (with_reducible show Hid _)); (first | ((with_reducible show Oper.wp _ ⟨_, .store 62 _ _, _, _, _, _⟩ _ _ _ _); refine stopP ?_) | go_skip | go_guarded | go_step | go_upon))
        refine hid ?_
        refine wp_store_box (w := wz) 62 _ _ (by rfl) (g := w.heap.size + 2) (cur := zeroRt) (X := zeroRt) (by rfl) (by rfl) (ST rfl) Ka rfl (eRte_one (zeroRte_in w)) ?_
        intro wb h1 h2 h3
        have BB := hid ((then_ HW3.out HB.out).trans (h3 w.heap.size (by omega)))
        clear h2 h3 Ka
        repeat' (first | go_skip | go_guarded | go_step | go_upon)
        (try simp only [Exit.inBlock, Exit.then])
        exact result_box2 (A := zeroRt) (fn := Try.f21) (t := 62) (b := w.heap.size + 2) rfl rfl ag62 (ST rfl) h1 rfl (by rw [HPO.out, R.out]; exact ⟨zeroRte, rfl, Like.refl _, zeroRte_in _, BB.out⟩)
      clear hc0 LY
      have eqwz := hid (show ∀ k, k ≠ w.heap.size + 1 → wz.heap[k]? = wz.heap[k]? from fun _ _ => rfl)
      have Bwz := hid (show Below w.heap.size w wz from then_ HW3.out HB.out)
      have f0 : wz.cell? ⟨w'.heap.size, 3, none⟩ = some (.int .i64 c.setMetric) := box_at (EC wz eqwz.out) rfl
      by_cases h0 : c.setMetric < 0
      · have eqT0 := hid (show (c.setMetric = -1) = True from eq_true (by have := OK.out; unfold claOk wi at this; simp at this; omega))
        have f1 : wz.cell? ⟨w'.heap.size, 4, none⟩ = some (.int .i64 c.setTag) := box_at (EC wz eqwz.out) rfl
        by_cases h1 : c.setTag < 0
        · have eqT1 := hid (show (c.setTag = -1) = True from eq_true (by have := OK.out; unfold claOk wi at this; simp at this; omega))
          have f2 : wz.cell? ⟨w'.heap.size, 5, none⟩ = some (.int .i64 c.setPref) := box_at (EC wz eqwz.out) rfl
          by_cases h2 : c.setPref < 0
          · have eqT2 := hid (show (c.setPref = -1) = True from eq_true (by have := OK.out; unfold claOk wi at this; simp at this; omega))
            have UV := hid (show Y = (eRte (setC x c)).toArray by rw [hY'.out]; unfold setC repI; simp only [eqT0.out, eqT1.out, eqT2.out, if_true, if_false, ite_true, ite_false] <;> rfl)
            obtain ⟨U, hU⟩ : ∃ U, U = Y := ⟨_, rfl⟩
            rw [← hU] at UV KY0
            have hUs : U.size = 14 := by rw [UV.out]; rfl
            have U1 := hid (show U.all (·.oneCell') = true by rw [UV.out]; have t := YI.out w (Below.refl _ _); exact eRte_one (w := w) (x := setC x c) { t with })
            have LU : Sem.run PP (loadCellsFrom ⟨w.heap.size + 1, 0, none⟩ 0 zRoute #[]) wz = .ok U wz := ld_box PP KY0 (by rw [ZT.out]; exact hUs)
            have Ka : wz.heap[w.heap.size + 2]? = some (.cells zeroRt 62 (0, 0)) := by rw [eqwz.out _ (by omega)]; exact K3 wz HB.out
            have BV := hid (show Below w.heap.size w wz from Bwz.out)
            clear K3 EC KC hU
            repeat' ((fail_if_success (with_reducible show Hid _)); (first | ((with_reducible show Oper.wp _ ⟨_, .store 62 _ _, _, _, _, _⟩ _ _ _ _); refine stopP ?_) | go_skip | go_guarded | go_step | go_upon))
            refine hid ?_
            refine wp_store_box (w := wz) 62 _ _ (by rfl) (g := w.heap.size + 2) (cur := zeroRt) (X := U) (by rfl) (by rfl) (ST hUs) Ka (by rw [hUs]; rfl) U1.out ?_
            intro wb h1 h2 h3
            have BB := hid (BV.out.trans (h3 w.heap.size (by omega)))
            clear h2 h3 Ka LU
            repeat' (first | go_skip | go_guarded | go_step | go_upon)
            (try simp only [Exit.inBlock, Exit.then])
            exact result_box2 (A := U) (fn := Try.f21) (t := 62) (b := w.heap.size + 2) rfl rfl ag62 (ST hUs) h1 rfl (by rw [HPO.out, R.out]; exact ⟨setC x c, by rw [UV.out]; rfl, Like.refl _, (by have t := YI.out _ BB.out; exact { t with }), BB.out⟩)
          · have n2 : (0 : Int) ≤ c.setPref := by omega
            have eqT2 := hid (show (c.setPref = -1) = False from eq_false (by omega))
            have c2 : wz.cell? ⟨w.heap.size + 1, 8, none⟩ = some (.int .i64 x.pref) := box_at KY0 (by rw [hY'.out]; rfl)
            have q2 := frz KY0 8
            obtain ⟨v2z, hv2z⟩ : ∃ u, wz.setCell ⟨w.heap.size + 1, 8, none⟩ (.int .i64 c.setPref) = u := ⟨_, rfl⟩
            have Kv2z := Go.heap_setCell_same wz (w.heap.size + 1) 8 _ _ (.int .i64 c.setPref) KY0
            rw [hv2z] at Kv2z
            have eqv2z := hid (show ∀ k, k ≠ w.heap.size + 1 → v2z.heap[k]? = wz.heap[k]? from fun k hk => by rw [← hv2z, Go.heap_setCell_other _ _ _ _ (by first | exact hk | exact Ne.symm hk)] <;> exact eqwz.out k hk)
            have Bv2z := hid (show Below w.heap.size w v2z by rw [← hv2z]; exact Bwz.out.setCell (by show w.heap.size ≤ w.heap.size + 1; omega) _)
            have UV := hid (show (Y).setIfInBounds 8 (.int .i64 c.setPref) = (eRte (setC x c)).toArray by rw [hY'.out]; unfold setC repI; simp only [eqT0.out, eqT1.out, eqT2.out, if_true, if_false, ite_true, ite_false] <;> rfl)
            obtain ⟨U, hU⟩ : ∃ U, U = (Y).setIfInBounds 8 (.int .i64 c.setPref) := ⟨_, rfl⟩
            rw [← hU] at UV Kv2z
            have hUs : U.size = 14 := by rw [UV.out]; rfl
            have U1 := hid (show U.all (·.oneCell') = true by rw [UV.out]; have t := YI.out w (Below.refl _ _); exact eRte_one (w := w) (x := setC x c) { t with })
            have LU : Sem.run PP (loadCellsFrom ⟨w.heap.size + 1, 0, none⟩ 0 zRoute #[]) v2z = .ok U v2z := ld_box PP Kv2z (by rw [ZT.out]; exact hUs)
            have Ka : v2z.heap[w.heap.size + 2]? = some (.cells zeroRt 62 (0, 0)) := by rw [eqv2z.out _ (by omega)]; exact K3 wz HB.out
            have BV := hid (show Below w.heap.size w v2z from Bv2z.out)
            clear K3 EC KC hU
            repeat' ((fail_if_success (with_reducible show Hid _)); (first | ((with_reducible show Oper.wp _ ⟨_, .store 62 _ _, _, _, _, _⟩ _ _ _ _); refine stopP ?_) | go_skip | go_guarded | go_step | go_upon))
            refine hid ?_
            refine wp_store_box (w := v2z) 62 _ _ (by rfl) (g := w.heap.size + 2) (cur := zeroRt) (X := U) (by rfl) (by rfl) (ST hUs) Ka (by rw [hUs]; rfl) U1.out ?_
            intro wb h1 h2 h3
            have BB := hid (BV.out.trans (h3 w.heap.size (by omega)))
            clear h2 h3 Ka LU
            repeat' (first | go_skip | go_guarded | go_step | go_upon)
            (try simp only [Exit.inBlock, Exit.then])
            exact result_box2 (A := U) (fn := Try.f21) (t := 62) (b := w.heap.size + 2) rfl rfl ag62 (ST hUs) h1 rfl (by rw [HPO.out, R.out]; exact ⟨setC x c, by rw [UV.out]; rfl, Like.refl _, (by have t := YI.out _ BB.out; exact { t with }), BB.out⟩)
        · have n1 : (0 : Int) ≤ c.setTag := by omega
          have eqT1 := hid (show (c.setTag = -1) = False from eq_false (by omega))
          have c1 : wz.cell? ⟨w.heap.size + 1, 7, none⟩ = some (.int .i64 x.tag) := box_at KY0 (by rw [hY'.out]; rfl)
          have q1 := frz KY0 7
          obtain ⟨v1z, hv1z⟩ : ∃ u, wz.setCell ⟨w.heap.size + 1, 7, none⟩ (.int .i64 c.setTag) = u := ⟨_, rfl⟩
          have Kv1z := Go.heap_setCell_same wz (w.heap.size + 1) 7 _ _ (.int .i64 c.setTag) KY0
          rw [hv1z] at Kv1z
          have eqv1z := hid (show ∀ k, k ≠ w.heap.size + 1 → v1z.heap[k]? = wz.heap[k]? from fun k hk => by rw [← hv1z, Go.heap_setCell_other _ _ _ _ (by first | exact hk | exact Ne.symm hk)] <;> exact eqwz.out k hk)
          have Bv1z := hid (show Below w.heap.size w v1z by rw [← hv1z]; exact Bwz.out.setCell (by show w.heap.size ≤ w.heap.size + 1; omega) _)
          have f2 : v1z.cell? ⟨w'.heap.size, 5, none⟩ = some (.int .i64 c.setPref) := box_at (EC v1z eqv1z.out) rfl
          by_cases h2 : c.setPref < 0
          · have eqT2 := hid (show (c.setPref = -1) = True from eq_true (by have := OK.out; unfold claOk wi at this; simp at this; omega))
            have UV := hid (show (Y).setIfInBounds 7 (.int .i64 c.setTag) = (eRte (setC x c)).toArray by rw [hY'.out]; unfold setC repI; simp only [eqT0.out, eqT1.out, eqT2.out, if_true, if_false, ite_true, ite_false] <;> rfl)
            obtain ⟨U, hU⟩ : ∃ U, U = (Y).setIfInBounds 7 (.int .i64 c.setTag) := ⟨_, rfl⟩
            rw [← hU] at UV Kv1z
            have hUs : U.size = 14 := by rw [UV.out]; rfl
            have U1 := hid (show U.all (·.oneCell') = true by rw [UV.out]; have t := YI.out w (Below.refl _ _); exact eRte_one (w := w) (x := setC x c) { t with })
            have LU : Sem.run PP (loadCellsFrom ⟨w.heap.size + 1, 0, none⟩ 0 zRoute #[]) v1z = .ok U v1z := ld_box PP Kv1z (by rw [ZT.out]; exact hUs)
            have Ka : v1z.heap[w.heap.size + 2]? = some (.cells zeroRt 62 (0, 0)) := by rw [eqv1z.out _ (by omega)]; exact K3 wz HB.out
            have BV := hid (show Below w.heap.size w v1z from Bv1z.out)
            clear K3 EC KC hU
            repeat' ((fail_if_success (with_reducible show Hid _)); (first | ((with_reducible show Oper.wp _ ⟨_, .store 62 _ _, _, _, _, _⟩ _ _ _ _); refine stopP ?_) | go_skip | go_guarded | go_step | go_upon))
            refine hid ?_
            refine wp_store_box (w := v1z) 62 _ _ (by rfl) (g := w.heap.size + 2) (cur := zeroRt) (X := U) (by rfl) (by rfl) (ST hUs) Ka (by rw [hUs]; rfl) U1.out ?_
            intro wb h1 h2 h3
            have BB := hid (BV.out.trans (h3 w.heap.size (by omega)))
            clear h2 h3 Ka LU
            repeat' (first | go_skip | go_guarded | go_step | go_upon)
            (try simp only [Exit.inBlock, Exit.then])
            exact result_box2 (A := U) (fn := Try.f21) (t := 62) (b := w.heap.size + 2) rfl rfl ag62 (ST hUs) h1 rfl (by rw [HPO.out, R.out]; exact ⟨setC x c, by rw [UV.out]; rfl, Like.refl _, (by have t := YI.out _ BB.out; exact { t with }), BB.out⟩)
          · have n2 : (0 : Int) ≤ c.setPref := by omega
            have eqT2 := hid (show (c.setPref = -1) = False from eq_false (by omega))
            have c2 : v1z.cell? ⟨w.heap.size + 1, 8, none⟩ = some (.int .i64 x.pref) := box_at Kv1z (by rw [hY'.out]; rfl)
            have q2 := frz Kv1z 8
            obtain ⟨v21z, hv21z⟩ : ∃ u, v1z.setCell ⟨w.heap.size + 1, 8, none⟩ (.int .i64 c.setPref) = u := ⟨_, rfl⟩
            have Kv21z := Go.heap_setCell_same v1z (w.heap.size + 1) 8 _ _ (.int .i64 c.setPref) Kv1z
            rw [hv21z] at Kv21z
            have eqv21z := hid (show ∀ k, k ≠ w.heap.size + 1 → v21z.heap[k]? = wz.heap[k]? from fun k hk => by rw [← hv21z, Go.heap_setCell_other _ _ _ _ (by first | exact hk | exact Ne.symm hk)] <;> exact eqv1z.out k hk)
            have Bv21z := hid (show Below w.heap.size w v21z by rw [← hv21z]; exact Bv1z.out.setCell (by show w.heap.size ≤ w.heap.size + 1; omega) _)
            have UV := hid (show ((Y).setIfInBounds 7 (.int .i64 c.setTag)).setIfInBounds 8 (.int .i64 c.setPref) = (eRte (setC x c)).toArray by rw [hY'.out]; unfold setC repI; simp only [eqT0.out, eqT1.out, eqT2.out, if_true, if_false, ite_true, ite_false] <;> rfl)
            obtain ⟨U, hU⟩ : ∃ U, U = ((Y).setIfInBounds 7 (.int .i64 c.setTag)).setIfInBounds 8 (.int .i64 c.setPref) := ⟨_, rfl⟩
            rw [← hU] at UV Kv21z
            have hUs : U.size = 14 := by rw [UV.out]; rfl
            have U1 := hid (show U.all (·.oneCell') = true by rw [UV.out]; have t := YI.out w (Below.refl _ _); exact eRte_one (w := w) (x := setC x c) { t with })
            have LU : Sem.run PP (loadCellsFrom ⟨w.heap.size + 1, 0, none⟩ 0 zRoute #[]) v21z = .ok U v21z := ld_box PP Kv21z (by rw [ZT.out]; exact hUs)
            have Ka : v21z.heap[w.heap.size + 2]? = some (.cells zeroRt 62 (0, 0)) := by rw [eqv21z.out _ (by omega)]; exact K3 wz HB.out
            have BV := hid (show Below w.heap.size w v21z from Bv21z.out)
            clear K3 EC KC hU
            repeat' ((fail_if_success (with_reducible show Hid _)); (first | ((with_reducible show Oper.wp _ ⟨_, .store 62 _ _, _, _, _, _⟩ _ _ _ _); refine stopP ?_) | go_skip | go_guarded | go_step | go_upon))
            refine hid ?_
            refine wp_store_box (w := v21z) 62 _ _ (by rfl) (g := w.heap.size + 2) (cur := zeroRt) (X := U) (by rfl) (by rfl) (ST hUs) Ka (by rw [hUs]; rfl) U1.out ?_
            intro wb h1 h2 h3
            have BB := hid (BV.out.trans (h3 w.heap.size (by omega)))
            clear h2 h3 Ka LU
            repeat' (first | go_skip | go_guarded | go_step | go_upon)
            (try simp only [Exit.inBlock, Exit.then])
            exact result_box2 (A := U) (fn := Try.f21) (t := 62) (b := w.heap.size + 2) rfl rfl ag62 (ST hUs) h1 rfl (by rw [HPO.out, R.out]; exact ⟨setC x c, by rw [UV.out]; rfl, Like.refl _, (by have t := YI.out _ BB.out; exact { t with }), BB.out⟩)
      · have n0 : (0 : Int) ≤ c.setMetric := by omega
        have eqT0 := hid (show (c.setMetric = -1) = False from eq_false (by omega))
        have c0 : wz.cell? ⟨w.heap.size + 1, 5, none⟩ = some (.int .i64 x.metric) := box_at KY0 (by rw [hY'.out]; rfl)
        have q0 := frz KY0 5
        obtain ⟨v0z, hv0z⟩ : ∃ u, wz.setCell ⟨w.heap.size + 1, 5, none⟩ (.int .i64 c.setMetric) = u := ⟨_, rfl⟩
        have Kv0z := Go.heap_setCell_same wz (w.heap.size + 1) 5 _ _ (.int .i64 c.setMetric) KY0
        rw [hv0z] at Kv0z
        have eqv0z := hid (show ∀ k, k ≠ w.heap.size + 1 → v0z.heap[k]? = wz.heap[k]? from fun k hk => by rw [← hv0z, Go.heap_setCell_other _ _ _ _ (by first | exact hk | exact Ne.symm hk)] <;> exact eqwz.out k hk)
        have Bv0z := hid (show Below w.heap.size w v0z by rw [← hv0z]; exact Bwz.out.setCell (by show w.heap.size ≤ w.heap.size + 1; omega) _)
        have f1 : v0z.cell? ⟨w'.heap.size, 4, none⟩ = some (.int .i64 c.setTag) := box_at (EC v0z eqv0z.out) rfl
        by_cases h1 : c.setTag < 0
        · have eqT1 := hid (show (c.setTag = -1) = True from eq_true (by have := OK.out; unfold claOk wi at this; simp at this; omega))
          have f2 : v0z.cell? ⟨w'.heap.size, 5, none⟩ = some (.int .i64 c.setPref) := box_at (EC v0z eqv0z.out) rfl
          by_cases h2 : c.setPref < 0
          · have eqT2 := hid (show (c.setPref = -1) = True from eq_true (by have := OK.out; unfold claOk wi at this; simp at this; omega))
            have UV := hid (show (Y).setIfInBounds 5 (.int .i64 c.setMetric) = (eRte (setC x c)).toArray by rw [hY'.out]; unfold setC repI; simp only [eqT0.out, eqT1.out, eqT2.out, if_true, if_false, ite_true, ite_false] <;> rfl)
            obtain ⟨U, hU⟩ : ∃ U, U = (Y).setIfInBounds 5 (.int .i64 c.setMetric) := ⟨_, rfl⟩
            rw [← hU] at UV Kv0z
            have hUs : U.size = 14 := by rw [UV.out]; rfl
            have U1 := hid (show U.all (·.oneCell') = true by rw [UV.out]; have t := YI.out w (Below.refl _ _); exact eRte_one (w := w) (x := setC x c) { t with })
            have LU : Sem.run PP (loadCellsFrom ⟨w.heap.size + 1, 0, none⟩ 0 zRoute #[]) v0z = .ok U v0z := ld_box PP Kv0z (by rw [ZT.out]; exact hUs)
            have Ka : v0z.heap[w.heap.size + 2]? = some (.cells zeroRt 62 (0, 0)) := by rw [eqv0z.out _ (by omega)]; exact K3 wz HB.out
            have BV := hid (show Below w.heap.size w v0z from Bv0z.out)
            clear K3 EC KC hU
            repeat' ((fail_if_success (with_reducible show Hid _)); (first | ((with_reducible show Oper.wp _ ⟨_, .store 62 _ _, _, _, _, _⟩ _ _ _ _); refine stopP ?_) | go_skip | go_guarded | go_step | go_upon))
            refine hid ?_
            refine wp_store_box (w := v0z) 62 _ _ (by rfl) (g := w.heap.size + 2) (cur := zeroRt) (X := U) (by rfl) (by rfl) (ST hUs) Ka (by rw [hUs]; rfl) U1.out ?_
            intro wb h1 h2 h3
            have BB := hid (BV.out.trans (h3 w.heap.size (by omega)))
            clear h2 h3 Ka LU
            repeat' (first | go_skip | go_guarded | go_step | go_upon)
            (try simp only [Exit.inBlock, Exit.then])
            exact result_box2 (A := U) (fn := Try.f21) (t := 62) (b := w.heap.size + 2) rfl rfl ag62 (ST hUs) h1 rfl (by rw [HPO.out, R.out]; exact ⟨setC x c, by rw [UV.out]; rfl, Like.refl _, (by have t := YI.out _ BB.out; exact { t with }), BB.out⟩)
          · have n2 : (0 : Int) ≤ c.setPref := by omega
            have eqT2 := hid (show (c.setPref = -1) = False from eq_false (by omega))
            have c2 : v0z.cell? ⟨w.heap.size + 1, 8, none⟩ = some (.int .i64 x.pref) := box_at Kv0z (by rw [hY'.out]; rfl)
            have q2 := frz Kv0z 8
            obtain ⟨v20z, hv20z⟩ : ∃ u, v0z.setCell ⟨w.heap.size + 1, 8, none⟩ (.int .i64 c.setPref) = u := ⟨_, rfl⟩
            have Kv20z := Go.heap_setCell_same v0z (w.heap.size + 1) 8 _ _ (.int .i64 c.setPref) Kv0z
            rw [hv20z] at Kv20z
            have eqv20z := hid (show ∀ k, k ≠ w.heap.size + 1 → v20z.heap[k]? = wz.heap[k]? from fun k hk => by rw [← hv20z, Go.heap_setCell_other _ _ _ _ (by first | exact hk | exact Ne.symm hk)] <;> exact eqv0z.out k hk)
            have Bv20z := hid (show Below w.heap.size w v20z by rw [← hv20z]; exact Bv0z.out.setCell (by show w.heap.size ≤ w.heap.size + 1; omega) _)
            have UV := hid (show ((Y).setIfInBounds 5 (.int .i64 c.setMetric)).setIfInBounds 8 (.int .i64 c.setPref) = (eRte (setC x c)).toArray by rw [hY'.out]; unfold setC repI; simp only [eqT0.out, eqT1.out, eqT2.out, if_true, if_false, ite_true, ite_false] <;> rfl)
            obtain ⟨U, hU⟩ : ∃ U, U = ((Y).setIfInBounds 5 (.int .i64 c.setMetric)).setIfInBounds 8 (.int .i64 c.setPref) := ⟨_, rfl⟩
            rw [← hU] at UV Kv20z
            have hUs : U.size = 14 := by rw [UV.out]; rfl
            have U1 := hid (show U.all (·.oneCell') = true by rw [UV.out]; have t := YI.out w (Below.refl _ _); exact eRte_one (w := w) (x := setC x c) { t with })
            have LU : Sem.run PP (loadCellsFrom ⟨w.heap.size + 1, 0, none⟩ 0 zRoute #[]) v20z = .ok U v20z := ld_box PP Kv20z (by rw [ZT.out]; exact hUs)
            have Ka : v20z.heap[w.heap.size + 2]? = some (.cells zeroRt 62 (0, 0)) := by rw [eqv20z.out _ (by omega)]; exact K3 wz HB.out
            have BV := hid (show Below w.heap.size w v20z from Bv20z.out)
            clear K3 EC KC hU
            repeat' ((fail_if_success (with_reducible show Hid _)); (first | ((with_reducible show Oper.wp _ ⟨_, .store 62 _ _, _, _, _, _⟩ _ _ _ _); refine stopP ?_) | go_skip | go_guarded | go_step | go_upon))
            refine hid ?_
            refine wp_store_box (w := v20z) 62 _ _ (by rfl) (g := w.heap.size + 2) (cur := zeroRt) (X := U) (by rfl) (by rfl) (ST hUs) Ka (by rw [hUs]; rfl) U1.out ?_
            intro wb h1 h2 h3
            have BB := hid (BV.out.trans (h3 w.heap.size (by omega)))
            clear h2 h3 Ka LU
            repeat' (first | go_skip | go_guarded | go_step | go_upon)
            (try simp only [Exit.inBlock, Exit.then])
            exact result_box2 (A := U) (fn := Try.f21) (t := 62) (b := w.heap.size + 2) rfl rfl ag62 (ST hUs) h1 rfl (by rw [HPO.out, R.out]; exact ⟨setC x c, by rw [UV.out]; rfl, Like.refl _, (by have t := YI.out _ BB.out; exact { t with }), BB.out⟩)
        · have n1 : (0 : Int) ≤ c.setTag := by omega
          have eqT1 := hid (show (c.setTag = -1) = False from eq_false (by omega))
          have c1 : v0z.cell? ⟨w.heap.size + 1, 7, none⟩ = some (.int .i64 x.tag) := box_at Kv0z (by rw [hY'.out]; rfl)
          have q1 := frz Kv0z 7
          obtain ⟨v10z, hv10z⟩ : ∃ u, v0z.setCell ⟨w.heap.size + 1, 7, none⟩ (.int .i64 c.setTag) = u := ⟨_, rfl⟩
          have Kv10z := Go.heap_setCell_same v0z (w.heap.size + 1) 7 _ _ (.int .i64 c.setTag) Kv0z
          rw [hv10z] at Kv10z
          have eqv10z := hid (show ∀ k, k ≠ w.heap.size + 1 → v10z.heap[k]? = wz.heap[k]? from fun k hk => by rw [← hv10z, Go.heap_setCell_other _ _ _ _ (by first | exact hk | exact Ne.symm hk)] <;> exact eqv0z.out k hk)
          have Bv10z := hid (show Below w.heap.size w v10z by rw [← hv10z]; exact Bv0z.out.setCell (by show w.heap.size ≤ w.heap.size + 1; omega) _)
          have f2 : v10z.cell? ⟨w'.heap.size, 5, none⟩ = some (.int .i64 c.setPref) := box_at (EC v10z eqv10z.out) rfl
          by_cases h2 : c.setPref < 0
          · have eqT2 := hid (show (c.setPref = -1) = True from eq_true (by have := OK.out; unfold claOk wi at this; simp at this; omega))
            have UV := hid (show ((Y).setIfInBounds 5 (.int .i64 c.setMetric)).setIfInBounds 7 (.int .i64 c.setTag) = (eRte (setC x c)).toArray by rw [hY'.out]; unfold setC repI; simp only [eqT0.out, eqT1.out, eqT2.out, if_true, if_false, ite_true, ite_false] <;> rfl)
            obtain ⟨U, hU⟩ : ∃ U, U = ((Y).setIfInBounds 5 (.int .i64 c.setMetric)).setIfInBounds 7 (.int .i64 c.setTag) := ⟨_, rfl⟩
            rw [← hU] at UV Kv10z
            have hUs : U.size = 14 := by rw [UV.out]; rfl
            have U1 := hid (show U.all (·.oneCell') = true by rw [UV.out]; have t := YI.out w (Below.refl _ _); exact eRte_one (w := w) (x := setC x c) { t with })
            have LU : Sem.run PP (loadCellsFrom ⟨w.heap.size + 1, 0, none⟩ 0 zRoute #[]) v10z = .ok U v10z := ld_box PP Kv10z (by rw [ZT.out]; exact hUs)
            have Ka : v10z.heap[w.heap.size + 2]? = some (.cells zeroRt 62 (0, 0)) := by rw [eqv10z.out _ (by omega)]; exact K3 wz HB.out
            have BV := hid (show Below w.heap.size w v10z from Bv10z.out)
            clear K3 EC KC hU
            repeat' ((fail_if_success (with_reducible show Hid _)); (first | ((with_reducible show Oper.wp _ ⟨_, .store 62 _ _, _, _, _, _⟩ _ _ _ _); refine stopP ?_) | go_skip | go_guarded | go_step | go_upon))
            refine hid ?_
            refine wp_store_box (w := v10z) 62 _ _ (by rfl) (g := w.heap.size + 2) (cur := zeroRt) (X := U) (by rfl) (by rfl) (ST hUs) Ka (by rw [hUs]; rfl) U1.out ?_
            intro wb h1 h2 h3
            have BB := hid (BV.out.trans (h3 w.heap.size (by omega)))
            clear h2 h3 Ka LU
            repeat' (first | go_skip | go_guarded | go_step | go_upon)
            (try simp only [Exit.inBlock, Exit.then])
            exact result_box2 (A := U) (fn := Try.f21) (t := 62) (b := w.heap.size + 2) rfl rfl ag62 (ST hUs) h1 rfl (by rw [HPO.out, R.out]; exact ⟨setC x c, by rw [UV.out]; rfl, Like.refl _, (by have t := YI.out _ BB.out; exact { t with }), BB.out⟩)
          · have n2 : (0 : Int) ≤ c.setPref := by omega
            have eqT2 := hid (show (c.setPref = -1) = False from eq_false (by omega))
            have c2 : v10z.cell? ⟨w.heap.size + 1, 8, none⟩ = some (.int .i64 x.pref) := box_at Kv10z (by rw [hY'.out]; rfl)
            have q2 := frz Kv10z 8
            obtain ⟨v210z, hv210z⟩ : ∃ u, v10z.setCell ⟨w.heap.size + 1, 8, none⟩ (.int .i64 c.setPref) = u := ⟨_, rfl⟩
            have Kv210z := Go.heap_setCell_same v10z (w.heap.size + 1) 8 _ _ (.int .i64 c.setPref) Kv10z
            rw [hv210z] at Kv210z
            have eqv210z := hid (show ∀ k, k ≠ w.heap.size + 1 → v210z.heap[k]? = wz.heap[k]? from fun k hk => by rw [← hv210z, Go.heap_setCell_other _ _ _ _ (by first | exact hk | exact Ne.symm hk)] <;> exact eqv10z.out k hk)
            have Bv210z := hid (show Below w.heap.size w v210z by rw [← hv210z]; exact Bv10z.out.setCell (by show w.heap.size ≤ w.heap.size + 1; omega) _)
            have UV := hid (show (((Y).setIfInBounds 5 (.int .i64 c.setMetric)).setIfInBounds 7 (.int .i64 c.setTag)).setIfInBounds 8 (.int .i64 c.setPref) = (eRte (setC x c)).toArray by rw [hY'.out]; unfold setC repI; simp only [eqT0.out, eqT1.out, eqT2.out, if_true, if_false, ite_true, ite_false] <;> rfl)
            obtain ⟨U, hU⟩ : ∃ U, U = (((Y).setIfInBounds 5 (.int .i64 c.setMetric)).setIfInBounds 7 (.int .i64 c.setTag)).setIfInBounds 8 (.int .i64 c.setPref) := ⟨_, rfl⟩
            rw [← hU] at UV Kv210z
            have hUs : U.size = 14 := by rw [UV.out]; rfl
            have U1 := hid (show U.all (·.oneCell') = true by rw [UV.out]; have t := YI.out w (Below.refl _ _); exact eRte_one (w := w) (x := setC x c) { t with })
            have LU : Sem.run PP (loadCellsFrom ⟨w.heap.size + 1, 0, none⟩ 0 zRoute #[]) v210z = .ok U v210z := ld_box PP Kv210z (by rw [ZT.out]; exact hUs)
            have Ka : v210z.heap[w.heap.size + 2]? = some (.cells zeroRt 62 (0, 0)) := by rw [eqv210z.out _ (by omega)]; exact K3 wz HB.out
            have BV := hid (show Below w.heap.size w v210z from Bv210z.out)
            clear K3 EC KC hU
            repeat' ((fail_if_success (with_reducible show Hid _)); (first | ((with_reducible show Oper.wp _ ⟨_, .store 62 _ _, _, _, _, _⟩ _ _ _ _); refine stopP ?_) | go_skip | go_guarded | go_step | go_upon))
            refine hid ?_
            refine wp_store_box (w := v210z) 62 _ _ (by rfl) (g := w.heap.size + 2) (cur := zeroRt) (X := U) (by rfl) (by rfl) (ST hUs) Ka (by rw [hUs]; rfl) U1.out ?_
            intro wb h1 h2 h3
            have BB := hid (BV.out.trans (h3 w.heap.size (by omega)))
            clear h2 h3 Ka LU
            repeat' (first | go_skip | go_guarded | go_step | go_upon)
            (try simp only [Exit.inBlock, Exit.then])
            exact result_box2 (A := U) (fn := Try.f21) (t := 62) (b := w.heap.size + 2) rfl rfl ag62 (ST hUs) h1 rfl (by rw [HPO.out, R.out]; exact ⟨setC x c, by rw [UV.out]; rfl, Like.refl _, (by have t := YI.out _ BB.out; exact { t with }), BB.out⟩)
    · have BF : Below w3.heap.size w3 (RL w') := by assumption
      have KC := t3.out
      obtain ⟨wz, hz⟩ : ∃ v, v = RL w' := ⟨_, rfl⟩
      rw [← hz] at BF KC ⊢
      have g1 : w.heap.size + 1 ≠ wc.heap.size := by have := s3.out; have := gcB.out; have := b'.size; omega
      have KY0 := BY wz BF
      have HB := hid BF
      clear hz rB rK LR LB LK hM hrow LX LC FE BY
      have EC : ∀ v : World, (∀ k, k ≠ w.heap.size + 1 → v.heap[k]? = wz.heap[k]?) → v.heap[wc.heap.size]? = some (.cells (eCla c).toArray 80 (0, 0)) := fun v h => by rw [h _ (Ne.symm g1)]; exact KC
      have e0 : wz.cell? ⟨wc.heap.size, 0, none⟩ = some (.bool c.permit) := box_at KC rfl
      obtain ⟨c0, hc0⟩ : ∃ q, q = c.permit := ⟨_, rfl⟩
      rw [← hc0] at e0 R
      cases c0
      case false =>
        clear hc0
        have Ka := K3 wz BF
        clear K3 LY EC KC
        repeat' ((fail_if_success (with_reducible show Hid _)); (first | ((with_reducible show Oper.wp _ ⟨_, .store 62 _ _, _, _, _, _⟩ _ _ _ _); refine stopP ?_) | go_skip | go_guarded | go_step | go_upon))
        refine hid ?_
        refine wp_store_box (w := wz) 62 _ _ (by rfl) (g := w.heap.size + 2) (cur := zeroRt) (X := zeroRt) (by rfl) (by rfl) (ST rfl) Ka rfl (eRte_one (zeroRte_in w)) ?_
        intro wb h1 h2 h3
        have BB := hid ((then_ HW3.out HB.out).trans (h3 w.heap.size (by omega)))
        clear h2 h3 Ka
        repeat' (first | go_skip | go_guarded | go_step | go_upon)
        (try simp only [Exit.inBlock, Exit.then])
        exact result_box2 (A := zeroRt) (fn := Try.f21) (t := 62) (b := w.heap.size + 2) rfl rfl ag62 (ST rfl) h1 rfl (by rw [HPO.out, R.out]; exact ⟨zeroRte, rfl, Like.refl _, zeroRte_in _, BB.out⟩)
      clear hc0 LY
      have eqwz := hid (show ∀ k, k ≠ w.heap.size + 1 → wz.heap[k]? = wz.heap[k]? from fun _ _ => rfl)
      have Bwz := hid (show Below w.heap.size w wz from then_ HW3.out HB.out)
      have f0 : wz.cell? ⟨wc.heap.size, 3, none⟩ = some (.int .i64 c.setMetric) := box_at (EC wz eqwz.out) rfl
      by_cases h0 : c.setMetric < 0
      · have eqT0 := hid (show (c.setMetric = -1) = True from eq_true (by have := OK.out; unfold claOk wi at this; simp at this; omega))
        have f1 : wz.cell? ⟨wc.heap.size, 4, none⟩ = some (.int .i64 c.setTag) := box_at (EC wz eqwz.out) rfl
        by_cases h1 : c.setTag < 0
        · have eqT1 := hid (show (c.setTag = -1) = True from eq_true (by have := OK.out; unfold claOk wi at this; simp at this; omega))
          have f2 : wz.cell? ⟨wc.heap.size, 5, none⟩ = some (.int .i64 c.setPref) := box_at (EC wz eqwz.out) rfl
          by_cases h2 : c.setPref < 0
          · have eqT2 := hid (show (c.setPref = -1) = True from eq_true (by have := OK.out; unfold claOk wi at this; simp at this; omega))
            have UV := hid (show Y = (eRte (setC x c)).toArray by rw [hY'.out]; unfold setC repI; simp only [eqT0.out, eqT1.out, eqT2.out, if_true, if_false, ite_true, ite_false] <;> rfl)
            obtain ⟨U, hU⟩ : ∃ U, U = Y := ⟨_, rfl⟩
            rw [← hU] at UV KY0
            have hUs : U.size = 14 := by rw [UV.out]; rfl
            have U1 := hid (show U.all (·.oneCell') = true by rw [UV.out]; have t := YI.out w (Below.refl _ _); exact eRte_one (w := w) (x := setC x c) { t with })
            have LU : Sem.run PP (loadCellsFrom ⟨w.heap.size + 1, 0, none⟩ 0 zRoute #[]) wz = .ok U wz := ld_box PP KY0 (by rw [ZT.out]; exact hUs)
            have Ka : wz.heap[w.heap.size + 2]? = some (.cells zeroRt 62 (0, 0)) := by rw [eqwz.out _ (by omega)]; exact K3 wz HB.out
            have BV := hid (show Below w.heap.size w wz from Bwz.out)
            clear K3 EC KC hU
            repeat' ((fail_if_success (with_reducible show Hid _)); (first | ((with_reducible show Oper.wp _ ⟨_, .store 62 _ _, _, _, _, _⟩ _ _ _ _); refine stopP ?_) | go_skip | go_guarded | go_step | go_upon))
            refine hid ?_
            refine wp_store_box (w := wz) 62 _ _ (by rfl) (g := w.heap.size + 2) (cur := zeroRt) (X := U) (by rfl) (by rfl) (ST hUs) Ka (by rw [hUs]; rfl) U1.out ?_
            intro wb h1 h2 h3
            have BB := hid (BV.out.trans (h3 w.heap.size (by omega)))
            clear h2 h3 Ka LU
            repeat' (first | go_skip | go_guarded | go_step | go_upon)
            (try simp only [Exit.inBlock, Exit.then])
            exact result_box2 (A := U) (fn := Try.f21) (t := 62) (b := w.heap.size + 2) rfl rfl ag62 (ST hUs) h1 rfl (by rw [HPO.out, R.out]; exact ⟨setC x c, by rw [UV.out]; rfl, Like.refl _, (by have t := YI.out _ BB.out; exact { t with }), BB.out⟩)
          · have n2 : (0 : Int) ≤ c.setPref := by omega
            have eqT2 := hid (show (c.setPref = -1) = False from eq_false (by omega))
            have c2 : wz.cell? ⟨w.heap.size + 1, 8, none⟩ = some (.int .i64 x.pref) := box_at KY0 (by rw [hY'.out]; rfl)
            have q2 := frz KY0 8
            obtain ⟨v2z, hv2z⟩ : ∃ u, wz.setCell ⟨w.heap.size + 1, 8, none⟩ (.int .i64 c.setPref) = u := ⟨_, rfl⟩
            have Kv2z := Go.heap_setCell_same wz (w.heap.size + 1) 8 _ _ (.int .i64 c.setPref) KY0
            rw [hv2z] at Kv2z
            have eqv2z := hid (show ∀ k, k ≠ w.heap.size + 1 → v2z.heap[k]? = wz.heap[k]? from fun k hk => by rw [← hv2z, Go.heap_setCell_other _ _ _ _ (by first | exact hk | exact Ne.symm hk)] <;> exact eqwz.out k hk)
            have Bv2z := hid (show Below w.heap.size w v2z by rw [← hv2z]; exact Bwz.out.setCell (by show w.heap.size ≤ w.heap.size + 1; omega) _)
            have UV := hid (show (Y).setIfInBounds 8 (.int .i64 c.setPref) = (eRte (setC x c)).toArray by rw [hY'.out]; unfold setC repI; simp only [eqT0.out, eqT1.out, eqT2.out, if_true, if_false, ite_true, ite_false] <;> rfl)
            obtain ⟨U, hU⟩ : ∃ U, U = (Y).setIfInBounds 8 (.int .i64 c.setPref) := ⟨_, rfl⟩
            rw [← hU] at UV Kv2z
            have hUs : U.size = 14 := by rw [UV.out]; rfl
            have U1 := hid (show U.all (·.oneCell') = true by rw [UV.out]; have t := YI.out w (Below.refl _ _); exact eRte_one (w := w) (x := setC x c) { t with })
            have LU : Sem.run PP (loadCellsFrom ⟨w.heap.size + 1, 0, none⟩ 0 zRoute #[]) v2z = .ok U v2z := ld_box PP Kv2z (by rw [ZT.out]; exact hUs)
            have Ka : v2z.heap[w.heap.size + 2]? = some (.cells zeroRt 62 (0, 0)) := by rw [eqv2z.out _ (by omega)]; exact K3 wz HB.out
            have BV := hid (show Below w.heap.size w v2z from Bv2z.out)
            clear K3 EC KC hU
            repeat' ((fail_if_success (with_reducible show Hid _)); (first | ((with_reducible show Oper.wp _ ⟨_, .store 62 _ _, _, _, _, _⟩ _ _ _ _); refine stopP ?_) | go_skip | go_guarded | go_step | go_upon))
            refine hid ?_
            refine wp_store_box (w := v2z) 62 _ _ (by rfl) (g := w.heap.size + 2) (cur := zeroRt) (X := U) (by rfl) (by rfl) (ST hUs) Ka (by rw [hUs]; rfl) U1.out ?_
            intro wb h1 h2 h3
            have BB := hid (BV.out.trans (h3 w.heap.size (by omega)))
            clear h2 h3 Ka LU
            repeat' (first | go_skip | go_guarded | go_step | go_upon)
            (try simp only [Exit.inBlock, Exit.then])
            exact result_box2 (A := U) (fn := Try.f21) (t := 62) (b := w.heap.size + 2) rfl rfl ag62 (ST hUs) h1 rfl (by rw [HPO.out, R.out]; exact ⟨setC x c, by rw [UV.out]; rfl, Like.refl _, (by have t := YI.out _ BB.out; exact { t with }), BB.out⟩)
        · have n1 : (0 : Int) ≤ c.setTag := by omega
          have eqT1 := hid (show (c.setTag = -1) = False from eq_false (by omega))
          have c1 : wz.cell? ⟨w.heap.size + 1, 7, none⟩ = some (.int .i64 x.tag) := box_at KY0 (by rw [hY'.out]; rfl)
          have q1 := frz KY0 7
          obtain ⟨v1z, hv1z⟩ : ∃ u, wz.setCell ⟨w.heap.size + 1, 7, none⟩ (.int .i64 c.setTag) = u := ⟨_, rfl⟩
          have Kv1z := Go.heap_setCell_same wz (w.heap.size + 1) 7 _ _ (.int .i64 c.setTag) KY0
          rw [hv1z] at Kv1z
          have eqv1z := hid (show ∀ k, k ≠ w.heap.size + 1 → v1z.heap[k]? = wz.heap[k]? from fun k hk => by rw [← hv1z, Go.heap_setCell_other _ _ _ _ (by first | exact hk | exact Ne.symm hk)] <;> exact eqwz.out k hk)
          have Bv1z := hid (show Below w.heap.size w v1z by rw [← hv1z]; exact Bwz.out.setCell (by show w.heap.size ≤ w.heap.size + 1; omega) _)
          have f2 : v1z.cell? ⟨wc.heap.size, 5, none⟩ = some (.int .i64 c.setPref) := box_at (EC v1z eqv1z.out) rfl
          by_cases h2 : c.setPref < 0
          · have eqT2 := hid (show (c.setPref = -1) = True from eq_true (by have := OK.out; unfold claOk wi at this; simp at this; omega))
            have UV := hid (show (Y).setIfInBounds 7 (.int .i64 c.setTag) = (eRte (setC x c)).toArray by rw [hY'.out]; unfold setC repI; simp only [eqT0.out, eqT1.out, eqT2.out, if_true, if_false, ite_true, ite_false] <;> rfl)
            obtain ⟨U, hU⟩ : ∃ U, U = (Y).setIfInBounds 7 (.int .i64 c.setTag) := ⟨_, rfl⟩
            rw [← hU] at UV Kv1z
            have hUs : U.size = 14 := by rw [UV.out]; rfl
            have U1 := hid (show U.all (·.oneCell') = true by rw [UV.out]; have t := YI.out w (Below.refl _ _); exact eRte_one (w := w) (x := setC x c) { t with })
            have LU : Sem.run PP (loadCellsFrom ⟨w.heap.size + 1, 0, none⟩ 0 zRoute #[]) v1z = .ok U v1z := ld_box PP Kv1z (by rw [ZT.out]; exact hUs)
            have Ka : v1z.heap[w.heap.size + 2]? = some (.cells zeroRt 62 (0, 0)) := by rw [eqv1z.out _ (by omega)]; exact K3 wz HB.out
            have BV := hid (show Below w.heap.size w v1z from Bv1z.out)
            clear K3 EC KC hU
            repeat' ((fail_if_success (with_reducible show Hid _)); (first | ((with_reducible show Oper.wp _ ⟨_, .store 62 _ _, _, _, _, _⟩ _ _ _ _); refine stopP ?_) | go_skip | go_guarded | go_step | go_upon))
            refine hid ?_
            refine wp_store_box (w := v1z) 62 _ _ (by rfl) (g := w.heap.size + 2) (cur := zeroRt) (X := U) (by rfl) (by rfl) (ST hUs) Ka (by rw [hUs]; rfl) U1.out ?_
            intro wb h1 h2 h3
            have BB := hid (BV.out.trans (h3 w.heap.size (by omega)))
            clear h2 h3 Ka LU
            repeat' (first | go_skip | go_guarded | go_step | go_upon)
            (try simp only [Exit.inBlock, Exit.then])
            exact result_box2 (A := U) (fn := Try.f21) (t := 62) (b := w.heap.size + 2) rfl rfl ag62 (ST hUs) h1 rfl (by rw [HPO.out, R.out]; exact ⟨setC x c, by rw [UV.out]; rfl, Like.refl _, (by have t := YI.out _ BB.out; exact { t with }), BB.out⟩)
          · have n2 : (0 : Int) ≤ c.setPref := by omega
            have eqT2 := hid (show (c.setPref = -1) = False from eq_false (by omega))
            have c2 : v1z.cell? ⟨w.heap.size + 1, 8, none⟩ = some (.int .i64 x.pref) := box_at Kv1z (by rw [hY'.out]; rfl)
            have q2 := frz Kv1z 8
            obtain ⟨v21z, hv21z⟩ : ∃ u, v1z.setCell ⟨w.heap.size + 1, 8, none⟩ (.int .i64 c.setPref) = u := ⟨_, rfl⟩
            have Kv21z := Go.heap_setCell_same v1z (w.heap.size + 1) 8 _ _ (.int .i64 c.setPref) Kv1z
            rw [hv21z] at Kv21z
            have eqv21z := hid (show ∀ k, k ≠ w.heap.size + 1 → v21z.heap[k]? = wz.heap[k]? from fun k hk => by rw [← hv21z, Go.heap_setCell_other _ _ _ _ (by first | exact hk | exact Ne.symm hk)] <;> exact eqv1z.out k hk)
            have Bv21z := hid (show Below w.heap.size w v21z by rw [← hv21z]; exact Bv1z.out.setCell (by show w.heap.size ≤ w.heap.size + 1; omega) _)
            have UV := hid (show ((Y).setIfInBounds 7 (.int .i64 c.setTag)).setIfInBounds 8 (.int .i64 c.setPref) = (eRte (setC x c)).toArray by rw [hY'.out]; unfold setC repI; simp only [eqT0.out, eqT1.out, eqT2.out, if_true, if_false, ite_true, ite_false] <;> rfl)
            obtain ⟨U, hU⟩ : ∃ U, U = ((Y).setIfInBounds 7 (.int .i64 c.setTag)).setIfInBounds 8 (.int .i64 c.setPref) := ⟨_, rfl⟩
            rw [← hU] at UV Kv21z
            have hUs : U.size = 14 := by rw [UV.out]; rfl
            have U1 := hid (show U.all (·.oneCell') = true by rw [UV.out]; have t := YI.out w (Below.refl _ _); exact eRte_one (w := w) (x := setC x c) { t with })
            have LU : Sem.run PP (loadCellsFrom ⟨w.heap.size + 1, 0, none⟩ 0 zRoute #[]) v21z = .ok U v21z := ld_box PP Kv21z (by rw [ZT.out]; exact hUs)
            have Ka : v21z.heap[w.heap.size + 2]? = some (.cells zeroRt 62 (0, 0)) := by rw [eqv21z.out _ (by omega)]; exact K3 wz HB.out
            have BV := hid (show Below w.heap.size w v21z from Bv21z.out)
            clear K3 EC KC hU
            repeat' ((fail_if_success (with_reducible show Hid _)); (first | ((with_reducible show Oper.wp _ ⟨_, .store 62 _ _, _, _, _, _⟩ _ _ _ _); refine stopP ?_) | go_skip | go_guarded | go_step | go_upon))
            refine hid ?_
            refine wp_store_box (w := v21z) 62 _ _ (by rfl) (g := w.heap.size + 2) (cur := zeroRt) (X := U) (by rfl) (by rfl) (ST hUs) Ka (by rw [hUs]; rfl) U1.out ?_
            intro wb h1 h2 h3
            have BB := hid (BV.out.trans (h3 w.heap.size (by omega)))
            clear h2 h3 Ka LU
            repeat' (first | go_skip | go_guarded | go_step | go_upon)
            (try simp only [Exit.inBlock, Exit.then])
            exact result_box2 (A := U) (fn := Try.f21) (t := 62) (b := w.heap.size + 2) rfl rfl ag62 (ST hUs) h1 rfl (by rw [HPO.out, R.out]; exact ⟨setC x c, by rw [UV.out]; rfl, Like.refl _, (by have t := YI.out _ BB.out; exact { t with }), BB.out⟩)
      · have n0 : (0 : Int) ≤ c.setMetric := by omega
        have eqT0 := hid (show (c.setMetric = -1) = False from eq_false (by omega))
        have c0 : wz.cell? ⟨w.heap.size + 1, 5, none⟩ = some (.int .i64 x.metric) := box_at KY0 (by rw [hY'.out]; rfl)
        have q0 := frz KY0 5
        obtain ⟨v0z, hv0z⟩ : ∃ u, wz.setCell ⟨w.heap.size + 1, 5, none⟩ (.int .i64 c.setMetric) = u := ⟨_, rfl⟩
        have Kv0z := Go.heap_setCell_same wz (w.heap.size + 1) 5 _ _ (.int .i64 c.setMetric) KY0
        rw [hv0z] at Kv0z
        have eqv0z := hid (show ∀ k, k ≠ w.heap.size + 1 → v0z.heap[k]? = wz.heap[k]? from fun k hk => by rw [← hv0z, Go.heap_setCell_other _ _ _ _ (by first | exact hk | exact Ne.symm hk)] <;> exact eqwz.out k hk)
        have Bv0z := hid (show Below w.heap.size w v0z by rw [← hv0z]; exact Bwz.out.setCell (by show w.heap.size ≤ w.heap.size + 1; omega) _)
        have f1 : v0z.cell? ⟨wc.heap.size, 4, none⟩ = some (.int .i64 c.setTag) := box_at (EC v0z eqv0z.out) rfl
        by_cases h1 : c.setTag < 0
        · have eqT1 := hid (show (c.setTag = -1) = True from eq_true (by have := OK.out; unfold claOk wi at this; simp at this; omega))
          have f2 : v0z.cell? ⟨wc.heap.size, 5, none⟩ = some (.int .i64 c.setPref) := box_at (EC v0z eqv0z.out) rfl
          by_cases h2 : c.setPref < 0
          · have eqT2 := hid (show (c.setPref = -1) = True from eq_true (by have := OK.out; unfold claOk wi at this; simp at this; omega))
            have UV := hid (show (Y).setIfInBounds 5 (.int .i64 c.setMetric) = (eRte (setC x c)).toArray by rw [hY'.out]; unfold setC repI; simp only [eqT0.out, eqT1.out, eqT2.out, if_true, if_false, ite_true, ite_false] <;> rfl)
            obtain ⟨U, hU⟩ : ∃ U, U = (Y).setIfInBounds 5 (.int .i64 c.setMetric) := ⟨_, rfl⟩
            rw [← hU] at UV Kv0z
            have hUs : U.size = 14 := by rw [UV.out]; rfl
            have U1 := hid (show U.all (·.oneCell') = true by rw [UV.out]; have t := YI.out w (Below.refl _ _); exact eRte_one (w := w) (x := setC x c) { t with })
            have LU : Sem.run PP (loadCellsFrom ⟨w.heap.size + 1, 0, none⟩ 0 zRoute #[]) v0z = .ok U v0z := ld_box PP Kv0z (by rw [ZT.out]; exact hUs)
            have Ka : v0z.heap[w.heap.size + 2]? = some (.cells zeroRt 62 (0, 0)) := by rw [eqv0z.out _ (by omega)]; exact K3 wz HB.out
            have BV := hid (show Below w.heap.size w v0z from Bv0z.out)
            clear K3 EC KC hU
            repeat' ((fail_if_success (with_reducible show Hid _)); (first | ((with_reducible show Oper.wp _ ⟨_, .store 62 _ _, _, _, _, _⟩ _ _ _ _); refine stopP ?_) | go_skip | go_guarded | go_step | go_upon))
            refine hid ?_
            refine wp_store_box (w := v0z) 62 _ _ (by rfl) (g := w.heap.size + 2) (cur := zeroRt) (X := U) (by rfl) (by rfl) (ST hUs) Ka (by rw [hUs]; rfl) U1.out ?_
            intro wb h1 h2 h3
            have BB := hid (BV.out.trans (h3 w.heap.size (by omega)))
            clear h2 h3 Ka LU
            repeat' (first | go_skip | go_guarded | go_step | go_upon)
            (try simp only [Exit.inBlock, Exit.then])
            exact result_box2 (A := U) (fn := Try.f21) (t := 62) (b := w.heap.size + 2) rfl rfl ag62 (ST hUs) h1 rfl (by rw [HPO.out, R.out]; exact ⟨setC x c, by rw [UV.out]; rfl, Like.refl _, (by have t := YI.out _ BB.out; exact { t with }), BB.out⟩)
          · have n2 : (0 : Int) ≤ c.setPref := by omega
            have eqT2 := hid (show (c.setPref = -1) = False from eq_false (by omega))
            have c2 : v0z.cell? ⟨w.heap.size + 1, 8, none⟩ = some (.int .i64 x.pref) := box_at Kv0z (by rw [hY'.out]; rfl)
            have q2 := frz Kv0z 8
            obtain ⟨v20z, hv20z⟩ : ∃ u, v0z.setCell ⟨w.heap.size + 1, 8, none⟩ (.int .i64 c.setPref) = u := ⟨_, rfl⟩
            have Kv20z := Go.heap_setCell_same v0z (w.heap.size + 1) 8 _ _ (.int .i64 c.setPref) Kv0z
            rw [hv20z] at Kv20z
            have eqv20z := hid (show ∀ k, k ≠ w.heap.size + 1 → v20z.heap[k]? = wz.heap[k]? from fun k hk => by rw [← hv20z, Go.heap_setCell_other _ _ _ _ (by first | exact hk | exact Ne.symm hk)] <;> exact eqv0z.out k hk)
            have Bv20z := hid (show Below w.heap.size w v20z by rw [← hv20z]; exact Bv0z.out.setCell (by show w.heap.size ≤ w.heap.size + 1; omega) _)
            have UV := hid (show ((Y).setIfInBounds 5 (.int .i64 c.setMetric)).setIfInBounds 8 (.int .i64 c.setPref) = (eRte (setC x c)).toArray by rw [hY'.out]; unfold setC repI; simp only [eqT0.out, eqT1.out, eqT2.out, if_true, if_false, ite_true, ite_false] <;> rfl)
            obtain ⟨U, hU⟩ : ∃ U, U = ((Y).setIfInBounds 5 (.int .i64 c.setMetric)).setIfInBounds 8 (.int .i64 c.setPref) := ⟨_, rfl⟩
            rw [← hU] at UV Kv20z
            have hUs : U.size = 14 := by rw [UV.out]; rfl
            have U1 := hid (show U.all (·.oneCell') = true by rw [UV.out]; have t := YI.out w (Below.refl _ _); exact eRte_one (w := w) (x := setC x c) { t with })
            have LU : Sem.run PP (loadCellsFrom ⟨w.heap.size + 1, 0, none⟩ 0 zRoute #[]) v20z = .ok U v20z := ld_box PP Kv20z (by rw [ZT.out]; exact hUs)
            have Ka : v20z.heap[w.heap.size + 2]? = some (.cells zeroRt 62 (0, 0)) := by rw [eqv20z.out _ (by omega)]; exact K3 wz HB.out
            have BV := hid (show Below w.heap.size w v20z from Bv20z.out)
            clear K3 EC KC hU
            repeat' ((fail_if_success (with_reducible show Hid _)); (first | ((with_reducible show Oper.wp _ ⟨_, .store 62 _ _, _, _, _, _⟩ _ _ _ _); refine stopP ?_) | go_skip | go_guarded | go_step | go_upon))
            refine hid ?_
            refine wp_store_box (w := v20z) 62 _ _ (by rfl) (g := w.heap.size + 2) (cur := zeroRt) (X := U) (by rfl) (by rfl) (ST hUs) Ka (by rw [hUs]; rfl) U1.out ?_
            intro wb h1 h2 h3
            have BB := hid (BV.out.trans (h3 w.heap.size (by omega)))
            clear h2 h3 Ka LU
            repeat' (first | go_skip | go_guarded | go_step | go_upon)
            (try simp only [Exit.inBlock, Exit.then])
            exact result_box2 (A := U) (fn := Try.f21) (t := 62) (b := w.heap.size + 2) rfl rfl ag62 (ST hUs) h1 rfl (by rw [HPO.out, R.out]; exact ⟨setC x c, by rw [UV.out]; rfl, Like.refl _, (by have t := YI.out _ BB.out; exact { t with }), BB.out⟩)
        · have n1 : (0 : Int) ≤ c.setTag := by omega
          have eqT1 := hid (show (c.setTag = -1) = False from eq_false (by omega))
          have c1 : v0z.cell? ⟨w.heap.size + 1, 7, none⟩ = some (.int .i64 x.tag) := box_at Kv0z (by rw [hY'.out]; rfl)
          have q1 := frz Kv0z 7
          obtain ⟨v10z, hv10z⟩ : ∃ u, v0z.setCell ⟨w.heap.size + 1, 7, none⟩ (.int .i64 c.setTag) = u := ⟨_, rfl⟩
          have Kv10z := Go.heap_setCell_same v0z (w.heap.size + 1) 7 _ _ (.int .i64 c.setTag) Kv0z
          rw [hv10z] at Kv10z
          have eqv10z := hid (show ∀ k, k ≠ w.heap.size + 1 → v10z.heap[k]? = wz.heap[k]? from fun k hk => by rw [← hv10z, Go.heap_setCell_other _ _ _ _ (by first | exact hk | exact Ne.symm hk)] <;> exact eqv0z.out k hk)
          have Bv10z := hid (show Below w.heap.size w v10z by rw [← hv10z]; exact Bv0z.out.setCell (by show w.heap.size ≤ w.heap.size + 1; omega) _)
          have f2 : v10z.cell? ⟨wc.heap.size, 5, none⟩ = some (.int .i64 c.setPref) := box_at (EC v10z eqv10z.out) rfl
          by_cases h2 : c.setPref < 0
          · have eqT2 := hid (show (c.setPref = -1) = True from eq_true (by have := OK.out; unfold claOk wi at this; simp at this; omega))
            have UV := hid (show ((Y).setIfInBounds 5 (.int .i64 c.setMetric)).setIfInBounds 7 (.int .i64 c.setTag) = (eRte (setC x c)).toArray by rw [hY'.out]; unfold setC repI; simp only [eqT0.out, eqT1.out, eqT2.out, if_true, if_false, ite_true, ite_false] <;> rfl)
            obtain ⟨U, hU⟩ : ∃ U, U = ((Y).setIfInBounds 5 (.int .i64 c.setMetric)).setIfInBounds 7 (.int .i64 c.setTag) := ⟨_, rfl⟩
            rw [← hU] at UV Kv10z
            have hUs : U.size = 14 := by rw [UV.out]; rfl
            have U1 := hid (show U.all (·.oneCell') = true by rw [UV.out]; have t := YI.out w (Below.refl _ _); exact eRte_one (w := w) (x := setC x c) { t with })
            have LU : Sem.run PP (loadCellsFrom ⟨w.heap.size + 1, 0, none⟩ 0 zRoute #[]) v10z = .ok U v10z := ld_box PP Kv10z (by rw [ZT.out]; exact hUs)
            have Ka : v10z.heap[w.heap.size + 2]? = some (.cells zeroRt 62 (0, 0)) := by rw [eqv10z.out _ (by omega)]; exact K3 wz HB.out
            have BV := hid (show Below w.heap.size w v10z from Bv10z.out)
            clear K3 EC KC hU
            repeat' ((fail_if_success (with_reducible show Hid _)); (first | ((with_reducible show Oper.wp _ ⟨_, .store 62 _ _, _, _, _, _⟩ _ _ _ _); refine stopP ?_) | go_skip | go_guarded | go_step | go_upon))
            refine hid ?_
            refine wp_store_box (w := v10z) 62 _ _ (by rfl) (g := w.heap.size + 2) (cur := zeroRt) (X := U) (by rfl) (by rfl) (ST hUs) Ka (by rw [hUs]; rfl) U1.out ?_
            intro wb h1 h2 h3
            have BB := hid (BV.out.trans (h3 w.heap.size (by omega)))
            clear h2 h3 Ka LU
            repeat' (first | go_skip | go_guarded | go_step | go_upon)
            (try simp only [Exit.inBlock, Exit.then])
            exact result_box2 (A := U) (fn := Try.f21) (t := 62) (b := w.heap.size + 2) rfl rfl ag62 (ST hUs) h1 rfl (by rw [HPO.out, R.out]; exact ⟨setC x c, by rw [UV.out]; rfl, Like.refl _, (by have t := YI.out _ BB.out; exact { t with }), BB.out⟩)
          · have n2 : (0 : Int) ≤ c.setPref := by omega
            have eqT2 := hid (show (c.setPref = -1) = False from eq_false (by omega))
            have c2 : v10z.cell? ⟨w.heap.size + 1, 8, none⟩ = some (.int .i64 x.pref) := box_at Kv10z (by rw [hY'.out]; rfl)
            have q2 := frz Kv10z 8
            obtain ⟨v210z, hv210z⟩ : ∃ u, v10z.setCell ⟨w.heap.size + 1, 8, none⟩ (.int .i64 c.setPref) = u := ⟨_, rfl⟩
            have Kv210z := Go.heap_setCell_same v10z (w.heap.size + 1) 8 _ _ (.int .i64 c.setPref) Kv10z
            rw [hv210z] at Kv210z
            have eqv210z := hid (show ∀ k, k ≠ w.heap.size + 1 → v210z.heap[k]? = wz.heap[k]? from fun k hk => by rw [← hv210z, Go.heap_setCell_other _ _ _ _ (by first | exact hk | exact Ne.symm hk)] <;> exact eqv10z.out k hk)
            have Bv210z := hid (show Below w.heap.size w v210z by rw [← hv210z]; exact Bv10z.out.setCell (by show w.heap.size ≤ w.heap.size + 1; omega) _)
            have UV := hid (show (((Y).setIfInBounds 5 (.int .i64 c.setMetric)).setIfInBounds 7 (.int .i64 c.setTag)).setIfInBounds 8 (.int .i64 c.setPref) = (eRte (setC x c)).toArray by rw [hY'.out]; unfold setC repI; simp only [eqT0.out, eqT1.out, eqT2.out, if_true, if_false, ite_true, ite_false] <;> rfl)
            obtain ⟨U, hU⟩ : ∃ U, U = (((Y).setIfInBounds 5 (.int .i64 c.setMetric)).setIfInBounds 7 (.int .i64 c.setTag)).setIfInBounds 8 (.int .i64 c.setPref) := ⟨_, rfl⟩
            rw [← hU] at UV Kv210z
            have hUs : U.size = 14 := by rw [UV.out]; rfl
            have U1 := hid (show U.all (·.oneCell') = true by rw [UV.out]; have t := YI.out w (Below.refl _ _); exact eRte_one (w := w) (x := setC x c) { t with })
            have LU : Sem.run PP (loadCellsFrom ⟨w.heap.size + 1, 0, none⟩ 0 zRoute #[]) v210z = .ok U v210z := ld_box PP Kv210z (by rw [ZT.out]; exact hUs)
            have Ka : v210z.heap[w.heap.size + 2]? = some (.cells zeroRt 62 (0, 0)) := by rw [eqv210z.out _ (by omega)]; exact K3 wz HB.out
            have BV := hid (show Below w.heap.size w v210z from Bv210z.out)
            clear K3 EC KC hU
            repeat' ((fail_if_success (with_reducible show Hid _)); (first | ((with_reducible show Oper.wp _ ⟨_, .store 62 _ _, _, _, _, _⟩ _ _ _ _); refine stopP ?_) | go_skip | go_guarded | go_step | go_upon))
            refine hid ?_
            refine wp_store_box (w := v210z) 62 _ _ (by rfl) (g := w.heap.size + 2) (cur := zeroRt) (X := U) (by rfl) (by rfl) (ST hUs) Ka (by rw [hUs]; rfl) U1.out ?_
            intro wb h1 h2 h3
            have BB := hid (BV.out.trans (h3 w.heap.size (by omega)))
            clear h2 h3 Ka LU
            repeat' (first | go_skip | go_guarded | go_step | go_upon)
            (try simp only [Exit.inBlock, Exit.then])
            exact result_box2 (A := U) (fn := Try.f21) (t := 62) (b := w.heap.size + 2) rfl rfl ag62 (ST hUs) h1 rfl (by rw [HPO.out, R.out]; exact ⟨setC x c, by rw [UV.out]; rfl, Like.refl _, (by have t := YI.out _ BB.out; exact { t with }), BB.out⟩)
end Go.Proofs.Ytlhbfpapmolohaa.Mw

/-
  THE WALK OF THE LAW PolicyApplies.
-/
namespace Go.Proofs.Ytlhbfpapmolohaa.Mw
set_option linter.unusedSimpArgs false
set_option linter.unusedVariables false
open Go.RowKit Kt Mm Mp Am

theorem Like.trans {x y z : Rte} (h : Like x y) (g : Like y z) : Like x z := by
  obtain ⟨a1, a2, a3, a4, a5, a6, a7, a8, a9, a10, a11, a12, a13⟩ := h
  obtain ⟨b1, b2, b3, b4, b5, b6, b7, b8, b9, b10, b11, b12, b13⟩ := g
  exact ⟨a1.trans b1, a2.trans b2, a3.trans b3, a4.trans b4, a5.trans b5, a6.trans b6, a7.trans b7, a8.trans b8, a9.trans b9, a10.trans b10, a11.trans b11, a12.trans b12, a13.trans b13⟩
theorem str0 : (⟨#[]⟩ : ByteArray).toList.isEmpty = true := by rw [Sc.toList_nil _ rfl]; rfl
theorem cls_empty {r : Rtr} (h : rtrE (partR r) = 0) : clsOf r.maps ⟨#[]⟩ = [] := by
  unfold clsOf
  cases hf : r.maps.find? (fun x => x.name.toList == (⟨#[]⟩ : ByteArray).toList) with
  | none => rfl
  | some m =>
    exfalso
    obtain ⟨j, hj⟩ := List.getElem?_of_mem (List.mem_of_find?_eq_some hf)
    have h1 := (few_named h hj).1
    have h2 := List.find?_some hf
    rw [beq_iff_eq] at h2
    rw [h2, Sc.toList_nil _ rfl] at h1
    simp at h1

set_option maxHeartbeats 400000000 in
set_option maxRecDepth 8000 in
theorem walkPolicyApplies (r : Rtr) (s : ByteArray) (x : Rte) (W : World) (hr : RtrIn W r) (hs : s.size ≤ maxLen) (hx : RteIn W x) :
    Calls Try.prog 5 #[.agg (eRtr r).toArray, .string s, .agg (eRte x).toArray] W fun e w' => e = .returned (.bool true) ∧ Below W.heap.size W w' := by
  have hSn := fun wx => plSane wx
  have hV : ∀ wx, Calls Try.prog 9 #[.agg #[.int .u32 (x.pfx.addr : Int), .int .i64 x.pfx.len]] wx fun e w' => e = .returned (.bool (vPf x.pfx)) ∧ Below wx.heap.size wx w' := fun wx => Ad.refValid x.pfx.addr x.pfx.len wx hx.pfxA
  obtain ⟨aP, capP, hvP, hcapP, -⟩ := rows_open (z := 1) (by decide) hx.path.row
  obtain ⟨aH, capH, hvH, hcapH, -⟩ := rows_open (z := 2) (by decide) hx.hops.row
  obtain ⟨X, hX⟩ : ∃ X, X = (eRtr r).toArray := ⟨_, rfl⟩
  obtain ⟨Y, hY⟩ : ∃ Y, Y = (eRte x).toArray := ⟨_, rfl⟩
  obtain ⟨w2, hw2⟩ : ∃ w2, (W.alloc (.cells X 55)).alloc (.cells Y 62) = w2 := ⟨_, rfl⟩
  have hhX : w2.heap[W.heap.size]? = some (.cells X 55 (0, 0)) := by rw [← hw2, Below.heap_alloc _ _ _ (by simp), heap_new]
  have hhY : w2.heap[W.heap.size + 1]? = some (.cells Y 62 (0, 0)) := by rw [← hw2]; have h := heap_new (W.alloc (.cells X 55)) (.cells Y 62 (0, 0)); rwa [new_size] at h
  have KX : ∀ v : World, Below w2.heap.size w2 v → v.heap[W.heap.size]? = some (.cells X 55 (0, 0)) := fun v h => blk_keep hhX h
  have FX4 : ∀ v : World, Below w2.heap.size w2 v → v.cell? ⟨W.heap.size, 4, none⟩ = some (r.vMaps) := fun v h => box_at (blk_keep hhX h) (by rw [hX]; rfl)
  have KY : ∀ v : World, Below w2.heap.size w2 v → v.heap[W.heap.size + 1]? = some (.cells Y 62 (0, 0)) := fun v h => blk_keep hhY h
  have FY0 : ∀ v : World, Below w2.heap.size w2 v → v.cell? ⟨W.heap.size + 1, 0, none⟩ = some (.int .u32 (x.pfx.addr : Int)) := fun v h => box_at (blk_keep hhY h) (by rw [hY]; rfl)
  have FY1 : ∀ v : World, Below w2.heap.size w2 v → v.cell? ⟨W.heap.size + 1, 1, none⟩ = some (.int .i64 x.pfx.len) := fun v h => box_at (blk_keep hhY h) (by rw [hY]; rfl)
  have FY9 : ∀ v : World, Below w2.heap.size w2 v → v.cell? ⟨W.heap.size + 1, 9, none⟩ = some (x.vPath) := fun v h => box_at (blk_keep hhY h) (by rw [hY]; rfl)
  have FY12 : ∀ v : World, Below w2.heap.size w2 v → v.cell? ⟨W.heap.size + 1, 12, none⟩ = some (x.vHops) := fun v h => box_at (blk_keep hhY h) (by rw [hY]; rfl)
  have Gw2 : Below w2.heap.size w2 w2 := Below.refl _ _
  have Hw2 := hid (show Below W.heap.size W w2 by rw [← hw2]; exact al2 _ _ _)
  have hX' := hid hX
  have hY' := hid hY
  try rw [← hX]
  try rw [← hY]
  clear hX hY hhX hhY
  have hXs : X.size = 25 := by rw [hX'.out]; rfl
  have hYs : Y.size = 14 := by rw [hY'.out]; rfl
  have y5 : Y[5]? = some (.int .i64 x.metric) := by rw [hY'.out]; rfl
  have y7 : Y[7]? = some (.int .i64 x.tag) := by rw [hY'.out]; rfl
  have y8 : Y[8]? = some (.int .i64 x.pref) := by rw [hY'.out]; rfl
  have HR0 := hid hr
  have HX0 := hid hx
  have HR := hid (hr.keep Hw2.out)
  have hF := fun wx (h : Below w2.heap.size w2 wx) => fewC r wx (HR.out.keep h)
  have hPa := fun wx (h : Below w2.heap.size w2 wx) => partC r wx (HR.out.keep h)
  rw [← hX'.out] at hF hPa
  obtain ⟨Z, hZ⟩ : ∃ Z, Z = (eRtr (partR r)).toArray := ⟨_, rfl⟩
  have Z1 := hid (show Z.all (·.oneCell') = true by rw [hZ]; exact eRtr_one (part_in HR.out))
  have hZs : Z.size = 25 := by rw [hZ]; rfl
  have z4 : Z[4]? = some r.vMaps := by rw [hZ]; rfl
  rw [← hZ] at hPa
  obtain ⟨vp, hvp⟩ : ∃ q, q = vPf x.pfx := ⟨_, rfl⟩
  rw [← hvp] at hV
  obtain ⟨aM, capM, hvM, hcapM, hcM⟩ := rows_open (z := 2) (by decide) hr.maps.row
  have lenM := hr.maps.len
  obtain ⟨n, hn⟩ : ∃ n, n = r.maps.length := ⟨_, rfl⟩
  rw [← hn] at hvM hcapM hcM lenM
  rw [hvM] at z4 FX4
  rw [hvP] at FY9
  rw [hvH] at FY12
  obtain ⟨np, hnp⟩ : ∃ n, n = x.path.length := ⟨_, rfl⟩
  obtain ⟨nh, hnh⟩ : ∃ n, n = x.hops.length := ⟨_, rfl⟩
  rw [← hnp] at FY9 hcapP
  rw [← hnh] at FY12 hcapH
  have lenP := hx.path.len
  have lenH := hx.hops.len
  rw [← hnp] at lenP
  rw [← hnh] at lenH
  have N := hid hn
  have NP := hid hnp
  have NH := hid hnh
  have HM := hid hcM
  have ZZ := hid hZ
  have MR := hid (fun m (h : m ∈ r.maps) => hr.mapsR m h)
  have hss : (s.size : Int) ≤ 9223372036854775807 := by unfold maxLen at hs; omega
  have hA1 := fun (s : ByteArray) wx (h : RtrIn wx (partR r)) (h2 : RteIn wx x) (g1 : x.path.length ≤ 1000000000) (g2 : x.hops.length ≤ 1000000000) => plApply (partR r) s x wx h h2 g1 g2
  have hA3 := fun (s : ByteArray) wx (h : RtrIn wx (partR r)) (h2 : RteIn wx x) (hc : ∀ c ∈ clsOf (partR r).maps s, claOk c = true) => rfApply (partR r) s x wx h h2 hc
  have hC1 := fun (s : ByteArray) wx (h : RtrIn wx (partR r)) => plClause (partR r) s x wx h HX0.out.pfxA
  have hC3 := fun (s : ByteArray) wx (h : RtrIn wx (partR r)) => rfClause (partR r) s x wx h HX0.out.pfxA
  have hP1 := fun (s : ByteArray) wx (h : RtrIn wx (partR r)) => plPrepend (partR r) s x wx h HX0.out.pfxA
  have hP3 := fun (s : ByteArray) wx (h : RtrIn wx (partR r)) (h2 : RteIn wx x) => rfPrepend (partR r) s x wx h h2
  have hS := fun (a b : Rte) wx (h1 : RteIn wx a) (h2 : RteIn wx b) (h3 : Like a b) => sameC a b wx h1 h2 h3
  rw [← hZ] at hA1 hA3 hC1 hC3 hP1 hP3
  rw [← hY'.out] at hA1 hA3 hC1 hC3 hP1 hP3
  clear hcM hn hvM hZ hr hx hvp hvP hvH hnp hnh
  have hP : PP = Try.prog := rfl
  have HP := hid hP
  have mixed : PP.follows .mixedOrders = true := by rw [hP]; kernel_rfl
  have FG : PP.funcs[5]? = some Try.f5 := by rw [hP]; exact Try.func5
  obtain ⟨zRouter, hzRouter⟩ : ∃ z, z = 25 := ⟨_, rfl⟩
  have nzRouter : ¬ zRouter = 0 := by omega
  obtain ⟨zRouteMap, hzRouteMap⟩ : ∃ z, z = 2 := ⟨_, rfl⟩
  have nzRouteMap : ¬ zRouteMap = 0 := by omega
  obtain ⟨zRoute, hzRoute⟩ : ∃ z, z = 14 := ⟨_, rfl⟩
  have nzRoute : ¬ zRoute = 0 := by omega
  have ty3 := Try.underlying3; have ag3 := Try.isAgg3; have sz3 := Try.sizeOf3; have ru3 := Try.runUnderlying3
  have ty4 := Try.underlying4; have ag4 := Try.isAgg4; have sz4 := Try.sizeOf4; have ru4 := Try.runUnderlying4
  have ty9 := Try.underlying9; have ag9 := Try.isAgg9; have sz9 := Try.sizeOf9; have ru9 := Try.runUnderlying9
  have ty27 := Try.underlying27; have ag27 := Try.isAgg27; have sz27 := Try.sizeOf27; have ru27 := Try.runUnderlying27
  have ty38 := Try.underlying38; have ag38 := Try.isAgg38; have sz38 := Try.sizeOf38; have ru38 := Try.runUnderlying38
  have ty55 := Try.underlying55; have ag55 := Try.isAgg55; have sz55 := Try.sizeOf55; have ru55 := Try.runUnderlying55
  rw [← hzRouter] at sz55
  have ty59 := Try.underlying59; have ag59 := Try.isAgg59; have sz59 := Try.sizeOf59; have ru59 := Try.runUnderlying59
  have ty60 := Try.underlying60; have ag60 := Try.isAgg60; have sz60 := Try.sizeOf60; have ru60 := Try.runUnderlying60
  have ty62 := Try.underlying62; have ag62 := Try.isAgg62; have sz62 := Try.sizeOf62; have ru62 := Try.runUnderlying62
  rw [← hzRoute] at sz62
  have zeRoute := Try.zeroValue62
  have ty65 := Try.underlying65; have ag65 := Try.isAgg65; have sz65 := Try.sizeOf65; have ru65 := Try.runUnderlying65
  rw [← hzRouteMap] at sz65
  have en0 : ∀ args w, (callFunc 24 args).run Try.prog w = .ok (.enter 24 args) w := enters_of Try.func24 (by kernel_rfl) rfl
  have en1 : ∀ args w, (callFunc 16 args).run Try.prog w = .ok (.enter 16 args) w := enters_of Try.func16 (by kernel_rfl) rfl
  have en2 : ∀ args w, (callFunc 17 args).run Try.prog w = .ok (.enter 17 args) w := enters_of Try.func17 (by kernel_rfl) rfl
  have en3 : ∀ args w, (callFunc 15 args).run Try.prog w = .ok (.enter 15 args) w := enters_of Try.func15 (by kernel_rfl) rfl
  have en4 : ∀ args w, (callFunc 9 args).run Try.prog w = .ok (.enter 9 args) w := enters_of Try.func9 (by kernel_rfl) rfl
  have en5 : ∀ args w, (callFunc 21 args).run Try.prog w = .ok (.enter 21 args) w := enters_of Try.func21 (by kernel_rfl) rfl
  have en6 : ∀ args w, (callFunc 23 args).run Try.prog w = .ok (.enter 23 args) w := enters_of Try.func23 (by kernel_rfl) rfl
  have en7 : ∀ args w, (callFunc 26 args).run Try.prog w = .ok (.enter 26 args) w := enters_of Try.func26 (by kernel_rfl) rfl
  have en8 : ∀ args w, (callFunc 20 args).run Try.prog w = .ok (.enter 20 args) w := enters_of Try.func20 (by kernel_rfl) rfl
  have en9 : ∀ args w, (callFunc 22 args).run Try.prog w = .ok (.enter 22 args) w := enters_of Try.func22 (by kernel_rfl) rfl
  have en10 : ∀ args w, (callFunc 25 args).run Try.prog w = .ok (.enter 25 args) w := enters_of Try.func25 (by kernel_rfl) rfl
  rw [← hP] at ty3 ag3 sz3 ru3 ty4 ag4 sz4 ru4 ty9 ag9 sz9 ru9 ty27 ag27 sz27 ru27 ty38 ag38 sz38 ru38 ty55 ag55 sz55 ru55 ty59 ag59 sz59 ru59 ty60 ag60 sz60 ru60 ty62 ag62 sz62 ru62 zeRoute ty65 ag65 sz65 ru65 en0 en1 en2 en3 en4 en5 en6 en7 en8 en9 en10 hSn hV hF hPa hA1 hA3 hC1 hC3 hP1 hP3 hS ⊢
  clear hP
  have KX2 := KX
  have KY2 := KY
  have LX : ∀ v : World, Below w2.heap.size w2 v → Sem.run PP (loadCellsFrom ⟨W.heap.size, 0, none⟩ 0 zRouter #[]) v = .ok X v := fun v h => ld_box PP (KX v h) (by rw [hzRouter]; exact hXs)
  have LY : ∀ v : World, Below w2.heap.size w2 v → Sem.run PP (loadCellsFrom ⟨W.heap.size + 1, 0, none⟩ 0 zRoute #[]) v = .ok Y v := fun v h => ld_box PP (KY v h) (by rw [hzRoute]; exact hYs)
  have ZR := hid hzRouter
  have ZM := hid hzRouteMap
  have ZT := hid hzRoute
  have SZ : ∀ v, (sizeOf 55).run PP v = .ok Z.size v := fun v => by rw [hZs, ← ZR.out]; exact sz55 v
  have ST : ∀ {A : Array Value}, A.size = 14 → ∀ v, (sizeOf 62).run PP v = .ok A.size v := fun h v => by rw [h, ← ZT.out]; exact sz62 v
  have zU : ∀ v, (sizeOf 25).run PP v = .ok 1 v := fun v => by rw [HP.out]; exact Try.sizeOf25 v
  clear hzRouter hzRouteMap hzRoute KX KY
  go_enter FG, Try.ntmps5
  repeat' ((fail_if_success (with_reducible show Hid _)); (first | (go_at_call 16; with_reducible refine (hF _ (by assumption)).mono ?_; rintro e wf ⟨⟨fb, rfl, hfb⟩, bf⟩; refine stopP ?_) | go_skip | go_big_skip | go_big_want | go_big_guard | go_step | go_upon))
  refine hid ?_
  dsimp only
  have bf2 := bf
  have HFB := hid hfb
  clear hfb hF
  cases fb
  case false =>
    repeat' (first | go_skip | go_big_skip | go_big_want | go_big_guard | go_step | go_upon)
    go_ret
    exact ⟨rfl, then_ Hw2.out bf⟩
  by_cases h40 : 40 < s.size
  · have h40i : (40 : Int) < (s.size : Int) := by omega
    repeat' (first | go_skip | go_big_skip | go_big_want | go_big_guard | go_step | go_upon)
    go_ret
    exact ⟨rfl, then_ Hw2.out bf⟩
  have h40i : ¬ (40 : Int) < (s.size : Int) := by omega
  cases vp
  case false =>
    repeat' (first | (go_at_call 9; with_reducible refine (hV _).mono ?_; rintro e w' ⟨rfl, b⟩; have b' := then_ (w := w2) (by assumption) b; clear b; try dsimp only) | go_skip | go_big_skip | go_big_want | go_big_guard | go_step | go_upon)
    go_ret
    exact ⟨rfl, then_ Hw2.out (by assumption)⟩
  by_cases hp40 : 40 < np
  · have hp40i : (40 : Int) < (np : Int) := by omega
    repeat' (first | (go_at_call 9; with_reducible refine (hV _).mono ?_; rintro e w' ⟨rfl, b⟩; have b' := then_ (w := w2) (by assumption) b; clear b; try dsimp only) | go_skip | go_big_skip | go_big_want | go_big_guard | go_step | go_upon)
    go_ret
    exact ⟨rfl, then_ Hw2.out (by assumption)⟩
  have hp40i : ¬ (40 : Int) < (np : Int) := by omega
  by_cases hh40 : 40 < nh
  · have hh40i : (40 : Int) < (nh : Int) := by omega
    repeat' (first | (go_at_call 9; with_reducible refine (hV _).mono ?_; rintro e w' ⟨rfl, b⟩; have b' := then_ (w := w2) (by assumption) b; clear b; try dsimp only) | go_skip | go_big_skip | go_big_want | go_big_guard | go_step | go_upon)
    go_ret
    exact ⟨rfl, then_ Hw2.out (by assumption)⟩
  have hh40i : ¬ (40 : Int) < (nh : Int) := by omega
  repeat' ((fail_if_success (with_reducible show Hid _)); (first | (go_at_call 9; with_reducible refine (hV _).mono ?_; rintro e w' ⟨rfl, b⟩; have b' := then_ (w := w2) (by assumption) b; clear b; try dsimp only) | (go_at_call 17; with_reducible refine (hPa _ (by assumption)).mono ?_; rintro e wp ⟨rfl, bp⟩; refine stopP ?_) | go_skip | go_big_skip | go_big_want | go_big_guard | go_step | go_upon))
  refine hid ?_
  dsimp only
  have bp2 : Below w2.heap.size w2 wp := then_ (by assumption) bp
  have Kp := KX2 wp bp2
  clear hPa hV KX2 LX FX4
  repeat' ((fail_if_success (with_reducible show Hid _)); (first | ((with_reducible show Oper.wp _ ⟨_, .store 55 _ _, _, _, _, _⟩ _ _ _ _); refine stopP ?_) | go_skip | go_guarded | go_step | go_upon))
  refine hid ?_
  refine wp_store_box (w := wp) 55 _ _ (by rfl) (g := W.heap.size) (cur := X) (X := Z) (by rfl) (by rfl) SZ Kp (by rw [hXs, hZs]) Z1.out ?_
  intro w4 h1 h2 h3
  have HW := hid ((then_ Hw2.out bp2).trans (h3 W.heap.size (Nat.le_refl _)))
  have s2 : w2.heap.size = W.heap.size + 2 := by rw [← hw2, new_size, new_size]
  have s4 := hid (show w2.heap.size ≤ w4.heap.size from Nat.le_trans bp2.size (h3 W.heap.size (Nat.le_refl _)).size)
  have G4 : Below w4.heap.size w4 w4 := Below.refl _ _
  have LZ : ∀ v : World, Below w4.heap.size w4 v → Sem.run PP (loadCellsFrom ⟨W.heap.size, 0, none⟩ 0 zRouter #[]) v = .ok Z v := fun v h => ld_box PP (blk_keep h1 h) (by rw [ZR.out]; exact hZs)
  have FZ4 : ∀ v : World, Below w4.heap.size w4 v → v.cell? ⟨W.heap.size, 4, none⟩ = some (.slice aM n capM) := fun v h => box_at (blk_keep h1 h) z4
  have KY4 := hid (show w4.heap[W.heap.size + 1]? = some (.cells Y 62 (0, 0)) by rw [h2 _ (by omega)]; exact KY2 wp bp2)
  have LY4 : ∀ v : World, Below w4.heap.size w4 v → Sem.run PP (loadCellsFrom ⟨W.heap.size + 1, 0, none⟩ 0 zRoute #[]) v = .ok Y v := fun v h => ld_box PP (blk_keep KY4.out h) (by rw [ZT.out]; exact hYs)
  have RI := hid (fun wx (h : Below w4.heap.size w4 wx) => part_in (HR0.out.keep (then_ HW.out h)))
  have XI := hid (fun wx (h : Below w4.heap.size w4 wx) => HX0.out.keep (then_ HW.out h))
  clear h1 h2 h3 Kp FY0 FY1 FY9 FY12 bf bp bp2 bf2 LY KY2 hXs hZs SZ z4
  dsimp only [Act.put]
  have FB := hid (HFB.out rfl)
  have CLA := hid (fun t => few_cla FB.out t)
  have pl : x.path.length ≤ 1000000000 := by have := NP.out; omega
  have hl : x.hops.length ≤ 1000000000 := by have := NH.out; omega
  have cA : ∀ (t : ByteArray) wx, Below w4.heap.size w4 wx → Calls PP 20 #[.agg Z, .string t, .agg Y] wx (AppPost (appO r.lists r.maps t x) wx) := fun t wx h => hA1 t wx (RI.out wx h) (XI.out wx h) pl hl
  have cR : ∀ (t : ByteArray) wx, Below w4.heap.size w4 wx → Calls PP 21 #[.agg Z, .string t, .agg Y] wx (AppPost (appO r.lists r.maps t x) wx) := fun t wx h => hA3 t wx (RI.out wx h) (XI.out wx h) (CLA.out t)
  have cC : ∀ (t : ByteArray) wx, Below w4.heap.size w4 wx → Calls PP 22 #[.agg Z, .string t, .agg Y] wx fun e w' => e = .returned (.int .i64 (clI r.lists r.maps t x.pfx x.tag)) ∧ Below wx.heap.size wx w' := fun t wx h => hC1 t wx (RI.out wx h)
  have cD : ∀ (t : ByteArray) wx, Below w4.heap.size w4 wx → Calls PP 23 #[.agg Z, .string t, .agg Y] wx fun e w' => e = .returned (.int .i64 (clI r.lists r.maps t x.pfx x.tag)) ∧ Below wx.heap.size wx w' := fun t wx h => hC3 t wx (RI.out wx h)
  have cP : ∀ (t : ByteArray) wx, Below w4.heap.size w4 wx → Calls PP 25 #[.agg Z, .string t, .agg Y] wx fun e w' => e = .returned (.int .i64 (prepI r.lists r.maps t x.pfx x.tag)) ∧ Below wx.heap.size wx w' := fun t wx h => hP1 t wx (RI.out wx h)
  have cQ : ∀ (t : ByteArray) wx, Below w4.heap.size w4 wx → Calls PP 26 #[.agg Z, .string t, .agg Y] wx fun e w' => e = .returned (.int .i64 (prepI r.lists r.maps t x.pfx x.tag)) ∧ Below wx.heap.size wx w' := fun t wx h => hP3 t wx (RI.out wx h) (XI.out wx h)
  clear hA1 hA3 hC1 hC3 hP1 hP3 pl hl h40 h40i hp40 hp40i hh40 hh40i
  repeat' (first | go_skip | go_guarded | go_step | go_upon)
  go_loopg [7] (n + 1) (fun gg s7 wr => ∃ k : Nat, k ≤ n + 1 ∧ n + 1 - k ≤ gg ∧ s7 = .int .i64 ((k : Int) - 1) ∧ Below w4.heap.size w4 wr)
  case atStart => exact ⟨0, Nat.zero_le _, by omega, rfl, by assumption⟩
  case round =>
    obtain ⟨k, hk, hg, rfl, hwr⟩ := hrel
    have f4 := FZ4 wr hwr
    cases k with
    | zero =>
      rw [show ((0 : Nat) : Int) - 1 = -1 from rfl]
      have hn1 : (-1 : Int) < (n : Int) := by omega
      repeat' ((fail_if_success (with_reducible show Hid _)); (first | (go_at_call 20; refine (cA s _ (by assumption)).mono ?_; rintro e wa ⟨y, rfl, ly, iy, ba⟩; refine stopP ?_) | go_skip | go_guarded | go_step | go_upon))
      refine hid ?_
      dsimp only
      obtain ⟨V, hV⟩ : ∃ V, V = (eRte y).toArray := ⟨_, rfl⟩
      have hVs : V.size = 14 := by rw [hV]; rfl
      have V1 := hid (show V.all (·.oneCell') = true by rw [hV]; exact eRte_one iy)
      rw [← hV]
      have IY := hid iy
      have L1 := hid ly
      have BA := hid (show Below w4.heap.size w4 wa from then_ (by assumption) ba)
      have HV := hid hV
      clear hV ly iy
      repeat' ((fail_if_success (with_reducible show Hid _)); (first | ((with_reducible show Oper.wp _ ⟨_, .store 62 _ _, _, _, _, _⟩ _ _ _ _); refine stopP ?_) | go_skip | go_guarded | go_step | go_upon))
      refine hid ?_
      refine wp_store_box (w := wa.alloc (.cells zeroRt 62)) 62 _ _ (by rfl) (g := wa.heap.size) (cur := zeroRt) (X := V) (by rfl) (by rfl) (ST hVs) (heap_new _ _) (by rw [hVs]; rfl) V1.out ?_
      intro w6 h1 h2 h3
      have B6 := hid (show Below wa.heap.size wa w6 from (al1 wa _).trans (h3 _ (Nat.le_refl _)))
      have HB6 := hid (show Below w4.heap.size w4 w6 from then_ BA.out B6.out)
      have b6 := HB6.out
      have KV6 := hid h1
      clear h1 h2 h3 ba
      dsimp only [Act.put]
      repeat' ((fail_if_success (with_reducible show Hid _)); (first | (go_at_call 21; refine (cR s _ (by assumption)).mono ?_; rintro e wb ⟨z, rfl, lz, iz, bb⟩; refine stopP ?_) | go_skip | go_guarded | go_step | go_upon))
      refine hid ?_
      dsimp only
      obtain ⟨U, hU⟩ : ∃ V, V = (eRte z).toArray := ⟨_, rfl⟩
      have hUs : U.size = 14 := by rw [hU]; rfl
      have U1 := hid (show U.all (·.oneCell') = true by rw [hU]; exact eRte_one iz)
      rw [← hU]
      have IZ := hid iz
      have L2 := hid lz
      have BB6 := hid (show Below w6.heap.size w6 wb from bb)
      have HU := hid hU
      clear hU lz iz
      repeat' ((fail_if_success (with_reducible show Hid _)); (first | ((with_reducible show Oper.wp _ ⟨_, .store 62 _ _, _, _, _, _⟩ _ _ _ _); refine stopP ?_) | go_skip | go_guarded | go_step | go_upon))
      refine hid ?_
      refine wp_store_box (w := wb.alloc (.cells zeroRt 62)) 62 _ _ (by rfl) (g := wb.heap.size) (cur := zeroRt) (X := U) (by rfl) (by rfl) (ST hUs) (heap_new _ _) (by rw [hUs]; rfl) U1.out ?_
      intro w8 h1 h2 h3
      have B8 := hid (show Below wb.heap.size wb w8 from (al1 wb _).trans (h3 _ (Nat.le_refl _)))
      have B68 := hid (show Below w6.heap.size w6 w8 from then_ BB6.out B8.out)
      have HB8 := hid (show Below w4.heap.size w4 w8 from then_ HB6.out B68.out)
      have G8 : Below w8.heap.size w8 w8 := Below.refl _ _
      have uV : ∀ u : Later w8.heap.size w8, Sem.run PP (loadCellsFrom ⟨wa.heap.size, 0, none⟩ 0 zRoute #[]) u.w = .ok V u.w := fun u => ld_box PP (blk_keep KV6.out (then_ B68.out u.h)) (by rw [ZT.out]; exact hVs)
      have uU : ∀ u : Later w8.heap.size w8, Sem.run PP (loadCellsFrom ⟨wb.heap.size, 0, none⟩ 0 zRoute #[]) u.w = .ok U u.w := fun u => ld_box PP (blk_keep h1 u.h) (by rw [ZT.out]; exact hUs)
      have uZ := fun u : Later w8.heap.size w8 => LZ u.w (then_ HB8.out u.h)
      have uY := fun u : Later w8.heap.size w8 => LY4 u.w (then_ HB8.out u.h)
      have k1 := fun u : Later w8.heap.size w8 => cC s u.w (then_ HB8.out u.h)
      have k2 := fun u : Later w8.heap.size w8 => cD s u.w (then_ HB8.out u.h)
      have k3 := fun u : Later w8.heap.size w8 => cP s u.w (then_ HB8.out u.h)
      have k4 := fun u : Later w8.heap.size w8 => cQ s u.w (then_ HB8.out u.h)
      have k5 : ∀ u : Later w8.heap.size w8, Calls PP 24 #[.agg V, .agg U] u.w fun e w' => e = .returned (.bool true) ∧ Below u.w.heap.size u.w w' := fun u => by
        have := hS y z u.w (IY.out.keep (then_ B6.out (then_ B68.out u.h))) (IZ.out.keep (then_ B8.out u.h)) (L1.out.symm.trans L2.out)
        rwa [← HV.out, ← HU.out] at this
      obtain ⟨ci, hci⟩ : ∃ q, q = clI r.lists r.maps s x.pfx x.tag := ⟨_, rfl⟩
      obtain ⟨pi, hpi⟩ : ∃ q, q = prepI r.lists r.maps s x.pfx x.tag := ⟨_, rfl⟩
      obtain ⟨ok, hok⟩ : ∃ q, q = (appO r.lists r.maps s x).isSome := ⟨_, rfl⟩
      rw [← hci] at k1 k2
      rw [← hpi] at k3 k4
      rw [← hok]
      clear h1 h2 h3 bb hci hpi hok b6
      dsimp only [Act.put]
      repeat' (first | go_skip | go_guarded | go_step | go_upon)
      refine wp_region_base w8 (by assumption) (by first | assumption | kernel_rfl) (by kernel_rfl) ?_
      repeat (go_big_quiet_step (first | (go_at_call 22; with_reducible exact later_of (Nat.le_refl _) (k1 _)) | (go_at_call 23; with_reducible exact later_of (Nat.le_refl _) (k2 _)) | (go_at_call 25; with_reducible exact later_of (Nat.le_refl _) (k3 _)) | (go_at_call 26; with_reducible exact later_of (Nat.le_refl _) (k4 _)) | (go_at_call 24; with_reducible exact later_of (Nat.le_refl _) (k5 _))))
      refine wpQuiet_nil ?_
      rintro _ ⟨u, rfl⟩
      have bu := u.h
      clear uV uU uZ uY k1 k2 k3 k4 k5
      repeat' (first | go_skip | go_guarded | go_step | go_upon)
      go_roundg (n + 1 - 1)
      case measure => omega
      case rel => exact ⟨1, by omega, by omega, by go_num, then_ HB8.out (by assumption)⟩
    | succ i =>
      rw [show ((i + 1 : Nat) : Int) - 1 = (i : Int) by omega]
      have hi0 : (0 : Int) ≤ (i : Int) := by omega
      by_cases hlt : i < n
      · have hlti : (i : Int) < (n : Int) := by omega
        obtain ⟨m, hm⟩ := get_some (l := r.maps) (k := i) (by have := N.out; omega)
        obtain ⟨b, off, rfl, hb, hc⟩ := HM.out (by omega)
        have FN : ∀ v : World, Below w4.heap.size w4 v → v.cell? ⟨b, off + i * zRouteMap, none⟩ = some (.string m.name) := fun v h => by
          rw [ZM.out]; exact ((then_ HW.out h).cell (p := ⟨b, off + i * 2, none⟩) hb).trans (row_cells (f := eRMap) (z := 2) (fun _ => rfl) hc hm 0 _ rfl)
        clear hc hb hm
        repeat' ((fail_if_success (with_reducible show Hid _)); (first | (go_at_call 20; refine (cA m.name _ (by assumption)).mono ?_; rintro e wa ⟨y, rfl, ly, iy, ba⟩; refine stopP ?_) | go_skip | go_guarded | go_step | go_upon))
        refine hid ?_
        dsimp only
        obtain ⟨V, hV⟩ : ∃ V, V = (eRte y).toArray := ⟨_, rfl⟩
        have hVs : V.size = 14 := by rw [hV]; rfl
        have V1 := hid (show V.all (·.oneCell') = true by rw [hV]; exact eRte_one iy)
        rw [← hV]
        have IY := hid iy
        have L1 := hid ly
        have BA := hid (show Below w4.heap.size w4 wa from then_ (by assumption) ba)
        have HV := hid hV
        clear hV ly iy
        repeat' ((fail_if_success (with_reducible show Hid _)); (first | ((with_reducible show Oper.wp _ ⟨_, .store 62 _ _, _, _, _, _⟩ _ _ _ _); refine stopP ?_) | go_skip | go_guarded | go_step | go_upon))
        refine hid ?_
        refine wp_store_box (w := wa.alloc (.cells zeroRt 62)) 62 _ _ (by rfl) (g := wa.heap.size) (cur := zeroRt) (X := V) (by rfl) (by rfl) (ST hVs) (heap_new _ _) (by rw [hVs]; rfl) V1.out ?_
        intro w6 h1 h2 h3
        have B6 := hid (show Below wa.heap.size wa w6 from (al1 wa _).trans (h3 _ (Nat.le_refl _)))
        have HB6 := hid (show Below w4.heap.size w4 w6 from then_ BA.out B6.out)
        have b6 := HB6.out
        have KV6 := hid h1
        clear h1 h2 h3 ba
        dsimp only [Act.put]
        repeat' ((fail_if_success (with_reducible show Hid _)); (first | (go_at_call 21; refine (cR m.name _ (by assumption)).mono ?_; rintro e wb ⟨z, rfl, lz, iz, bb⟩; refine stopP ?_) | go_skip | go_guarded | go_step | go_upon))
        refine hid ?_
        dsimp only
        obtain ⟨U, hU⟩ : ∃ V, V = (eRte z).toArray := ⟨_, rfl⟩
        have hUs : U.size = 14 := by rw [hU]; rfl
        have U1 := hid (show U.all (·.oneCell') = true by rw [hU]; exact eRte_one iz)
        rw [← hU]
        have IZ := hid iz
        have L2 := hid lz
        have BB6 := hid (show Below w6.heap.size w6 wb from bb)
        have HU := hid hU
        clear hU lz iz
        repeat' ((fail_if_success (with_reducible show Hid _)); (first | ((with_reducible show Oper.wp _ ⟨_, .store 62 _ _, _, _, _, _⟩ _ _ _ _); refine stopP ?_) | go_skip | go_guarded | go_step | go_upon))
        refine hid ?_
        refine wp_store_box (w := wb.alloc (.cells zeroRt 62)) 62 _ _ (by rfl) (g := wb.heap.size) (cur := zeroRt) (X := U) (by rfl) (by rfl) (ST hUs) (heap_new _ _) (by rw [hUs]; rfl) U1.out ?_
        intro w8 h1 h2 h3
        have B8 := hid (show Below wb.heap.size wb w8 from (al1 wb _).trans (h3 _ (Nat.le_refl _)))
        have B68 := hid (show Below w6.heap.size w6 w8 from then_ BB6.out B8.out)
        have HB8 := hid (show Below w4.heap.size w4 w8 from then_ HB6.out B68.out)
        have G8 : Below w8.heap.size w8 w8 := Below.refl _ _
        have uV : ∀ u : Later w8.heap.size w8, Sem.run PP (loadCellsFrom ⟨wa.heap.size, 0, none⟩ 0 zRoute #[]) u.w = .ok V u.w := fun u => ld_box PP (blk_keep KV6.out (then_ B68.out u.h)) (by rw [ZT.out]; exact hVs)
        have uU : ∀ u : Later w8.heap.size w8, Sem.run PP (loadCellsFrom ⟨wb.heap.size, 0, none⟩ 0 zRoute #[]) u.w = .ok U u.w := fun u => ld_box PP (blk_keep h1 u.h) (by rw [ZT.out]; exact hUs)
        have uZ := fun u : Later w8.heap.size w8 => LZ u.w (then_ HB8.out u.h)
        have uY := fun u : Later w8.heap.size w8 => LY4 u.w (then_ HB8.out u.h)
        have k1 := fun u : Later w8.heap.size w8 => cC m.name u.w (then_ HB8.out u.h)
        have k2 := fun u : Later w8.heap.size w8 => cD m.name u.w (then_ HB8.out u.h)
        have k3 := fun u : Later w8.heap.size w8 => cP m.name u.w (then_ HB8.out u.h)
        have k4 := fun u : Later w8.heap.size w8 => cQ m.name u.w (then_ HB8.out u.h)
        have k5 : ∀ u : Later w8.heap.size w8, Calls PP 24 #[.agg V, .agg U] u.w fun e w' => e = .returned (.bool true) ∧ Below u.w.heap.size u.w w' := fun u => by
          have := hS y z u.w (IY.out.keep (then_ B6.out (then_ B68.out u.h))) (IZ.out.keep (then_ B8.out u.h)) (L1.out.symm.trans L2.out)
          rwa [← HV.out, ← HU.out] at this
        obtain ⟨ci, hci⟩ : ∃ q, q = clI r.lists r.maps m.name x.pfx x.tag := ⟨_, rfl⟩
        obtain ⟨pi, hpi⟩ : ∃ q, q = prepI r.lists r.maps m.name x.pfx x.tag := ⟨_, rfl⟩
        obtain ⟨ok, hok⟩ : ∃ q, q = (appO r.lists r.maps m.name x).isSome := ⟨_, rfl⟩
        rw [← hci] at k1 k2
        rw [← hpi] at k3 k4
        rw [← hok]
        clear h1 h2 h3 bb hci hpi hok b6
        dsimp only [Act.put]
        repeat' (first | go_skip | go_guarded | go_step | go_upon)
        refine wp_region_base w8 (by assumption) (by first | assumption | kernel_rfl) (by kernel_rfl) ?_
        repeat (go_big_quiet_step (first | (go_at_call 22; with_reducible exact later_of (Nat.le_refl _) (k1 _)) | (go_at_call 23; with_reducible exact later_of (Nat.le_refl _) (k2 _)) | (go_at_call 25; with_reducible exact later_of (Nat.le_refl _) (k3 _)) | (go_at_call 26; with_reducible exact later_of (Nat.le_refl _) (k4 _)) | (go_at_call 24; with_reducible exact later_of (Nat.le_refl _) (k5 _))))
        refine wpQuiet_nil ?_
        rintro _ ⟨u, rfl⟩
        have bu := u.h
        clear uV uU uZ uY k1 k2 k3 k4 k5
        repeat' (first | go_skip | go_guarded | go_step | go_upon)
        go_roundg (n + 1 - (i + 2))
        case measure => omega
        case rel => exact ⟨i + 2, by omega, by omega, by go_num, then_ HB8.out (by assumption)⟩
      · have hlti : ¬ (i : Int) < (n : Int) := by omega
        have A0 := hid (show appO r.lists r.maps ⟨#[]⟩ x = some x from app_some str0)
        have P0 := hid (show prepI r.lists r.maps ⟨#[]⟩ x.pfx x.tag = 0 by unfold prepI permC; rw [cls_empty FB.out]; rfl)
        repeat' ((fail_if_success (with_reducible show Hid _)); (first | (go_at_call 20; refine (cA ⟨#[]⟩ _ (by assumption)).mono ?_; rintro e wa ⟨y, rfl, ly, iy, ba⟩; refine stopP ?_) | go_skip | go_guarded | go_step | go_upon))
        refine hid ?_
        dsimp only
        obtain ⟨V, hV⟩ : ∃ V, V = (eRte y).toArray := ⟨_, rfl⟩
        have hVs : V.size = 14 := by rw [hV]; rfl
        have V1 := hid (show V.all (·.oneCell') = true by rw [hV]; exact eRte_one iy)
        rw [← hV]
        have IY := hid iy
        have L1 := hid (show Like x y by have t := ly; rw [A0.out] at t; exact t)
        rw [A0.out]
        simp only [Option.isSome]
        have BA := hid (show Below w4.heap.size w4 wa from then_ (by assumption) ba)
        have HV := hid hV
        clear hV ly iy
        repeat' ((fail_if_success (with_reducible show Hid _)); (first | ((with_reducible show Oper.wp _ ⟨_, .store 62 _ _, _, _, _, _⟩ _ _ _ _); refine stopP ?_) | go_skip | go_guarded | go_step | go_upon))
        refine hid ?_
        refine wp_store_box (w := wa.alloc (.cells zeroRt 62)) 62 _ _ (by rfl) (g := wa.heap.size) (cur := zeroRt) (X := V) (by rfl) (by rfl) (ST hVs) (heap_new _ _) (by rw [hVs]; rfl) V1.out ?_
        intro w6 h1 h2 h3
        have B6 := hid (show Below wa.heap.size wa w6 from (al1 wa _).trans (h3 _ (Nat.le_refl _)))
        have HB6 := hid (show Below w4.heap.size w4 w6 from then_ BA.out B6.out)
        have b6 := HB6.out
        have KV6 := hid h1
        clear h1 h2 h3 ba
        dsimp only [Act.put]
        have LV : ∀ v : World, Below w6.heap.size w6 v → Sem.run PP (loadCellsFrom ⟨wa.heap.size, 0, none⟩ 0 zRoute #[]) v = .ok V v := fun v h => ld_box PP (blk_keep KV6.out h) (by rw [ZT.out]; exact hVs)
        have LZ6 := fun (v : World) (h : Below w6.heap.size w6 v) => LZ v (then_ HB6.out h)
        have LY6 := fun (v : World) (h : Below w6.heap.size w6 v) => LY4 v (then_ HB6.out h)
        have G6 : Below w6.heap.size w6 w6 := Below.refl _ _
        have k3 : ∀ wx, Below w6.heap.size w6 wx → Calls PP 25 #[.agg Z, .string ⟨#[]⟩, .agg Y] wx fun e w' => e = .returned (.int .i64 0) ∧ Below wx.heap.size wx w' := fun wx h => by
          have := cP ⟨#[]⟩ wx (then_ HB6.out h)
          rwa [P0.out] at this
        have k5 : ∀ wx, Below w6.heap.size w6 wx → Calls PP 24 #[.agg Y, .agg V] wx fun e w' => e = .returned (.bool true) ∧ Below wx.heap.size wx w' := fun wx h => by
          have := hS x y wx (XI.out wx (then_ HB6.out h)) (IY.out.keep (then_ B6.out h)) L1.out
          rwa [← HV.out, ← hY'.out] at this
        clear LZ LY4 hVs hS cA cR cC cD cP cQ FZ4 f4 b6
        repeat' (first | (go_at_call 24; with_reducible refine (k5 _ (by assumption)).mono ?_; rintro e w' ⟨rfl, b⟩; have b' := then_ (w := w6) (by assumption) b; clear b; try dsimp only) | (go_at_call 25; with_reducible refine (k3 _ (by assumption)).mono ?_; rintro e w' ⟨rfl, b⟩; have b' := then_ (w := w6) (by assumption) b; clear b; try dsimp only) | (go_at_call 15; with_reducible refine (hSn _).mono ?_; rintro e w' ⟨rfl, b⟩; have b' := then_ (w := w6) (by assumption) b; clear b; try dsimp only) | go_skip | go_big_skip | go_big_want | go_big_guard | go_step | go_upon)
        go_ret
        exact ⟨rfl, then_ HW.out (then_ HB6.out (by assumption))⟩
end Go.Proofs.Ytlhbfpapmolohaa.Mw

/-
  PolicyApplies: PolicyApplies is true for every router, name and route. No condition.
-/
namespace Go.Proofs.Ytlhbfpapmolohaa.policyApplies
open Go.ChangeShapes Go.WideShapes Go.ChangeAt Go.RowKit Go.Joins
open Go.ChangeMaps (open_string shut_string)
set_option linter.unusedSimpArgs false
set_option linter.unusedVariables false

theorem own : ownKnob Try.prog.godebug = none := by kernel_rfl
theorem laidOut : laidOutB Try.prog = true := by kernel_rfl

set_option maxRecDepth 100000 in
theorem lifted (os : Os) (started : os.Started) (H : Type) (enc : TypeId × Value → H) :
    ReturnsInHanded {} Try.checked os 5 .any (Rows.policyAppliesSpec.pre6 enc Try.prog Try.f5 Rows.policyAppliesRow.domain false) (Rows.policyAppliesSpec.post enc Try.prog Try.f5 false true false false) := by
  refine returnsInHanded_of_change (C := Try.checked) own started (by kernel_rfl) Try.func5
    (ChangeSpec.witness6 (enc := enc) (C := Try.checked) false ⟨#[], #[.agg #[.string ByteArray.empty, .int .i64 0, .slice none 0 0, .slice none 0 0, .slice none 0 0, .slice none 0 0, .slice none 0 0, .slice none 0 0, .bool false, .int .i64 0, .slice none 0 0, .slice none 0 0, .bool false, .int .i64 0, .string ByteArray.empty, .string ByteArray.empty, .slice none 0 0, .bool false, .int .i64 0, .int .i64 0, .slice none 0 0, .slice none 0 0, .slice none 0 0, .slice none 0 0, .slice none 0 0], .string ByteArray.empty, .agg #[.int .u32 0, .int .i64 0, .int .i64 0, .int .i64 0, .int .i64 0, .int .i64 0, .int .i64 0, .int .i64 0, .int .i64 0, .slice none 0 0, .int .u32 0, .int .u32 0, .slice none 0 0, .bool false]], []⟩ 8 (by kernel_rfl) (by kernel_rfl) (by kernel_rfl) (by kernel_rfl)) ?_
  intro W base args ds gs before hval0 hW hcnd _
  have hval : ∀ (j : Nat) t v, Try.f5.params[j]? = some t → args[j]? = some v → Value.okWide Try.prog W .any base t v := hval0
  have hW' := hW
  obtain ⟨p, q, hA0, hV, rfl, hfz, hnd⟩ := hW
  have hA : DataW.TrodAll enc Try.prog W 0 (fun _ => true) true Try.f5.params.toList args.toList ds p := hA0
  rw [Try.params5] at hA hval
  obtain ⟨v0, vs0, d0, ds0, p0, q0, hargs, rfl, rfl, h0, r0⟩ := trodAll_cons hA
  obtain ⟨v1, vs1, d1, ds1, p1, q1, rfl, rfl, rfl, h1, r1⟩ := trodAll_cons r0
  obtain ⟨v2, vs2, d2, ds2, p2, q2, rfl, rfl, rfl, h2, r2⟩ := trodAll_cons r1
  obtain ⟨rfl, rfl, rfl⟩ := trodAll_nil r2
  obtain rfl : args = #[v0, v1, v2] := by cases args; simp_all
  obtain ⟨rfl, rfl⟩ := trodVars_none hV
  have k0 := h0
  have lt0 : ∀ x ∈ p0, x.block < W.heap.size := by obtain ⟨m, hm⟩ := k0; exact DataW.trod_lt m _ _ _ hm
  obtain ⟨q0, rfl, i0⟩ := Mo.opRtr (hval 0 55 v0 rfl rfl) h0
  obtain ⟨a1, rfl, rfl, rfl, w1⟩ := open_string Try.underlying9 (hval 1 9 v1 rfl rfl) h1
  have k2 := h2
  have lt2 : ∀ x ∈ p2, x.block < W.heap.size := by obtain ⟨m, hm⟩ := k2; exact DataW.trod_lt m _ _ _ hm
  obtain ⟨q2, rfl, i2⟩ := Mo.opRte (hval 2 62 v2 rfl rfl) h2
  clear hA0 hval0
  refine (Mw.walkPolicyApplies q0 a1 q2 W i0 w1 i2).mono fun e W' ⟨he, bel⟩ => ?_
  subst he
  exact ⟨_, rfl, _, _, _, [], _, [], hW', trodAll_mk1 (shut_bool Try.underlying4 _), (trodAll_cons_mk (Below.trod laidOut (by kernel_rfl) (of_decide_eq_true (by kernel_rfl)) k0 bel lt0) (trodAll_cons_mk (shut_string Try.underlying9 w1) (trodAll_cons_mk (Below.trod laidOut (by kernel_rfl) (of_decide_eq_true (by kernel_rfl)) k2 bel lt2) trodAll_mk0))), rfl, bel.frame _, fun h => by cases h⟩

theorem over : Rows.policyAppliesRow.holds Try.pinned (OpenSpec.ofChange Rows.policyAppliesSpec) :=
  OpenClaim.holds_of_wide 5 Try.f5 rfl rfl rfl rfl rfl rfl rfl ⟨rfl, rfl, rfl, rfl, rfl⟩ rfl rfl rfl rfl rfl (by kernel_rfl) Try.func5 (by kernel_rfl)
    (of_decide_eq_true (by kernel_rfl)) (by unfold Func.isWrapper; first | (rw [if_pos (by decide +kernel)]; kernel_rfl) | (rw [if_neg (by decide +kernel)]; exact ⟨rfl, rfl⟩))
    (fun os started H enc _ => lifted os started H enc)

theorem proved : Rows.PolicyAppliesSaid := over
#print axioms proved
end Go.Proofs.Ytlhbfpapmolohaa.policyApplies
