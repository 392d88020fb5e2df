/-
  PolicyKeepsZ: PolU, PolV, PolicyKeepsW, PolicyKeepsL, joined.
-/
import Derived.Test.YtlhbfpapmolohaaPolH
import Derived.Test.YtlhbfpapmolohaaModRa
import Derived.Test.YtlhbfpapmolohaaPolT
import Derived.RegionTactic
import Derived.WalkKit
import Derived.Test.YtlhbfpapmolohaaRows
import Derived.Test.YtlhbfpapmolohaaPolO
import Derived.ProofKit
import Derived.OpenShut
import Derived.ShutString
import Derived.ChangeOld
import Derived.Below
import Derived.Lib.SmallJoins
/-
  THE CONTRACT OF THE LAW'S Same, FOR TWO ROUTES THAT ARE EQUAL.
-/
namespace Go.Proofs.Ytlhbfpapmolohaa.Mw
set_option linter.unusedSimpArgs false
set_option linter.unusedVariables false
open Go.RowKit Kt Mm Mp Am

set_option maxHeartbeats 1000000 in
theorem eqInHop (d : Nat) (x y : Hp) (w : World) : (Op.equalIn (d + 2) 91 (.agg (eHp x).toArray) (.agg (eHp y).toArray)).run Try.prog w = .ok (decide (x = y)) w := by
  have hS : Try.prog.underlying 91 = some (.struct (Try.prog.fieldsOf 91)) := by kernel_rfl
  have hp : Try.prog.stoodInHeld 91 = false := by kernel_rfl
  rw [run_equalIn_agg w _ 91 _ _ hS hp]
  simp only [Program.fieldsOf, Try.underlying91]
  have h : (decide (x = y)) = ((x.ifc == y.ifc) && (((x.addr : Int) == (y.addr : Int)) && true)) := by
    simp only [str_dec, int_dec, bool_dec, nat_dec]
    cases x; cases y
    simp only [Hp.mk.injEq, Bool.decide_and, Bool.and_true]
  rw [h]
  exact (eqF (by decide) (by have a := Try.isAgg3 w; simp only [part, Sem.run_bind, a, Result.andThen_ok, Bool.false_eq_true, if_false]; rfl) (by have a := Try.isAgg3 w; simp only [part, Sem.run_bind, a, Result.andThen_ok, Bool.false_eq_true, if_false]; rfl) (run_equalIn_int w d _ .i64 .i64 x.ifc y.ifc Try.underlying3) (eqF (by decide) (by have a := Try.isAgg25 w; simp only [part, Sem.run_bind, a, Result.andThen_ok, Bool.false_eq_true, if_false]; rfl) (by have a := Try.isAgg25 w; simp only [part, Sem.run_bind, a, Result.andThen_ok, Bool.false_eq_true, if_false]; rfl) (run_equalIn_int w d _ .u32 .u32 (x.addr : Int) (y.addr : Int) Try.underlying25) eqF0))

set_option maxHeartbeats 8000000 in
set_option maxRecDepth 16000 in
theorem same0 (x : Rte) (vP vH : Value) (w : World) (hx : RteIn w x) (h1 : InRow eInt 1 w vP x.path) (h2 : InRow eHp 2 w vH x.hops) :
    Calls Try.prog 24 #[.agg (eRte x).toArray, .agg (eRte { x with vPath := vP, vHops := vH }).toArray] w fun e w' => e = .returned (.bool true) ∧ Below w.heap.size w w' := by
  have hEp : ∀ wx, (Op.equalIn 10000 27 (.agg #[.int .u32 (x.pfx.addr : Int), .int .i64 x.pfx.len]) (.agg #[.int .u32 (x.pfx.addr : Int), .int .i64 x.pfx.len])).run Try.prog wx = .ok true wx := fun wx => (eqInPfx 9998 x.pfx x.pfx wx).trans (by rw [decide_eq_true rfl])
  have hEh : ∀ (h : Hp) wx, (Op.equalIn 10000 91 (.agg (eHp h).toArray) (.agg (eHp h).toArray)).run Try.prog wx = .ok true wx := fun h wx => (eqInHop 9998 h h wx).trans (by rw [decide_eq_true rfl])
  have hGp : ∀ (op : BinOp) (s t : Operand) (p q : Array Value) wx, (eqGuard op 27 s t (.agg p) (.agg q)).run Try.prog wx = .ok () wx := fun op s t p q wx => run_eqGuard_agg wx op _ s t p q (by kernel_rfl)
  have hGh : ∀ (op : BinOp) (s t : Operand) (p q : Array Value) wx, (eqGuard op 91 s t (.agg p) (.agg q)).run Try.prog wx = .ok () wx := fun op s t p q wx => run_eqGuard_agg wx op _ s t p q (by kernel_rfl)
  obtain ⟨v1, hv1⟩ : ∃ v, v = x.vPath := ⟨_, rfl⟩
  obtain ⟨v2, hv2⟩ : ∃ v, v = x.vHops := ⟨_, rfl⟩
  obtain ⟨a1, p1, e1, hp1, c1⟩ := rows_open (z := 1) (by decide) hx.path.row
  obtain ⟨a2, p2, e2, hp2, c2⟩ := rows_open (z := 2) (by decide) hx.hops.row
  obtain ⟨a3, p3, e3, hp3, c3⟩ := rows_open (z := 1) (by decide) h1.row
  obtain ⟨a4, p4, e4, hp4, c4⟩ := rows_open (z := 2) (by decide) h2.row
  have l1 := h1.len
  have l2 := h2.len
  obtain ⟨X, hX⟩ : ∃ X, X = (eRte x).toArray := ⟨_, rfl⟩
  obtain ⟨Y, hY⟩ : ∃ Y, Y = (eRte { x with vPath := vP, vHops := vH }).toArray := ⟨_, rfl⟩
  obtain ⟨w2, hw2⟩ : ∃ w2, (w.alloc (.cells X 62)).alloc (.cells Y 62) = w2 := ⟨_, rfl⟩
  have hhX : w2.heap[w.heap.size]? = some (.cells X 62 (0, 0)) := by rw [← hw2, Below.heap_alloc _ _ _ (by simp), heap_new]
  have hhY : w2.heap[w.heap.size + 1]? = some (.cells Y 62 (0, 0)) := by rw [← hw2]; have h := heap_new (w.alloc (.cells X 62)) (.cells Y 62 (0, 0)); rwa [new_size] at h
  have FX0 : ∀ v : World, Below w2.heap.size w2 v → v.cell? ⟨w.heap.size, 0, none⟩ = some (.int .u32 (x.pfx.addr : Int)) := fun v h => box_at (blk_keep hhX h) (by rw [hX]; rfl)
  have FX1 : ∀ v : World, Below w2.heap.size w2 v → v.cell? ⟨w.heap.size, 1, none⟩ = some (.int .i64 x.pfx.len) := fun v h => box_at (blk_keep hhX h) (by rw [hX]; rfl)
  have FX2 : ∀ v : World, Below w2.heap.size w2 v → v.cell? ⟨w.heap.size, 2, none⟩ = some (.int .i64 x.proto) := fun v h => box_at (blk_keep hhX h) (by rw [hX]; rfl)
  have FX3 : ∀ v : World, Below w2.heap.size w2 v → v.cell? ⟨w.heap.size, 3, none⟩ = some (.int .i64 x.cls) := fun v h => box_at (blk_keep hhX h) (by rw [hX]; rfl)
  have FX4 : ∀ v : World, Below w2.heap.size w2 v → v.cell? ⟨w.heap.size, 4, none⟩ = some (.int .i64 x.admin) := fun v h => box_at (blk_keep hhX h) (by rw [hX]; rfl)
  have FX5 : ∀ v : World, Below w2.heap.size w2 v → v.cell? ⟨w.heap.size, 5, none⟩ = some (.int .i64 x.metric) := fun v h => box_at (blk_keep hhX h) (by rw [hX]; rfl)
  have FX6 : ∀ v : World, Below w2.heap.size w2 v → v.cell? ⟨w.heap.size, 6, none⟩ = some (.int .i64 x.inner) := fun v h => box_at (blk_keep hhX h) (by rw [hX]; rfl)
  have FX7 : ∀ v : World, Below w2.heap.size w2 v → v.cell? ⟨w.heap.size, 7, none⟩ = some (.int .i64 x.tag) := fun v h => box_at (blk_keep hhX h) (by rw [hX]; rfl)
  have FX8 : ∀ v : World, Below w2.heap.size w2 v → v.cell? ⟨w.heap.size, 8, none⟩ = some (.int .i64 x.pref) := fun v h => box_at (blk_keep hhX h) (by rw [hX]; rfl)
  have FX9 : ∀ v : World, Below w2.heap.size w2 v → v.cell? ⟨w.heap.size, 9, none⟩ = some (x.vPath) := fun v h => box_at (blk_keep hhX h) (by rw [hX]; rfl)
  have FX10 : ∀ v : World, Below w2.heap.size w2 v → v.cell? ⟨w.heap.size, 10, none⟩ = some (.int .u32 (x.frm : Int)) := fun v h => box_at (blk_keep hhX h) (by rw [hX]; rfl)
  have FX11 : ∀ v : World, Below w2.heap.size w2 v → v.cell? ⟨w.heap.size, 11, none⟩ = some (.int .u32 (x.next : Int)) := fun v h => box_at (blk_keep hhX h) (by rw [hX]; rfl)
  have FX12 : ∀ v : World, Below w2.heap.size w2 v → v.cell? ⟨w.heap.size, 12, none⟩ = some (x.vHops) := fun v h => box_at (blk_keep hhX h) (by rw [hX]; rfl)
  have FX13 : ∀ v : World, Below w2.heap.size w2 v → v.cell? ⟨w.heap.size, 13, none⟩ = some (.bool x.discard) := fun v h => box_at (blk_keep hhX h) (by rw [hX]; rfl)
  have FY0 : ∀ v : World, Below w2.heap.size w2 v → v.cell? ⟨w.heap.size + 1, 0, none⟩ = some (.int .u32 (x.pfx.addr : Int)) := fun v h => box_at (blk_keep hhY h) (by rw [hY]; rfl)
  have FY1 : ∀ v : World, Below w2.heap.size w2 v → v.cell? ⟨w.heap.size + 1, 1, none⟩ = some (.int .i64 x.pfx.len) := fun v h => box_at (blk_keep hhY h) (by rw [hY]; rfl)
  have FY2 : ∀ v : World, Below w2.heap.size w2 v → v.cell? ⟨w.heap.size + 1, 2, none⟩ = some (.int .i64 x.proto) := fun v h => box_at (blk_keep hhY h) (by rw [hY]; rfl)
  have FY3 : ∀ v : World, Below w2.heap.size w2 v → v.cell? ⟨w.heap.size + 1, 3, none⟩ = some (.int .i64 x.cls) := fun v h => box_at (blk_keep hhY h) (by rw [hY]; rfl)
  have FY4 : ∀ v : World, Below w2.heap.size w2 v → v.cell? ⟨w.heap.size + 1, 4, none⟩ = some (.int .i64 x.admin) := fun v h => box_at (blk_keep hhY h) (by rw [hY]; rfl)
  have FY5 : ∀ v : World, Below w2.heap.size w2 v → v.cell? ⟨w.heap.size + 1, 5, none⟩ = some (.int .i64 x.metric) := fun v h => box_at (blk_keep hhY h) (by rw [hY]; rfl)
  have FY6 : ∀ v : World, Below w2.heap.size w2 v → v.cell? ⟨w.heap.size + 1, 6, none⟩ = some (.int .i64 x.inner) := fun v h => box_at (blk_keep hhY h) (by rw [hY]; rfl)
  have FY7 : ∀ v : World, Below w2.heap.size w2 v → v.cell? ⟨w.heap.size + 1, 7, none⟩ = some (.int .i64 x.tag) := fun v h => box_at (blk_keep hhY h) (by rw [hY]; rfl)
  have FY8 : ∀ v : World, Below w2.heap.size w2 v → v.cell? ⟨w.heap.size + 1, 8, none⟩ = some (.int .i64 x.pref) := fun v h => box_at (blk_keep hhY h) (by rw [hY]; rfl)
  have FY9 : ∀ v : World, Below w2.heap.size w2 v → v.cell? ⟨w.heap.size + 1, 9, none⟩ = some (vP) := fun v h => box_at (blk_keep hhY h) (by rw [hY]; rfl)
  have FY10 : ∀ v : World, Below w2.heap.size w2 v → v.cell? ⟨w.heap.size + 1, 10, none⟩ = some (.int .u32 (x.frm : Int)) := fun v h => box_at (blk_keep hhY h) (by rw [hY]; rfl)
  have FY11 : ∀ v : World, Below w2.heap.size w2 v → v.cell? ⟨w.heap.size + 1, 11, none⟩ = some (.int .u32 (x.next : Int)) := fun v h => box_at (blk_keep hhY h) (by rw [hY]; rfl)
  have FY12 : ∀ v : World, Below w2.heap.size w2 v → v.cell? ⟨w.heap.size + 1, 12, none⟩ = some (vH) := fun v h => box_at (blk_keep hhY h) (by rw [hY]; rfl)
  have FY13 : ∀ v : World, Below w2.heap.size w2 v → v.cell? ⟨w.heap.size + 1, 13, none⟩ = some (.bool x.discard) := fun v h => box_at (blk_keep hhY h) (by rw [hY]; rfl)
  have Gw2 : Below w2.heap.size w2 w2 := Below.refl _ _
  have Hw2 := hid (show Below w.heap.size w w2 by rw [← hw2]; exact al2 _ _ _)
  have hX' := hid hX
  have hY' := hid hY
  try rw [← hX]
  try rw [← hY]
  clear hX hY hhX hhY
  obtain ⟨n, hn⟩ : ∃ n, n = x.path.length := ⟨_, rfl⟩
  obtain ⟨m, hm⟩ : ∃ n, n = x.hops.length := ⟨_, rfl⟩
  rw [← hn] at e1 e3 hp1 hp3 c1 c3 l1
  rw [← hm] at e2 e4 hp2 hp4 c2 c4 l2
  rw [e1] at FX9
  rw [e2] at FX12
  rw [e3] at FY9
  rw [e4] at FY12
  obtain ⟨ps, hps⟩ : ∃ q, q = x.path := ⟨_, rfl⟩
  obtain ⟨hs, hhs⟩ : ∃ q, q = x.hops := ⟨_, rfl⟩
  obtain ⟨q0, hq0⟩ : ∃ q : Int, q = (x.pfx.addr : Int) := ⟨_, rfl⟩
  obtain ⟨q1, hq1⟩ : ∃ q : Int, q = x.pfx.len := ⟨_, rfl⟩
  obtain ⟨q2, hq2⟩ : ∃ q : Int, q = x.proto := ⟨_, rfl⟩
  obtain ⟨q3, hq3⟩ : ∃ q : Int, q = x.cls := ⟨_, rfl⟩
  obtain ⟨q4, hq4⟩ : ∃ q : Int, q = x.admin := ⟨_, rfl⟩
  obtain ⟨q5, hq5⟩ : ∃ q : Int, q = x.metric := ⟨_, rfl⟩
  obtain ⟨q6, hq6⟩ : ∃ q : Int, q = x.inner := ⟨_, rfl⟩
  obtain ⟨q7, hq7⟩ : ∃ q : Int, q = x.tag := ⟨_, rfl⟩
  obtain ⟨q8, hq8⟩ : ∃ q : Int, q = x.pref := ⟨_, rfl⟩
  obtain ⟨q10, hq10⟩ : ∃ q : Int, q = (x.frm : Int) := ⟨_, rfl⟩
  obtain ⟨q11, hq11⟩ : ∃ q : Int, q = (x.next : Int) := ⟨_, rfl⟩
  obtain ⟨q13, hq13⟩ : ∃ q : Bool, q = x.discard := ⟨_, rfl⟩
  rw [← hps] at hn c1 c3
  rw [← hhs] at hm c2 c4
  rw [← hq0, ← hq1] at hEp
  rw [← hq0] at FX0 FY0
  rw [← hq1] at FX1 FY1
  rw [← hq2] at FX2 FY2
  rw [← hq3] at FX3 FY3
  rw [← hq4] at FX4 FY4
  rw [← hq5] at FX5 FY5
  rw [← hq6] at FX6 FY6
  rw [← hq7] at FX7 FY7
  rw [← hq8] at FX8 FY8
  rw [← hq10] at FX10 FY10
  rw [← hq11] at FX11 FY11
  rw [← hq13] at FX13 FY13
  have N := hid hn
  have M := hid hm
  have C1 := hid c1
  have C2 := hid c2
  have C3 := hid c3
  have C4 := hid c4
  clear c1 c2 c3 c4 e1 e2 e3 e4 hp1 hp2 hp3 hp4 hx h1 h2 hv1 hv2 hq0 hq1 hq2 hq3 hq4 hq5 hq6 hq7 hq8 hq10 hq11 hq13 hn hm hps hhs v1 v2
  obtain ⟨P, hP⟩ : ∃ P, P = Try.prog := ⟨_, rfl⟩
  have HP := hid hP
  have mixed : P.follows .mixedOrders = true := by rw [hP]; kernel_rfl
  have FG : P.funcs[24]? = some Try.f24 := by rw [hP]; exact Try.func24
  obtain ⟨zRoute, hzRoute⟩ : ∃ z, z = 14 := ⟨_, rfl⟩
  have nzRoute : ¬ zRoute = 0 := by omega
  obtain ⟨zHop, hzHop⟩ : ∃ z, z = 2 := ⟨_, rfl⟩
  have nzHop : ¬ zHop = 0 := by omega
  have ty3 := Try.underlying3; have ag3 := Try.isAgg3; have sz3 := Try.sizeOf3; have ru3 := Try.runUnderlying3
  have ty4 := Try.underlying4; have ag4 := Try.isAgg4; have sz4 := Try.sizeOf4; have ru4 := Try.runUnderlying4
  have ty25 := Try.underlying25; have ag25 := Try.isAgg25; have sz25 := Try.sizeOf25; have ru25 := Try.runUnderlying25
  have ty27 := Try.underlying27; have ag27 := Try.isAgg27; have sz27 := Try.sizeOf27; have ru27 := Try.runUnderlying27
  have ty59 := Try.underlying59; have ag59 := Try.isAgg59; have sz59 := Try.sizeOf59; have ru59 := Try.runUnderlying59
  have ty60 := Try.underlying60; have ag60 := Try.isAgg60; have sz60 := Try.sizeOf60; have ru60 := Try.runUnderlying60
  have ty62 := Try.underlying62; have ag62 := Try.isAgg62; have sz62 := Try.sizeOf62; have ru62 := Try.runUnderlying62
  rw [← hzRoute] at sz62
  have ty91 := Try.underlying91; have ag91 := Try.isAgg91; have sz91 := Try.sizeOf91; have ru91 := Try.runUnderlying91
  rw [← hzHop] at sz91
  rw [← hP] at ty3 ag3 sz3 ru3 ty4 ag4 sz4 ru4 ty25 ag25 sz25 ru25 ty27 ag27 sz27 ru27 ty59 ag59 sz59 ru59 ty60 ag60 sz60 ru60 ty62 ag62 sz62 ru62 ty91 ag91 sz91 ru91 hEp hEh hGp hGh ⊢
  clear hP
  have ZH := hid hzHop
  clear hzHop hzRoute
  go_enter FG, Try.ntmps24
  repeat' (first | go_skip | go_big_skip | go_big_want | go_big_guard | go_step | go_upon)
  clear FX0 FX1 FX2 FX3 FX4 FX5 FX6 FX7 FX8 FX10 FX11 FX13 FY0 FY1 FY2 FY3 FY4 FY5 FY6 FY7 FY8 FY10 FY11 FY13 hEp hGp
  go_loopg [5] n (fun gg s5 wr => ∃ k : Nat, k ≤ n ∧ n - k ≤ gg ∧ s5 = .int .i64 k ∧ Below w2.heap.size w2 wr)
  case atStart => exact ⟨0, Nat.zero_le _, by omega, rfl, by assumption⟩
  case round =>
    obtain ⟨k, hk, hg, rfl, hwr⟩ := hrel
    have f9 := FX9 wr hwr
    have g9 := FY9 wr hwr
    have GR : Below wr.heap.size wr wr := Below.refl _ _
    by_cases hlt : k < n
    · have hlti : (k : Int) < (n : Int) := by omega
      have hk0 : (0 : Int) ≤ (k : Int) := by omega
      obtain ⟨y, hy⟩ := get_some (l := ps) (k := k) (by have := N.out; omega)
      obtain ⟨b, off, rfl, hb, hc⟩ := C1.out (by omega)
      obtain ⟨b3, off3, rfl, hb3, hc3⟩ := C3.out (by omega)
      have uN : ∀ u : Later wr.heap.size wr, u.w.cell? ⟨b, off + k, none⟩ = some (.int .i64 y) := fun u => by
        have := ((then_ Hw2.out (then_ hwr u.h)).cell (p := ⟨b, off + k * 1 + 0, none⟩) hb).trans (row_cells (f := eInt) (z := 1) (fun _ => rfl) hc hy 0 _ rfl)
        rwa [Nat.mul_one, Nat.add_zero] at this
      have uM : ∀ u : Later wr.heap.size wr, u.w.cell? ⟨b3, off3 + k, none⟩ = some (.int .i64 y) := fun u => by
        have := ((then_ Hw2.out (then_ hwr u.h)).cell (p := ⟨b3, off3 + k * 1 + 0, none⟩) hb3).trans (row_cells (f := eInt) (z := 1) (fun _ => rfl) hc3 hy 0 _ rfl)
        rwa [Nat.mul_one, Nat.add_zero] at this
      have u9 := fun u : Later wr.heap.size wr => FX9 u.w (then_ hwr u.h)
      have v9 := fun u : Later wr.heap.size wr => FY9 u.w (then_ hwr u.h)
      clear hc hc3 hy
      repeat' (first | go_skip | go_guarded | go_step | go_upon)
      refine wp_region_base wr (by assumption) (by first | assumption | kernel_rfl) (by kernel_rfl) ?_
      repeat (go_big_quiet_step (first | fail))
      refine wpQuiet_nil ?_
      rintro _ ⟨u, rfl⟩
      have bu := u.h
      repeat' (first | go_skip | go_guarded | go_step | go_upon)
      go_roundg (n - (k + 1))
      case measure => omega
      case rel => exact ⟨k + 1, by omega, by omega, by go_num, then_ hwr (by assumption)⟩
    · have hlti : ¬ (k : Int) < (n : Int) := by omega
      repeat' (first | go_skip | go_guarded | go_step | go_upon)
      have HWR := hid hwr
      clear hwr f9 g9
      have hwr2 := HWR.out
      go_loopg [6] m (fun gg s6 wr => ∃ k : Nat, k ≤ m ∧ m - k ≤ gg ∧ s6 = .int .i64 k ∧ Below w2.heap.size w2 wr)
      case atStart => exact ⟨0, Nat.zero_le _, by omega, rfl, by assumption⟩
      case round =>
        obtain ⟨i, hi, hgi, rfl, hwr3⟩ := hrel
        have f12 := FX12 wr hwr3
        have g12 := FY12 wr hwr3
        have GR : Below wr.heap.size wr wr := Below.refl _ _
        by_cases him : i < m
        · have himi : (i : Int) < (m : Int) := by omega
          have hi0 : (0 : Int) ≤ (i : Int) := by omega
          obtain ⟨y, hy⟩ := get_some (l := hs) (k := i) (by have := M.out; omega)
          obtain ⟨b, off, rfl, hb, hc⟩ := C2.out (by omega)
          obtain ⟨b4, off4, rfl, hb4, hc4⟩ := C4.out (by omega)
          have uL : ∀ u : Later wr.heap.size wr, Sem.run P (loadCellsFrom ⟨b, off + i * zHop, none⟩ 0 zHop #[]) u.w = .ok (eHp y).toArray u.w := fun u => by
            rw [ZH.out]; exact ld_row (f := eHp) (z := 2) P (fun _ => rfl) (fun j v hj => ((then_ Hw2.out (then_ hwr3 u.h)).cell (p := ⟨b, off + j, none⟩) hb).trans (hc j v hj)) hy
          have uM : ∀ u : Later wr.heap.size wr, Sem.run P (loadCellsFrom ⟨b4, off4 + i * zHop, none⟩ 0 zHop #[]) u.w = .ok (eHp y).toArray u.w := fun u => by
            rw [ZH.out]; exact ld_row (f := eHp) (z := 2) P (fun _ => rfl) (fun j v hj => ((then_ Hw2.out (then_ hwr3 u.h)).cell (p := ⟨b4, off4 + j, none⟩) hb4).trans (hc4 j v hj)) hy
          have u12 := fun u : Later wr.heap.size wr => FX12 u.w (then_ hwr3 u.h)
          have v12 := fun u : Later wr.heap.size wr => FY12 u.w (then_ hwr3 u.h)
          have hEy := fun wx => hEh y wx
          obtain ⟨V, hV⟩ : ∃ V, V = (eHp y).toArray := ⟨_, rfl⟩
          rw [← hV] at uL uM hEy
          clear hV hy hc hc4
          repeat' (first | go_skip | go_guarded | go_step | go_upon)
          refine wp_region_base wr (by assumption) (by first | assumption | kernel_rfl) (by kernel_rfl) ?_
          repeat (go_big_quiet_step (first | fail))
          refine wpQuiet_nil ?_
          rintro _ ⟨u, rfl⟩
          have bu := u.h
          repeat' (first | go_skip | go_guarded | go_step | go_upon)
          go_roundg (m - (i + 1))
          case measure => omega
          case rel => exact ⟨i + 1, by omega, by omega, by go_num, then_ hwr3 (by assumption)⟩
        · have himi : ¬ (i : Int) < (m : Int) := by omega
          repeat' (first | go_skip | go_guarded | go_step | go_upon)
          go_ret
          exact ⟨rfl, then_ Hw2.out hwr3⟩

theorem sameC (x y : Rte) (w : World) (hx : RteIn w x) (hy : RteIn w y) (hl : Like x y) :
    Calls Try.prog 24 #[.agg (eRte x).toArray, .agg (eRte y).toArray] w fun e w' => e = .returned (.bool true) ∧ Below w.heap.size w w' := by
  have e : y = { x with vPath := y.vPath, vHops := y.vHops } := by
    obtain ⟨h1, h2, h3, h4, h5, h6, h7, h8, h9, h10, h11, h12, h13⟩ := hl
    cases x; cases y; simp_all
  rw [e]
  exact same0 x y.vPath y.vHops w hx (by have := hy.path; rwa [← hl.path] at this) (by have := hy.hops; rwa [← hl.hops] at this)
end Go.Proofs.Ytlhbfpapmolohaa.Mw

/-
  WHAT A VALID ROUTER'S MAPS ARE, AND WHAT APPLYING A MAP TWICE GIVES: PLAIN.
-/
namespace Go.Proofs.Ytlhbfpapmolohaa.Mw
set_option linter.unusedSimpArgs false
set_option linter.unusedVariables false
open Go.RowKit Kt Mm Mp Am

theorem orE_zero : ∀ {l : List Int}, orE l = 0 → ∀ e ∈ l, e = 0
  | [], _, e, he => by cases he
  | x :: l, h, e, he => by
    unfold orE at h
    by_cases hx : x = 0
    · rw [if_pos hx] at h
      rcases List.mem_cons.1 he with rfl | he
      · exact hx
      · exact orE_zero h e he
    · rw [if_neg hx] at h; exact absurd h hx
theorem few_maps {r : Rtr} (h : rtrE (partR r) = 0) : mapsE r.lists r.maps = 0 := orE_zero h _ (by show mapsE r.lists r.maps ∈ checks (partR r); unfold checks; simp [partR])
theorem few_each {r : Rtr} (h : rtrE (partR r) = 0) {j : Nat} {m : RMap} (hj : r.maps[j]? = some m) : headE m.name ((r.maps.take j).any fun y => y.name.toList == m.name.toList) m.clauses.length = 0 ∧ ∀ (i : Nat) (c : Cla), m.clauses[i]? = some c → claE r.lists c = 0 := by
  have h1 := (eachE_ok.1 (few_maps h)).2 j m hj
  unfold rmapE thenE at h1
  split at h1
  next h0 => exact ⟨h0, (eachE_ok.1 h1).2⟩
  next h0 => exact absurd h1 h0
theorem few_named {r : Rtr} (h : rtrE (partR r) = 0) {j : Nat} {m : RMap} (hj : r.maps[j]? = some m) : m.name.toList.isEmpty = false ∧ clsOf r.maps m.name = m.clauses := by
  obtain ⟨h1, h2⟩ := few_each h hj
  unfold headE at h1
  split at h1
  · simp at h1
  next hn =>
    split at h1
    · simp at h1
    next ht =>
      constructor
      · cases he : m.name.toList.isEmpty with
        | false => rfl
        | true =>
          exfalso
          have e2 : m.name.data.toList = [] := by rw [← Lib.toList_data]; simpa using he
          apply hn
          unfold nmB; rw [e2]; rfl
      · have hf : r.maps.find? (fun x => x.name.toList == m.name.toList) = some m := by
          rw [List.find?_eq_some_iff_getElem]
          refine ⟨by simp, j, (List.getElem?_eq_some_iff.1 hj).1, (List.getElem?_eq_some_iff.1 hj).2, fun i hi => ?_⟩
          cases hq : (r.maps[i]'(by have := (List.getElem?_eq_some_iff.1 hj).1; omega)).name.toList == m.name.toList with
          | false => rfl
          | true =>
            exfalso
            apply ht
            rw [List.any_eq_true]
            refine ⟨r.maps[i]'(by have := (List.getElem?_eq_some_iff.1 hj).1; omega), ?_, hq⟩
            rw [List.mem_take_iff_getElem]
            exact ⟨i, by have := (List.getElem?_eq_some_iff.1 hj).1; omega, rfl⟩
        unfold clsOf; rw [hf]
theorem few_cla {r : Rtr} (h : rtrE (partR r) = 0) (s : ByteArray) : ∀ c ∈ clsOf r.maps s, claOk c = true := by
  intro c hc
  unfold clsOf at hc
  split at hc
  · cases hc
  next m hm =>
    obtain ⟨j, hj⟩ := List.getElem?_of_mem (List.mem_of_find?_eq_some hm)
    obtain ⟨i, hi⟩ := List.getElem?_of_mem hc
    have := (few_each h hj).2 i c hi
    unfold claE at this
    split at this
    · simp at this
    · split at this
      · simp at this
      next h0 => simpa using h0

theorem keep_cases (ls : List PList) (ms : List RMap) (s : ByteArray) (x : Rte) (hs : s.toList.isEmpty = false) :
    appO ls ms s x = none ∨ ∃ (c : Cla) (j : Nat), appO ls ms s x = some (setC x c) ∧ clI ls ms s x.pfx x.tag = (j : Int) ∧ j < (clsOf ms s).length ∧ ∀ t, clI ls ms s x.pfx t = (j : Int) → permC ls ms s x.pfx t = some c := by
  rw [app_perm hs]
  rcases ix_find (p := cmB ls x.pfx x.tag) (clsOf ms s) with ⟨h1, h2⟩ | ⟨j, c, h1, h2, h3, h4, h5⟩
  · left; unfold permC; rw [h2]
  · cases hp : c.permit with
    | false => left; unfold permC; rw [h3]; simp [hp]
    | true =>
      right
      refine ⟨c, j, ?_, h1, h5, ?_⟩
      · unfold permC; rw [h3]; simp [hp]
      · intro t ht
        rcases ix_find (p := cmB ls x.pfx t) (clsOf ms s) with ⟨g1, g2⟩ | ⟨i, d, g1, g2, g3, g4, g5⟩
        · unfold clI at ht; rw [g1] at ht; omega
        · unfold clI at ht; rw [g1] at ht
          have : i = j := by omega
          subst this
          rw [h2] at g2; injection g2 with g2; subst g2
          unfold permC; rw [g3]; simp [hp]
theorem rep_rep (a s : Int) : repI (repI a s) s = repI a s := by unfold repI; split <;> simp_all
theorem like_again {x y v : Rte} {c : Cla} (h : Like (setC x c) y) (h2 : Like (setC y c) v) : Like v y := by
  obtain ⟨a1, a2, a3, a4, a5, a6, a7, a8, a9, a10, a11, a12, a13⟩ := h
  obtain ⟨b1, b2, b3, b4, b5, b6, b7, b8, b9, b10, b11, b12, b13⟩ := h2
  simp only [setC] at a5 a7 a8 b1 b2 b3 b4 b5 b6 b7 b8 b9 b10 b11 b12 b13
  exact ⟨b1.symm, b2.symm, b3.symm, b4.symm, by rw [← b5, ← a5, rep_rep], b6.symm, by rw [← b7, ← a7, rep_rep], by rw [← b8, ← a8, rep_rep], b9.symm, b10.symm, b11.symm, b12.symm, b13.symm⟩
theorem like_back {x y : Rte} {c : Cla} (h : Like (setC x c) y) : Like { y with metric := x.metric, tag := x.tag, pref := x.pref } x := by
  obtain ⟨a1, a2, a3, a4, a5, a6, a7, a8, a9, a10, a11, a12, a13⟩ := h
  exact ⟨a1.symm, a2.symm, a3.symm, a4.symm, rfl, a6.symm, rfl, rfl, a9.symm, a10.symm, a11.symm, a12.symm, a13.symm⟩
theorem Like.symm {x y : Rte} (h : Like x y) : Like y x := by
  obtain ⟨a1, a2, a3, a4, a5, a6, a7, a8, a9, a10, a11, a12, a13⟩ := h
  exact ⟨a1.symm, a2.symm, a3.symm, a4.symm, a5.symm, a6.symm, a7.symm, a8.symm, a9.symm, a10.symm, a11.symm, a12.symm, a13.symm⟩
/-- A route that Apply handed back changed: the index of the clause for it is a number of the list's. -/
theorem clI_cases (ls : List PList) (ms : List RMap) (s : ByteArray) (p : Pfx) (t : Int) : clI ls ms s p t = -1 ∨ ∃ j : Nat, clI ls ms s p t = (j : Int) ∧ j < (clsOf ms s).length := by
  rcases ix_find (p := cmB ls p t) (clsOf ms s) with ⟨h1, h2⟩ | ⟨j, c, h1, h2, h3, h4, h5⟩
  · exact .inl h1
  · exact .inr ⟨j, h1, h5⟩
end Go.Proofs.Ytlhbfpapmolohaa.Mw

/-
  THE WALK OF THE LAW PolicyKeeps.
-/
namespace Go.Proofs.Ytlhbfpapmolohaa.Mw
set_option linter.unusedSimpArgs false
set_option linter.unusedVariables false
open Go.RowKit Kt Mm Mp Am

noncomputable def PP : Program := Try.prog

set_option maxHeartbeats 400000000 in
set_option maxRecDepth 8000 in
theorem walkPolicyKeeps (r : Rtr) (k : Int) (x : Rte) (W : World) (hr : RtrIn W r) (hx : RteIn W x) :
    Calls Try.prog 6 #[.agg (eRtr r).toArray, .int .i64 k, .agg (eRte x).toArray] W fun e w' => e = .returned (.bool true) ∧ Below W.heap.size W w' := by
  have hSn := fun wx => plSane wx
  have hV : ∀ wx, Calls Try.prog 9 #[.agg #[.int .u32 (x.pfx.addr : Int), .int .i64 x.pfx.len]] wx fun e w' => e = .returned (.bool (vPf x.pfx)) ∧ Below wx.heap.size wx w' := fun wx => Ad.refValid x.pfx.addr x.pfx.len wx hx.pfxA
  obtain ⟨aP, capP, hvP, hcapP, -⟩ := rows_open (z := 1) (by decide) hx.path.row
  obtain ⟨aH, capH, hvH, hcapH, -⟩ := rows_open (z := 2) (by decide) hx.hops.row
  obtain ⟨X, hX⟩ : ∃ X, X = (eRtr r).toArray := ⟨_, rfl⟩
  obtain ⟨Y, hY⟩ : ∃ Y, Y = (eRte x).toArray := ⟨_, rfl⟩
  obtain ⟨w2, hw2⟩ : ∃ w2, (W.alloc (.cells X 55)).alloc (.cells Y 62) = w2 := ⟨_, rfl⟩
  have hhX : w2.heap[W.heap.size]? = some (.cells X 55 (0, 0)) := by rw [← hw2, Below.heap_alloc _ _ _ (by simp), heap_new]
  have hhY : w2.heap[W.heap.size + 1]? = some (.cells Y 62 (0, 0)) := by rw [← hw2]; have h := heap_new (W.alloc (.cells X 55)) (.cells Y 62 (0, 0)); rwa [new_size] at h
  have KX : ∀ v : World, Below w2.heap.size w2 v → v.heap[W.heap.size]? = some (.cells X 55 (0, 0)) := fun v h => blk_keep hhX h
  have FX4 : ∀ v : World, Below w2.heap.size w2 v → v.cell? ⟨W.heap.size, 4, none⟩ = some (r.vMaps) := fun v h => box_at (blk_keep hhX h) (by rw [hX]; rfl)
  have KY : ∀ v : World, Below w2.heap.size w2 v → v.heap[W.heap.size + 1]? = some (.cells Y 62 (0, 0)) := fun v h => blk_keep hhY h
  have FY0 : ∀ v : World, Below w2.heap.size w2 v → v.cell? ⟨W.heap.size + 1, 0, none⟩ = some (.int .u32 (x.pfx.addr : Int)) := fun v h => box_at (blk_keep hhY h) (by rw [hY]; rfl)
  have FY1 : ∀ v : World, Below w2.heap.size w2 v → v.cell? ⟨W.heap.size + 1, 1, none⟩ = some (.int .i64 x.pfx.len) := fun v h => box_at (blk_keep hhY h) (by rw [hY]; rfl)
  have FY9 : ∀ v : World, Below w2.heap.size w2 v → v.cell? ⟨W.heap.size + 1, 9, none⟩ = some (x.vPath) := fun v h => box_at (blk_keep hhY h) (by rw [hY]; rfl)
  have FY12 : ∀ v : World, Below w2.heap.size w2 v → v.cell? ⟨W.heap.size + 1, 12, none⟩ = some (x.vHops) := fun v h => box_at (blk_keep hhY h) (by rw [hY]; rfl)
  have Gw2 : Below w2.heap.size w2 w2 := Below.refl _ _
  have Hw2 := hid (show Below W.heap.size W w2 by rw [← hw2]; exact al2 _ _ _)
  have hX' := hid hX
  have hY' := hid hY
  try rw [← hX]
  try rw [← hY]
  clear hX hY hhX hhY
  have hXs : X.size = 25 := by rw [hX'.out]; rfl
  have hYs : Y.size = 14 := by rw [hY'.out]; rfl
  have y5 : Y[5]? = some (.int .i64 x.metric) := by rw [hY'.out]; rfl
  have y7 : Y[7]? = some (.int .i64 x.tag) := by rw [hY'.out]; rfl
  have y8 : Y[8]? = some (.int .i64 x.pref) := by rw [hY'.out]; rfl
  have HR0 := hid hr
  have HX0 := hid hx
  have HR := hid (hr.keep Hw2.out)
  have hF := fun wx (h : Below w2.heap.size w2 wx) => fewC r wx (HR.out.keep h)
  have hPa := fun wx (h : Below w2.heap.size w2 wx) => partC r wx (HR.out.keep h)
  rw [← hX'.out] at hF hPa
  obtain ⟨Z, hZ⟩ : ∃ Z, Z = (eRtr (partR r)).toArray := ⟨_, rfl⟩
  have Z1 := hid (show Z.all (·.oneCell') = true by rw [hZ]; exact eRtr_one (part_in HR.out))
  have hZs : Z.size = 25 := by rw [hZ]; rfl
  have z4 : Z[4]? = some r.vMaps := by rw [hZ]; rfl
  rw [← hZ] at hPa
  obtain ⟨vp, hvp⟩ : ∃ q, q = vPf x.pfx := ⟨_, rfl⟩
  rw [← hvp] at hV
  obtain ⟨aM, capM, hvM, hcapM, hcM⟩ := rows_open (z := 2) (by decide) hr.maps.row
  have lenM := hr.maps.len
  obtain ⟨n, hn⟩ : ∃ n, n = r.maps.length := ⟨_, rfl⟩
  rw [← hn] at hvM hcapM hcM lenM
  rw [hvM] at z4 FX4
  rw [hvP] at FY9
  rw [hvH] at FY12
  obtain ⟨np, hnp⟩ : ∃ n, n = x.path.length := ⟨_, rfl⟩
  obtain ⟨nh, hnh⟩ : ∃ n, n = x.hops.length := ⟨_, rfl⟩
  rw [← hnp] at FY9 hcapP
  rw [← hnh] at FY12 hcapH
  have lenP := hx.path.len
  have lenH := hx.hops.len
  rw [← hnp] at lenP
  rw [← hnh] at lenH
  have N := hid hn
  have NP := hid hnp
  have NH := hid hnh
  have HM := hid hcM
  have ZZ := hid hZ
  have MR := hid (fun m (h : m ∈ r.maps) => hr.mapsR m h)
  have hA1 := fun (s : ByteArray) wx (h : RtrIn wx (partR r)) (h2 : RteIn wx x) (g1 : x.path.length ≤ 1000000000) (g2 : x.hops.length ≤ 1000000000) => plApply (partR r) s x wx h h2 g1 g2
  have hA2 := fun (s : ByteArray) (y : Rte) wx (h : RtrIn wx (partR r)) (h2 : RteIn wx y) (g1 : y.path.length ≤ 1000000000) (g2 : y.hops.length ≤ 1000000000) => plApply (partR r) s y wx h h2 g1 g2
  have hC1 := fun (s : ByteArray) wx (h : RtrIn wx (partR r)) => plClause (partR r) s x wx h HX0.out.pfxA
  have hC2 := fun (s : ByteArray) (y : Rte) wx (h : RtrIn wx (partR r)) (h2 : low y.pfx.addr) => plClause (partR r) s y wx h h2
  have hS := fun (a b : Rte) wx (h1 : RteIn wx a) (h2 : RteIn wx b) (h3 : Like a b) => sameC a b wx h1 h2 h3
  rw [← hZ] at hA1 hA2 hC1 hC2
  rw [← hY'.out] at hA1 hC1
  clear hcM hn hvM hZ hr hx hvp hvP hvH hnp hnh
  have hP : PP = Try.prog := rfl
  have HP := hid hP
  have mixed : PP.follows .mixedOrders = true := by rw [hP]; kernel_rfl
  have FG : PP.funcs[6]? = some Try.f6 := by rw [hP]; exact Try.func6
  obtain ⟨zRouter, hzRouter⟩ : ∃ z, z = 25 := ⟨_, rfl⟩
  have nzRouter : ¬ zRouter = 0 := by omega
  obtain ⟨zRouteMap, hzRouteMap⟩ : ∃ z, z = 2 := ⟨_, rfl⟩
  have nzRouteMap : ¬ zRouteMap = 0 := by omega
  obtain ⟨zRoute, hzRoute⟩ : ∃ z, z = 14 := ⟨_, rfl⟩
  have nzRoute : ¬ zRoute = 0 := by omega
  have ty3 := Try.underlying3; have ag3 := Try.isAgg3; have sz3 := Try.sizeOf3; have ru3 := Try.runUnderlying3
  have ty4 := Try.underlying4; have ag4 := Try.isAgg4; have sz4 := Try.sizeOf4; have ru4 := Try.runUnderlying4
  have ty9 := Try.underlying9; have ag9 := Try.isAgg9; have sz9 := Try.sizeOf9; have ru9 := Try.runUnderlying9
  have ty27 := Try.underlying27; have ag27 := Try.isAgg27; have sz27 := Try.sizeOf27; have ru27 := Try.runUnderlying27
  have ty38 := Try.underlying38; have ag38 := Try.isAgg38; have sz38 := Try.sizeOf38; have ru38 := Try.runUnderlying38
  have ty55 := Try.underlying55; have ag55 := Try.isAgg55; have sz55 := Try.sizeOf55; have ru55 := Try.runUnderlying55
  rw [← hzRouter] at sz55
  have ty59 := Try.underlying59; have ag59 := Try.isAgg59; have sz59 := Try.sizeOf59; have ru59 := Try.runUnderlying59
  have ty60 := Try.underlying60; have ag60 := Try.isAgg60; have sz60 := Try.sizeOf60; have ru60 := Try.runUnderlying60
  have ty62 := Try.underlying62; have ag62 := Try.isAgg62; have sz62 := Try.sizeOf62; have ru62 := Try.runUnderlying62
  rw [← hzRoute] at sz62
  have zeRoute := Try.zeroValue62
  have ty63 := Try.underlying63; have ag63 := Try.isAgg63; have sz63 := Try.sizeOf63; have ru63 := Try.runUnderlying63
  have ty65 := Try.underlying65; have ag65 := Try.isAgg65; have sz65 := Try.sizeOf65; have ru65 := Try.runUnderlying65
  rw [← hzRouteMap] at sz65
  have en0 : ∀ args w, (callFunc 24 args).run Try.prog w = .ok (.enter 24 args) w := enters_of Try.func24 (by kernel_rfl) rfl
  have en1 : ∀ args w, (callFunc 16 args).run Try.prog w = .ok (.enter 16 args) w := enters_of Try.func16 (by kernel_rfl) rfl
  have en2 : ∀ args w, (callFunc 17 args).run Try.prog w = .ok (.enter 17 args) w := enters_of Try.func17 (by kernel_rfl) rfl
  have en3 : ∀ args w, (callFunc 15 args).run Try.prog w = .ok (.enter 15 args) w := enters_of Try.func15 (by kernel_rfl) rfl
  have en4 : ∀ args w, (callFunc 9 args).run Try.prog w = .ok (.enter 9 args) w := enters_of Try.func9 (by kernel_rfl) rfl
  have en5 : ∀ args w, (callFunc 20 args).run Try.prog w = .ok (.enter 20 args) w := enters_of Try.func20 (by kernel_rfl) rfl
  have en6 : ∀ args w, (callFunc 22 args).run Try.prog w = .ok (.enter 22 args) w := enters_of Try.func22 (by kernel_rfl) rfl
  rw [← hP] at ty3 ag3 sz3 ru3 ty4 ag4 sz4 ru4 ty9 ag9 sz9 ru9 ty27 ag27 sz27 ru27 ty38 ag38 sz38 ru38 ty55 ag55 sz55 ru55 ty59 ag59 sz59 ru59 ty60 ag60 sz60 ru60 ty62 ag62 sz62 ru62 zeRoute ty63 ag63 sz63 ru63 ty65 ag65 sz65 ru65 en0 en1 en2 en3 en4 en5 en6 hSn hV hF hPa hA1 hA2 hC1 hC2 hS ⊢
  clear hP
  have KX2 := KX
  have KY2 := KY
  have LX : ∀ v : World, Below w2.heap.size w2 v → Sem.run PP (loadCellsFrom ⟨W.heap.size, 0, none⟩ 0 zRouter #[]) v = .ok X v := fun v h => ld_box PP (KX v h) (by rw [hzRouter]; exact hXs)
  have LY : ∀ v : World, Below w2.heap.size w2 v → Sem.run PP (loadCellsFrom ⟨W.heap.size + 1, 0, none⟩ 0 zRoute #[]) v = .ok Y v := fun v h => ld_box PP (KY v h) (by rw [hzRoute]; exact hYs)
  have ZR := hid hzRouter
  have ZM := hid hzRouteMap
  have ZT := hid hzRoute
  have SZ : ∀ v, (sizeOf 55).run PP v = .ok Z.size v := fun v => by rw [hZs, ← ZR.out]; exact sz55 v
  have ST : ∀ {A : Array Value}, A.size = 14 → ∀ v, (sizeOf 62).run PP v = .ok A.size v := fun h v => by rw [h, ← ZT.out]; exact sz62 v
  have zU : ∀ v, (sizeOf 25).run PP v = .ok 1 v := fun v => by rw [HP.out]; exact Try.sizeOf25 v
  clear hzRouter hzRouteMap hzRoute KX KY
  go_enter FG, Try.ntmps6
  repeat' ((fail_if_success (with_reducible show Hid _)); (first | (go_at_call 16; with_reducible refine (hF _ (by assumption)).mono ?_; rintro e wf ⟨⟨fb, rfl, hfb⟩, bf⟩; refine stopP ?_) | go_skip | go_big_skip | go_big_want | go_big_guard | go_step | go_upon))
  refine hid ?_
  dsimp only
  have bf2 := bf
  have HFB := hid hfb
  clear hfb hF
  cases fb
  case false =>
    repeat' (first | go_skip | go_big_skip | go_big_want | go_big_guard | go_step | go_upon)
    go_ret
    exact ⟨rfl, then_ Hw2.out bf⟩
  by_cases hk0 : k < 0
  · repeat' (first | go_skip | go_big_skip | go_big_want | go_big_guard | go_step | go_upon)
    go_ret
    exact ⟨rfl, then_ Hw2.out bf⟩
  obtain ⟨kn, rfl⟩ : ∃ q : Nat, k = (q : Int) := ⟨k.toNat, by omega⟩
  have f4 := FX4 wf bf
  by_cases hkn : n ≤ kn
  · have hkni : (n : Int) ≤ (kn : Int) := by omega
    repeat' (first | go_skip | go_big_skip | go_big_want | go_big_guard | go_step | go_upon)
    go_ret
    exact ⟨rfl, then_ Hw2.out bf⟩
  have hkni : ¬ (n : Int) ≤ (kn : Int) := by omega
  cases vp
  case false =>
    repeat' (first | (go_at_call 9; with_reducible refine (hV _).mono ?_; rintro e w' ⟨rfl, b⟩; have b' := then_ (w := w2) (by assumption) b; clear b; try dsimp only) | go_skip | go_big_skip | go_big_want | go_big_guard | go_step | go_upon)
    go_ret
    exact ⟨rfl, then_ Hw2.out (by assumption)⟩
  by_cases hp40 : 40 < np
  · have hp40i : (40 : Int) < (np : Int) := by omega
    repeat' (first | (go_at_call 9; with_reducible refine (hV _).mono ?_; rintro e w' ⟨rfl, b⟩; have b' := then_ (w := w2) (by assumption) b; clear b; try dsimp only) | go_skip | go_big_skip | go_big_want | go_big_guard | go_step | go_upon)
    go_ret
    exact ⟨rfl, then_ Hw2.out (by assumption)⟩
  have hp40i : ¬ (40 : Int) < (np : Int) := by omega
  by_cases hh40 : 40 < nh
  · have hh40i : (40 : Int) < (nh : Int) := by omega
    repeat' (first | (go_at_call 9; with_reducible refine (hV _).mono ?_; rintro e w' ⟨rfl, b⟩; have b' := then_ (w := w2) (by assumption) b; clear b; try dsimp only) | go_skip | go_big_skip | go_big_want | go_big_guard | go_step | go_upon)
    go_ret
    exact ⟨rfl, then_ Hw2.out (by assumption)⟩
  have hh40i : ¬ (40 : Int) < (nh : Int) := by omega
  repeat' ((fail_if_success (with_reducible show Hid _)); (first | (go_at_call 9; with_reducible refine (hV _).mono ?_; rintro e w' ⟨rfl, b⟩; have b' := then_ (w := w2) (by assumption) b; clear b; try dsimp only) | (go_at_call 17; with_reducible refine (hPa _ (by assumption)).mono ?_; rintro e wp ⟨rfl, bp⟩; refine stopP ?_) | go_skip | go_big_skip | go_big_want | go_big_guard | go_step | go_upon))
  refine hid ?_
  dsimp only
  have bp2 : Below w2.heap.size w2 wp := then_ (by assumption) bp
  have Kp := KX2 wp bp2
  clear hPa hV KX2 LX FX4 f4
  repeat' ((fail_if_success (with_reducible show Hid _)); (first | ((with_reducible show Oper.wp _ ⟨_, .store 55 _ _, _, _, _, _⟩ _ _ _ _); refine stopP ?_) | go_skip | go_guarded | go_step | go_upon))
  refine hid ?_
  refine wp_store_box (w := wp) 55 _ _ (by rfl) (g := W.heap.size) (cur := X) (X := Z) (by rfl) (by rfl) SZ Kp (by rw [hXs, hZs]) Z1.out ?_
  intro w4 h1 h2 h3
  have HW := hid ((then_ Hw2.out bp2).trans (h3 W.heap.size (Nat.le_refl _)))
  have s2 : w2.heap.size = W.heap.size + 2 := by rw [← hw2, new_size, new_size]
  have s4 := hid (show w2.heap.size ≤ w4.heap.size from Nat.le_trans bp2.size (h3 W.heap.size (Nat.le_refl _)).size)
  have G4 : Below w4.heap.size w4 w4 := Below.refl _ _
  have LZ : ∀ v : World, Below w4.heap.size w4 v → Sem.run PP (loadCellsFrom ⟨W.heap.size, 0, none⟩ 0 zRouter #[]) v = .ok Z v := fun v h => ld_box PP (blk_keep h1 h) (by rw [ZR.out]; exact hZs)
  have FZ4 : ∀ v : World, Below w4.heap.size w4 v → v.cell? ⟨W.heap.size, 4, none⟩ = some (.slice aM n capM) := fun v h => box_at (blk_keep h1 h) z4
  have KY4 := hid (show w4.heap[W.heap.size + 1]? = some (.cells Y 62 (0, 0)) by rw [h2 _ (by omega)]; exact KY2 wp bp2)
  have LY4 : ∀ v : World, Below w4.heap.size w4 v → Sem.run PP (loadCellsFrom ⟨W.heap.size + 1, 0, none⟩ 0 zRoute #[]) v = .ok Y v := fun v h => ld_box PP (blk_keep KY4.out h) (by rw [ZT.out]; exact hYs)
  have RI := hid (fun wx (h : Below w4.heap.size w4 wx) => part_in (HR0.out.keep (then_ HW.out h)))
  have XI := hid (fun wx (h : Below w4.heap.size w4 wx) => HX0.out.keep (then_ HW.out h))
  clear h1 h2 h3 Kp FY0 FY1 FY9 FY12 bf bp bp2 bf2 LY KY2 hXs hZs SZ z4
  dsimp only [Act.put]
  obtain ⟨m, hm⟩ := get_some (l := r.maps) (k := kn) (by have := N.out; omega)
  obtain ⟨b, off, rfl, hb, hc⟩ := HM.out (by omega)
  have HB := hid hb
  have HN := hid (few_named (HFB.out rfl) hm)
  have mv := hid (MR.out m (get_mem hm))
  have hkn0 : (0 : Int) ≤ (kn : Int) := by omega
  have hknl : (kn : Int) < (n : Int) := by omega
  obtain ⟨aC, capC, hvC, hcapC, -⟩ := rows_open (z := 7) (by decide) mv.out.row
  have lenC := mv.out.len
  obtain ⟨q, hq⟩ : ∃ q, q = m.clauses.length := ⟨_, rfl⟩
  rw [← hq] at hvC hcapC lenC
  have Q := hid (show q = (clsOf r.maps m.name).length by rw [HN.out.2, hq])
  have FC : ∀ v : World, Below w4.heap.size w4 v → v.cell? ⟨b, off + kn * zRouteMap + 1, none⟩ = some (.slice aC q capC) := fun v h => by
    rw [ZM.out, ← hvC]; exact ((then_ HW.out h).cell (p := ⟨b, off + kn * 2 + 1, none⟩) hb).trans (row_cells (f := eRMap) (z := 2) (fun _ => rfl) hc hm 1 _ rfl)
  clear hvC hq
  have FN : ∀ v : World, Below w4.heap.size w4 v → v.cell? ⟨b, off + kn * zRouteMap, none⟩ = some (.string m.name) := fun v h => by
    rw [ZM.out]; exact ((then_ HW.out h).cell (p := ⟨b, off + kn * 2, none⟩) hb).trans (row_cells (f := eRMap) (z := 2) (fun _ => rfl) hc hm 0 _ rfl)
  have pl : x.path.length ≤ 1000000000 := by have := NP.out; omega
  have hl : x.hops.length ≤ 1000000000 := by have := NH.out; omega
  have cA : ∀ wx, Below w4.heap.size w4 wx → Calls PP 20 #[.agg Z, .string m.name, .agg Y] wx (AppPost (appO r.lists r.maps m.name x) wx) := fun wx h => hA1 m.name wx (RI.out wx h) (XI.out wx h) pl hl
  have cC : ∀ wx, Below w4.heap.size w4 wx → Calls PP 22 #[.agg Z, .string m.name, .agg Y] wx fun e w' => e = .returned (.int .i64 (clI r.lists r.maps m.name x.pfx x.tag)) ∧ Below wx.heap.size wx w' := fun wx h => hC1 m.name wx (RI.out wx h)
  have cA2 : ∀ (y : Rte) wx, Below w4.heap.size w4 wx → RteIn wx y → y.path.length ≤ 1000000000 → y.hops.length ≤ 1000000000 → Calls PP 20 #[.agg Z, .string m.name, .agg (eRte y).toArray] wx (AppPost (appO r.lists r.maps m.name y) wx) := fun y wx h h2 g1 g2 => hA2 m.name y wx (RI.out wx h) h2 g1 g2
  have cC2 : ∀ (y : Rte) wx, Below w4.heap.size w4 wx → low y.pfx.addr → Calls PP 22 #[.agg Z, .string m.name, .agg (eRte y).toArray] wx fun e w' => e = .returned (.int .i64 (clI r.lists r.maps m.name y.pfx y.tag)) ∧ Below wx.heap.size wx w' := fun y wx h h2 => hC2 m.name y wx (RI.out wx h) h2
  have KC := hid (keep_cases r.lists r.maps m.name x HN.out.1)
  have CL := hid HN.out.2
  obtain ⟨s, hs⟩ : ∃ s, s = m.name := ⟨_, rfl⟩
  rw [← hs] at FN cA cC cA2 cC2 KC CL Q
  have NM := hid (show s.toList.isEmpty = false by rw [hs]; exact HN.out.1)
  have PL := hid pl
  have HL := hid hl
  clear hA1 hA2 hC1 hC2 hc hm HN hs hb RI pl hl N HM MR HFB hk0 hkn hp40 hh40
  obtain ⟨O, hO⟩ : ∃ O, O = appO r.lists r.maps s x := ⟨_, rfl⟩
  rw [← hO] at cA KC
  have HO := hid hO
  clear hO
  rcases KC.out with h0 | ⟨c, j, h0, h0j, h0l, h0t⟩
  · rw [h0] at cA
    clear cC cA2 cC2 KC
    repeat' ((fail_if_success (with_reducible show Hid _)); (first | (go_at_call 20; refine (cA _ (by assumption)).mono ?_; rintro e wa ⟨y, rfl, ly, iy, ba⟩; refine stopP ?_) | go_skip | go_guarded | go_step | go_upon))
    refine hid ?_
    dsimp only
    obtain ⟨V, hV⟩ : ∃ V, V = (eRte y).toArray := ⟨_, rfl⟩
    have hVs : V.size = 14 := by rw [hV]; rfl
    have V1 := hid (show V.all (·.oneCell') = true by rw [hV]; exact eRte_one iy)
    rw [← hV]
    have IY := hid iy
    have LI := hid (Like.symm (show Like zeroRte y from ly))
    have BA := hid ba
    have HV := hid hV
    clear cA LY4 hV ly iy
    simp only [Option.isSome]
    repeat' ((fail_if_success (with_reducible show Hid _)); (first | ((with_reducible show Oper.wp _ ⟨_, .store 62 _ _, _, _, _, _⟩ _ _ _ _); refine stopP ?_) | go_skip | go_guarded | go_step | go_upon))
    refine hid ?_
    refine wp_store_box (w := wa.alloc (.cells zeroRt 62)) 62 _ _ (by rfl) (g := wa.heap.size) (cur := zeroRt) (X := V) (by rfl) (by rfl) (ST hVs) (heap_new _ _) (by rw [hVs]; rfl) V1.out ?_
    intro w6 h1 h2 h3
    have B6 := hid (show Below wa.heap.size wa w6 from (al1 wa _).trans (h3 _ (Nat.le_refl _)))
    have HB6 := hid (show Below w4.heap.size w4 w6 from then_ BA.out B6.out)
    have G6 : Below w6.heap.size w6 w6 := Below.refl _ _
    have LV : ∀ v : World, Below w6.heap.size w6 v → Sem.run PP (loadCellsFrom ⟨wa.heap.size, 0, none⟩ 0 zRoute #[]) v = .ok V v := fun v h => ld_box PP (blk_keep h1 h) (by rw [ZT.out]; exact hVs)
    have cS : ∀ wx, Below w6.heap.size w6 wx → Calls PP 24 #[.agg V, .agg #[.int .u32 0, .int .i64 0, .int .i64 0, .int .i64 0, .int .i64 0, .int .i64 0, .int .i64 0, .int .i64 0, .int .i64 0, .slice none 0 0, .int .u32 0, .int .u32 0, .slice none 0 0, .bool false]] wx fun e w' => e = .returned (.bool true) ∧ Below wx.heap.size wx w' := fun wx h => by
      have := hS y zeroRte wx (IY.out.keep (then_ B6.out h)) (zeroRte_in wx) LI.out
      rwa [← HV.out] at this
    obtain ⟨g6, hg6⟩ : ∃ g, g = wa.heap.size := ⟨_, rfl⟩
    rw [← hg6] at LV ⊢
    clear h1 h2 h3 hg6 hVs ba hS LZ FZ4 FN
    dsimp only [Act.put]
    repeat' (first | (go_at_call 24; with_reducible refine (cS _ (by assumption)).mono ?_; rintro e w' ⟨rfl, b⟩; have b' := then_ (w := w6) (by assumption) b; clear b; try dsimp only) | (go_at_call 15; with_reducible refine (hSn _).mono ?_; rintro e w' ⟨rfl, b⟩; have b' := then_ (w := w6) (by assumption) b; clear b; try dsimp only) | go_skip | go_guarded | go_step | go_upon)
    go_ret
    exact ⟨rfl, then_ HW.out (then_ HB6.out (by assumption))⟩
  · rw [h0] at cA
    clear KC
    repeat' ((fail_if_success (with_reducible show Hid _)); (first | (go_at_call 20; refine (cA _ (by assumption)).mono ?_; rintro e wa ⟨y, rfl, ly, iy, ba⟩; refine stopP ?_) | go_skip | go_guarded | go_step | go_upon))
    refine hid ?_
    dsimp only
    obtain ⟨V, hV⟩ : ∃ V, V = (eRte y).toArray := ⟨_, rfl⟩
    have hVs : V.size = 14 := by rw [hV]; rfl
    have V1 := hid (show V.all (·.oneCell') = true by rw [hV]; exact eRte_one iy)
    have v5 : V[5]? = some (.int .i64 y.metric) := by rw [hV]; rfl
    have v7 : V[7]? = some (.int .i64 y.tag) := by rw [hV]; rfl
    have v8 : V[8]? = some (.int .i64 y.pref) := by rw [hV]; rfl
    rw [← hV]
    have IY := hid iy
    have LI := hid (show Like (setC x c) y from ly)
    have BA := hid ba
    have HV := hid hV
    clear cA hV ly iy
    simp only [Option.isSome]
    repeat' ((fail_if_success (with_reducible show Hid _)); (first | ((with_reducible show Oper.wp _ ⟨_, .store 62 _ _, _, _, _, _⟩ _ _ _ _); refine stopP ?_) | go_skip | go_guarded | go_step | go_upon))
    refine hid ?_
    refine wp_store_box (w := wa.alloc (.cells zeroRt 62)) 62 _ _ (by rfl) (g := wa.heap.size) (cur := zeroRt) (X := V) (by rfl) (by rfl) (ST hVs) (heap_new _ _) (by rw [hVs]; rfl) V1.out ?_
    intro w6 h1 h2 h3
    have B6 := hid (show Below wa.heap.size wa w6 from (al1 wa _).trans (h3 _ (Nat.le_refl _)))
    have HB6 := hid (show Below w4.heap.size w4 w6 from then_ BA.out B6.out)
    have KV6 := hid h1
    have LV : ∀ v : World, Below w6.heap.size w6 v → Sem.run PP (loadCellsFrom ⟨wa.heap.size, 0, none⟩ 0 zRoute #[]) v = .ok V v := fun v h => ld_box PP (blk_keep h1 h) (by rw [ZT.out]; exact hVs)
    have lva := LV w6 (Below.refl _ _)
    have ga := hid (show w4.heap.size ≤ wa.heap.size from BA.out.size)
    have gb := hid (show wa.heap.size < w6.heap.size from blk_lt h1)
    have gc := hid (show W.heap.size + 1 < w4.heap.size by have := s4.out; omega)
    clear h1 h2 h3 ba
    dsimp only [Act.put]
    repeat' ((fail_if_success (with_reducible show Hid _)); (first | ((with_reducible show Oper.wp _ ⟨_, .store 62 _ _, _, _, _, _⟩ _ _ _ _); refine stopP ?_) | go_skip | go_guarded | go_step | go_upon))
    refine hid ?_
    refine wp_store_box (w := w6.alloc (.cells zeroRt 62)) 62 _ _ (by rfl) (g := w6.heap.size) (cur := zeroRt) (X := V) (by rfl) (by rfl) (ST hVs) (heap_new _ _) (by rw [hVs]; rfl) V1.out ?_
    intro w8 h1 h2 h3
    have B8 := hid (show Below w6.heap.size w6 w8 from (al1 w6 _).trans (h3 _ (Nat.le_refl _)))
    have KV8 := hid h1
    have KX8 := hid (show w8.heap[W.heap.size + 1]? = some (.cells Y 62 (0, 0)) from blk_keep KY4.out (then_ HB6.out B8.out))
    have hxz : W.heap.size + 1 < w6.heap.size := by have := ga.out; have := gb.out; have := gc.out; omega
    have b5 := box_at KX8.out y5
    have b7 := box_at KX8.out y7
    have b8 := box_at KX8.out y8
    have c5 : w8.cell? ⟨w6.heap.size, 5, none⟩ = some (.int .i64 y.metric) := by exact box_at h1 v5
    have c7 : w8.cell? ⟨w6.heap.size, 7, none⟩ = some (.int .i64 y.tag) := by exact box_at h1 v7
    have c8 : w8.cell? ⟨w6.heap.size, 8, none⟩ = some (.int .i64 y.pref) := by exact box_at h1 v8
    have r5 : w8.frozen? ⟨w6.heap.size, 5, none⟩ = false := by exact frz h1 5
    have r7 : w8.frozen? ⟨w6.heap.size, 7, none⟩ = false := by exact frz h1 7
    have r8 : w8.frozen? ⟨w6.heap.size, 8, none⟩ = false := by exact frz h1 8
    clear h1 h2 h3 lva y5 y7 y8 v5 v7 v8
    dsimp only [Act.put]
    repeat' (first | go_skip | go_guarded | go_step | go_upon)
    go_region
    obtain ⟨w9, hw9⟩ : ∃ v, (((w8.setCell ⟨w6.heap.size, 5, none⟩ (.int .i64 x.metric)).setCell ⟨w6.heap.size, 7, none⟩ (.int .i64 x.tag)).setCell ⟨w6.heap.size, 8, none⟩ (.int .i64 x.pref)).drew = v := ⟨_, rfl⟩
    rw [hw9]
    obtain ⟨U, hU⟩ : ∃ U, U = ((V.setIfInBounds 5 (.int .i64 x.metric)).setIfInBounds 7 (.int .i64 x.tag)).setIfInBounds 8 (.int .i64 x.pref) := ⟨_, rfl⟩
    have K9 : w9.heap[w6.heap.size]? = some (.cells U 62 (0, 0)) := by
      rw [← hw9, hU]
      exact Go.heap_setCell_same _ w6.heap.size 8 _ _ (.int .i64 x.pref) (Go.heap_setCell_same _ w6.heap.size 7 _ _ (.int .i64 x.tag) (Go.heap_setCell_same w8 w6.heap.size 5 _ _ (.int .i64 x.metric) KV8.out))
    have B9 := hid (show Below w6.heap.size w6 w9 by rw [← hw9]; exact Below.drew (((B8.out.setCell (Nat.le_refl _) _).setCell (Nat.le_refl _) _).setCell (Nat.le_refl _) _))
    obtain ⟨zz, hzz⟩ : ∃ q : Rte, q = { y with metric := x.metric, tag := x.tag, pref := x.pref } := ⟨_, rfl⟩
    have UV := hid (show U = (eRte zz).toArray by rw [hU, HV.out, hzz]; rfl)
    have hUs : U.size = 14 := by rw [UV.out]; rfl
    have HB9 := hid (then_ HB6.out B9.out)
    have BA9 := hid (show Below wa.heap.size wa w9 from then_ B6.out B9.out)
    have G9 : Below w9.heap.size w9 w9 := Below.refl _ _
    have LU : ∀ v : World, Below w9.heap.size w9 v → Sem.run PP (loadCellsFrom ⟨w6.heap.size, 0, none⟩ 0 zRoute #[]) v = .ok U v := fun v h => ld_box PP (blk_keep K9 h) (by rw [ZT.out]; exact hUs)
    have LV9 : ∀ v : World, Below w9.heap.size w9 v → Sem.run PP (loadCellsFrom ⟨wa.heap.size, 0, none⟩ 0 zRoute #[]) v = .ok V v := fun v h => LV v (then_ B9.out h)
    have LY9 : ∀ v : World, Below w9.heap.size w9 v → Sem.run PP (loadCellsFrom ⟨W.heap.size + 1, 0, none⟩ 0 zRoute #[]) v = .ok Y v := fun v h => LY4 v (then_ HB9.out h)
    have LZ9 : ∀ v : World, Below w9.heap.size w9 v → Sem.run PP (loadCellsFrom ⟨W.heap.size, 0, none⟩ 0 zRouter #[]) v = .ok Z v := fun v h => LZ v (then_ HB9.out h)
    have FZ9 : ∀ v : World, Below w9.heap.size w9 v → v.cell? ⟨W.heap.size, 4, none⟩ = some (.slice (some ⟨b, off, none⟩) n capM) := fun v h => FZ4 v (then_ HB9.out h)
    have FC9 : ∀ v : World, Below w9.heap.size w9 v → v.cell? ⟨b, off + kn * zRouteMap + 1, none⟩ = some (.slice aC q capC) := fun v h => FC v (then_ HB9.out h)
    have cS1 : ∀ wx, Below w9.heap.size w9 wx → Calls PP 24 #[.agg U, .agg Y] wx fun e w' => e = .returned (.bool true) ∧ Below wx.heap.size wx w' := fun wx h => by
      have := hS zz x wx (by have t := IY.out.keep (then_ BA9.out h); rw [hzz]; exact { t with }) (XI.out wx (then_ HB9.out h)) (by rw [hzz]; exact like_back LI.out)
      rwa [← UV.out, ← hY'.out] at this
    have cC9 : ∀ wx, Below w9.heap.size w9 wx → Calls PP 22 #[.agg Z, .string s, .agg Y] wx fun e w' => e = .returned (.int .i64 (j : Int)) ∧ Below wx.heap.size wx w' := fun wx h => by
      have := cC wx (then_ HB9.out h)
      rwa [h0j] at this
    have yp : y.pfx = x.pfx := LI.out.pfx.symm
    have cD : ∀ wx, Below w9.heap.size w9 wx → Calls PP 22 #[.agg Z, .string s, .agg V] wx fun e w' => e = .returned (.int .i64 (clI r.lists r.maps s x.pfx y.tag)) ∧ Below wx.heap.size wx w' := fun wx h => by
      have := cC2 y wx (then_ HB9.out h) IY.out.pfxA
      rwa [← HV.out, yp] at this
    have cA9 : ∀ wx, Below w9.heap.size w9 wx → Calls PP 20 #[.agg Z, .string s, .agg V] wx (AppPost (appO r.lists r.maps s y) wx) := fun wx h => by
      have := cA2 y wx (then_ HB9.out h) (IY.out.keep (then_ BA9.out h)) (by rw [← LI.out.path]; exact PL.out) (by rw [← LI.out.hops]; exact HL.out)
      rwa [← HV.out] at this
    have jq : (j : Int) < (q : Int) := by have := Q.out; omega
    have j0 : (0 : Int) ≤ (j : Int) := by omega
    clear hw9 K9 hU hzz LZ FZ4 FC FN LY4 LV cC cC2 cA2 b5 b7 b8 c5 c7 c8 r5 r7 r8 hUs hVs h0j h0l lenM lenP lenH lenC hcapM hcapP hcapH hcapC
    repeat' ((fail_if_success (with_reducible show Hid _)); (first | (go_at_call 24; with_reducible refine (cS1 _ (by assumption)).mono ?_; rintro e w' ⟨rfl, b⟩; have b' := then_ (w := w9) (by assumption) b; clear b; try dsimp only) | (go_at_call 22; refine (cC9 _ (by assumption)).mono ?_; rintro e wc ⟨rfl, bc⟩; refine stopP ?_) | go_skip | go_guarded | go_step | go_upon))
    refine hid ?_
    dsimp only
    have bc9 : Below w9.heap.size w9 wc := then_ (by assumption) bc
    clear cS1 cC9 LU LY9
    obtain ⟨i2, hi2⟩ : ∃ q, q = clI r.lists r.maps s x.pfx y.tag := ⟨_, rfl⟩
    rw [← hi2] at cD
    by_cases hij : i2 = (j : Int)
    · have hp : permC r.lists r.maps s x.pfx y.tag = some c := h0t y.tag (by rw [← hi2]; exact hij)
      have ha : appO r.lists r.maps s y = some (setC y c) := by rw [app_perm NM.out, yp, hp]
      rw [ha] at cA9
      rw [hij] at cD
      clear hi2 hij h0t hp ha
      repeat' ((fail_if_success (with_reducible show Hid _)); (first | (go_at_call 22; with_reducible refine (cD _ (by assumption)).mono ?_; rintro e w' ⟨rfl, b⟩; have b' := then_ (w := w9) (by assumption) b; clear b; try dsimp only) | (go_at_call 20; refine (cA9 _ (by assumption)).mono ?_; rintro e wd ⟨v, rfl, lv, iv, bd⟩; refine stopP ?_) | go_skip | go_big_skip | go_big_want | go_big_guard | go_step | go_upon))
      refine hid ?_
      dsimp only
      obtain ⟨V2, hV2⟩ : ∃ V, V = (eRte v).toArray := ⟨_, rfl⟩
      have hVs : V2.size = 14 := by rw [hV2]; rfl
      have V21 := hid (show V2.all (·.oneCell') = true by rw [hV2]; exact eRte_one iv)
      rw [← hV2]
      have IV := hid iv
      have L2 := hid (show Like v y from like_again LI.out lv)
      have HV2 := hid hV2
      have BD := hid (show Below w9.heap.size w9 wd from then_ (by assumption) bd)
      clear hV2 cA9 lv iv bd cD FZ9 FC9 LZ9
      simp only [Option.isSome]
      repeat' ((fail_if_success (with_reducible show Hid _)); (first | ((with_reducible show Oper.wp _ ⟨_, .store 62 _ _, _, _, _, _⟩ _ _ _ _); refine stopP ?_) | go_skip | go_guarded | go_step | go_upon))
      refine hid ?_
      refine wp_store_box (w := wd.alloc (.cells zeroRt 62)) 62 _ _ (by rfl) (g := wd.heap.size) (cur := zeroRt) (X := V2) (by rfl) (by rfl) (ST hVs) (heap_new _ _) (by rw [hVs]; rfl) V21.out ?_
      intro we h1 h2 h3
      have BE := hid (show Below wd.heap.size wd we from (al1 wd _).trans (h3 _ (Nat.le_refl _)))
      have BE9 := hid (show Below w9.heap.size w9 we from then_ BD.out BE.out)
      have GE : Below we.heap.size we we := Below.refl _ _
      have LE2 : ∀ u : World, Below we.heap.size we u → Sem.run PP (loadCellsFrom ⟨wd.heap.size, 0, none⟩ 0 zRoute #[]) u = .ok V2 u := fun u h => ld_box PP (blk_keep h1 h) (by rw [ZT.out]; exact hVs)
      have LEV : ∀ u : World, Below we.heap.size we u → Sem.run PP (loadCellsFrom ⟨wa.heap.size, 0, none⟩ 0 zRoute #[]) u = .ok V u := fun u h => LV9 u (then_ BE9.out h)
      have cS2 : ∀ wx, Below we.heap.size we wx → Calls PP 24 #[.agg V2, .agg V] wx fun e w' => e = .returned (.bool true) ∧ Below wx.heap.size wx w' := fun wx h => by
        have := hS v y wx (IV.out.keep (then_ BE.out h)) (IY.out.keep (then_ BA9.out (then_ BE9.out h))) L2.out
        rwa [← HV2.out, ← HV.out] at this
      clear h1 h2 h3 LV9 hVs hS
      dsimp only [Act.put]
      repeat' (first | (go_at_call 24; with_reducible refine (cS2 _ (by assumption)).mono ?_; rintro e w' ⟨rfl, b⟩; have b' := then_ (w := we) (by assumption) b; clear b; try dsimp only) | (go_at_call 15; with_reducible refine (hSn _).mono ?_; rintro e w' ⟨rfl, b⟩; have b' := then_ (w := we) (by assumption) b; clear b; try dsimp only) | go_skip | go_guarded | go_step | go_upon)
      go_ret
      exact ⟨rfl, then_ HW.out (then_ HB9.out (then_ BE9.out (by assumption)))⟩
    · clear h0t hi2 cA9
      have jqn : ¬ (q : Int) ≤ (j : Int) := by omega
      have j0n : ¬ (j : Int) < 0 := by omega
      repeat' (first | (go_at_call 22; with_reducible refine (cD _ (by assumption)).mono ?_; rintro e w' ⟨rfl, b⟩; have b' := then_ (w := w9) (by assumption) b; clear b; try dsimp only) | (go_at_call 15; with_reducible refine (hSn _).mono ?_; rintro e w' ⟨rfl, b⟩; have b' := then_ (w := w9) (by assumption) b; clear b; try dsimp only) | go_skip | go_big_skip | go_big_want | go_big_guard | go_step | go_upon)
      go_ret
      exact ⟨rfl, then_ HW.out (then_ HB9.out (by assumption))⟩
end Go.Proofs.Ytlhbfpapmolohaa.Mw

/-
  PolicyKeeps: PolicyKeeps is true for every router, number and route. No condition.
-/
namespace Go.Proofs.Ytlhbfpapmolohaa.policyKeeps
open Go.ChangeShapes Go.WideShapes Go.ChangeAt Go.RowKit Go.Joins
set_option linter.unusedSimpArgs false
set_option linter.unusedVariables false

theorem own : ownKnob Try.prog.godebug = none := by kernel_rfl
theorem laidOut : laidOutB Try.prog = true := by kernel_rfl

set_option maxRecDepth 100000 in
theorem lifted (os : Os) (started : os.Started) (H : Type) (enc : TypeId × Value → H) :
    ReturnsInHanded {} Try.checked os 6 .any (Rows.policyKeepsSpec.pre6 enc Try.prog Try.f6 Rows.policyKeepsRow.domain false) (Rows.policyKeepsSpec.post enc Try.prog Try.f6 false true false false) := by
  refine returnsInHanded_of_change (C := Try.checked) own started (by kernel_rfl) Try.func6
    (ChangeSpec.witness6 (enc := enc) (C := Try.checked) false ⟨#[], #[.agg #[.string ByteArray.empty, .int .i64 0, .slice none 0 0, .slice none 0 0, .slice none 0 0, .slice none 0 0, .slice none 0 0, .slice none 0 0, .bool false, .int .i64 0, .slice none 0 0, .slice none 0 0, .bool false, .int .i64 0, .string ByteArray.empty, .string ByteArray.empty, .slice none 0 0, .bool false, .int .i64 0, .int .i64 0, .slice none 0 0, .slice none 0 0, .slice none 0 0, .slice none 0 0, .slice none 0 0], .int .i64 0, .agg #[.int .u32 0, .int .i64 0, .int .i64 0, .int .i64 0, .int .i64 0, .int .i64 0, .int .i64 0, .int .i64 0, .int .i64 0, .slice none 0 0, .int .u32 0, .int .u32 0, .slice none 0 0, .bool false]], []⟩ 8 (by kernel_rfl) (by kernel_rfl) (by kernel_rfl) (by kernel_rfl)) ?_
  intro W base args ds gs before hval0 hW hcnd _
  have hval : ∀ (j : Nat) t v, Try.f6.params[j]? = some t → args[j]? = some v → Value.okWide Try.prog W .any base t v := hval0
  have hW' := hW
  obtain ⟨p, q, hA0, hV, rfl, hfz, hnd⟩ := hW
  have hA : DataW.TrodAll enc Try.prog W 0 (fun _ => true) true Try.f6.params.toList args.toList ds p := hA0
  rw [Try.params6] at hA hval
  obtain ⟨v0, vs0, d0, ds0, p0, q0, hargs, rfl, rfl, h0, r0⟩ := trodAll_cons hA
  obtain ⟨v1, vs1, d1, ds1, p1, q1, rfl, rfl, rfl, h1, r1⟩ := trodAll_cons r0
  obtain ⟨v2, vs2, d2, ds2, p2, q2, rfl, rfl, rfl, h2, r2⟩ := trodAll_cons r1
  obtain ⟨rfl, rfl, rfl⟩ := trodAll_nil r2
  obtain rfl : args = #[v0, v1, v2] := by cases args; simp_all
  obtain ⟨rfl, rfl⟩ := trodVars_none hV
  have k0 := h0
  have lt0 : ∀ x ∈ p0, x.block < W.heap.size := by obtain ⟨m, hm⟩ := k0; exact DataW.trod_lt m _ _ _ hm
  obtain ⟨q0, rfl, i0⟩ := Mo.opRtr (hval 0 55 v0 rfl rfl) h0
  obtain ⟨a1, rfl, rfl, rfl, w1⟩ := open_int Try.underlying3 (hval 1 3 v1 rfl rfl) h1
  have k2 := h2
  have lt2 : ∀ x ∈ p2, x.block < W.heap.size := by obtain ⟨m, hm⟩ := k2; exact DataW.trod_lt m _ _ _ hm
  obtain ⟨q2, rfl, i2⟩ := Mo.opRte (hval 2 62 v2 rfl rfl) h2
  clear hA0 hval0
  refine (Mw.walkPolicyKeeps q0 a1 q2 W i0 i2).mono fun e W' ⟨he, bel⟩ => ?_
  subst he
  exact ⟨_, rfl, _, _, _, [], _, [], hW', trodAll_mk1 (shut_bool Try.underlying4 _), (trodAll_cons_mk (Below.trod laidOut (by kernel_rfl) (of_decide_eq_true (by kernel_rfl)) k0 bel lt0) (trodAll_cons_mk (shut_int Try.underlying3 w1) (trodAll_cons_mk (Below.trod laidOut (by kernel_rfl) (of_decide_eq_true (by kernel_rfl)) k2 bel lt2) trodAll_mk0))), rfl, bel.frame _, fun h => by cases h⟩

theorem over : Rows.policyKeepsRow.holds Try.pinned (OpenSpec.ofChange Rows.policyKeepsSpec) :=
  OpenClaim.holds_of_wide 6 Try.f6 rfl rfl rfl rfl rfl rfl rfl ⟨rfl, rfl, rfl, rfl, rfl⟩ rfl rfl rfl rfl rfl (by kernel_rfl) Try.func6 (by kernel_rfl)
    (of_decide_eq_true (by kernel_rfl)) (by unfold Func.isWrapper; first | (rw [if_pos (by decide +kernel)]; kernel_rfl) | (rw [if_neg (by decide +kernel)]; exact ⟨rfl, rfl⟩))
    (fun os started H enc _ => lifted os started H enc)

theorem proved : Rows.PolicyKeepsSaid := over
#print axioms proved
end Go.Proofs.Ytlhbfpapmolohaa.policyKeeps
