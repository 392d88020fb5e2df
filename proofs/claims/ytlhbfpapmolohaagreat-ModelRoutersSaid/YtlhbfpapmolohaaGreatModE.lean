/-
  '==' OF THE STRUCTS OF api, EACH BY ONE FACT: two values of the struct are equal if the plain data are.
-/
import Derived.Test.YtlhbfpapmolohaaGreatProg
import Derived.Test.YtlhbfpapmolohaaGreatModP
import Derived.Laws.StructEq
import Derived.Lib.Strings
import Derived.WalkKit
namespace Go.Proofs.YtlhbfpapmolohaaGreat.Mw
set_option linter.unusedSimpArgs false
set_option linter.unusedVariables false
open Go.RowKit Mp

theorem cons_dec {α : Type} [DecidableEq α] (x y : α) (l m : List α) : decide (x :: l = y :: m) = (decide (x = y) && decide (l = m)) := by
  rw [Bool.eq_iff_iff]; simp
/-- One field. -/
theorem eqF {P : Program} {w : World} {d : Nat} {xs ys : Array Value} {f : Field} {fs : List Field} {a b : Value} {p q : Bool} (hn : f.name ≠ "_") (ha : (part f.type xs f.offset).run P w = .ok a w) (hb : (part f.type ys f.offset).run P w = .ok b w)
    (hab : (Op.equalIn d f.type a b).run P w = .ok p w) (h : (Op.eqFields d xs ys fs).run P w = .ok q w) : (Op.eqFields d xs ys (f :: fs)).run P w = .ok (p && q) w := by
  unfold Op.eqFields
  rw [if_pos hn]
  simp only [Sem.run_bind, ha, hb, hab, Result.andThen_ok]
  cases p
  · simp
  · simpa using h
theorem eqF0 {P : Program} {w : World} {d : Nat} {xs ys : Array Value} : (Op.eqFields d xs ys []).run P w = .ok true w := rfl
theorem str_dec (a b : ByteArray) : (a.toList == b.toList) = decide (a = b) := by
  rw [Bool.eq_iff_iff, decide_eq_true_eq, beq_iff_eq]
  constructor
  · intro h
    rw [Lib.toList_data, Lib.toList_data] at h
    cases a; cases b
    simp only [ByteArray.mk.injEq] at h ⊢
    exact Array.toList_inj.1 h
  · intro h; rw [h]
theorem nat_dec (a b : Nat) : decide ((a : Int) = (b : Int)) = decide (a = b) := by rw [decide_eq_decide]; omega
theorem int_dec (a b : Int) : (a == b) = decide (a = b) := by rw [Bool.eq_iff_iff]; simp
theorem bool_dec (a b : Bool) : (a == b) = decide (a = b) := by rw [Bool.eq_iff_iff]; simp

set_option maxHeartbeats 1000000 in
theorem eqInPfx (d : Nat) (x y : Pfx) (w : World) : (Op.equalIn (d + 2) 56 (.agg (ePfx x).toArray) (.agg (ePfx y).toArray)).run Tryz.prog w = .ok (decide (x = y)) w := by
  have hS : Tryz.prog.underlying 56 = some (.struct (Tryz.prog.fieldsOf 56)) := by kernel_rfl
  have hp : Tryz.prog.stoodInHeld 56 = false := by kernel_rfl
  rw [run_equalIn_agg w _ 56 _ _ hS hp]
  simp only [Program.fieldsOf, Tryz.underlying56]
  have h : (decide (x = y)) = (((x.addr : Int) == (y.addr : Int)) && ((x.len == y.len) && true)) := by
    simp only [str_dec, int_dec, bool_dec, nat_dec]
    cases x; cases y
    simp only [Pfx.mk.injEq, Bool.decide_and, Bool.and_true]
  rw [h]
  exact (eqF (by decide) (by have a := Tryz.isAgg51 w; simp only [part, Sem.run_bind, a, Result.andThen_ok, Bool.false_eq_true, if_false]; rfl) (by have a := Tryz.isAgg51 w; simp only [part, Sem.run_bind, a, Result.andThen_ok, Bool.false_eq_true, if_false]; rfl) (run_equalIn_int w d _ .u32 .u32 (x.addr : Int) (y.addr : Int) Tryz.underlying51) (eqF (by decide) (by have a := Tryz.isAgg3 w; simp only [part, Sem.run_bind, a, Result.andThen_ok, Bool.false_eq_true, if_false]; rfl) (by have a := Tryz.isAgg3 w; simp only [part, Sem.run_bind, a, Result.andThen_ok, Bool.false_eq_true, if_false]; rfl) (run_equalIn_int w d _ .i64 .i64 x.len y.len Tryz.underlying3) eqF0))

set_option maxHeartbeats 1000000 in
theorem eqInWild (d : Nat) (x y : Wild) (w : World) : (Op.equalIn (d + 2) 122 (.agg #[.int .u32 (x.addr : Int), .int .u32 (x.mask : Int)]) (.agg #[.int .u32 (y.addr : Int), .int .u32 (y.mask : Int)])).run Tryz.prog w = .ok (decide (x = y)) w := by
  have hS : Tryz.prog.underlying 122 = some (.struct (Tryz.prog.fieldsOf 122)) := by kernel_rfl
  have hp : Tryz.prog.stoodInHeld 122 = false := by kernel_rfl
  rw [run_equalIn_agg w _ 122 _ _ hS hp]
  simp only [Program.fieldsOf, Tryz.underlying122]
  have h : (decide (x = y)) = (((x.addr : Int) == (y.addr : Int)) && (((x.mask : Int) == (y.mask : Int)) && true)) := by
    simp only [str_dec, int_dec, bool_dec, nat_dec]
    cases x; cases y
    simp only [Wild.mk.injEq, Bool.decide_and, Bool.and_true]
  rw [h]
  exact (eqF (by decide) (by have a := Tryz.isAgg51 w; simp only [part, Sem.run_bind, a, Result.andThen_ok, Bool.false_eq_true, if_false]; rfl) (by have a := Tryz.isAgg51 w; simp only [part, Sem.run_bind, a, Result.andThen_ok, Bool.false_eq_true, if_false]; rfl) (run_equalIn_int w d _ .u32 .u32 (x.addr : Int) (y.addr : Int) Tryz.underlying51) (eqF (by decide) (by have a := Tryz.isAgg51 w; simp only [part, Sem.run_bind, a, Result.andThen_ok, Bool.false_eq_true, if_false]; rfl) (by have a := Tryz.isAgg51 w; simp only [part, Sem.run_bind, a, Result.andThen_ok, Bool.false_eq_true, if_false]; rfl) (run_equalIn_int w d _ .u32 .u32 (x.mask : Int) (y.mask : Int) Tryz.underlying51) eqF0))

set_option maxHeartbeats 1000000 in
theorem eqInPorts (d : Nat) (x y : Ports) (w : World) : (Op.equalIn (d + 2) 124 (.agg #[.int .i64 x.lo, .int .i64 x.hi]) (.agg #[.int .i64 y.lo, .int .i64 y.hi])).run Tryz.prog w = .ok (decide (x = y)) w := by
  have hS : Tryz.prog.underlying 124 = some (.struct (Tryz.prog.fieldsOf 124)) := by kernel_rfl
  have hp : Tryz.prog.stoodInHeld 124 = false := by kernel_rfl
  rw [run_equalIn_agg w _ 124 _ _ hS hp]
  simp only [Program.fieldsOf, Tryz.underlying124]
  have h : (decide (x = y)) = ((x.lo == y.lo) && ((x.hi == y.hi) && true)) := by
    simp only [str_dec, int_dec, bool_dec, nat_dec]
    cases x; cases y
    simp only [Ports.mk.injEq, Bool.decide_and, Bool.and_true]
  rw [h]
  exact (eqF (by decide) (by have a := Tryz.isAgg3 w; simp only [part, Sem.run_bind, a, Result.andThen_ok, Bool.false_eq_true, if_false]; rfl) (by have a := Tryz.isAgg3 w; simp only [part, Sem.run_bind, a, Result.andThen_ok, Bool.false_eq_true, if_false]; rfl) (run_equalIn_int w d _ .i64 .i64 x.lo y.lo Tryz.underlying3) (eqF (by decide) (by have a := Tryz.isAgg3 w; simp only [part, Sem.run_bind, a, Result.andThen_ok, Bool.false_eq_true, if_false]; rfl) (by have a := Tryz.isAgg3 w; simp only [part, Sem.run_bind, a, Result.andThen_ok, Bool.false_eq_true, if_false]; rfl) (run_equalIn_int w d _ .i64 .i64 x.hi y.hi Tryz.underlying3) eqF0))

set_option maxHeartbeats 1000000 in
theorem eqInIfc (d : Nat) (x y : Ifc) (w : World) : (Op.equalIn (d + 2) 53 (.agg (eIfc x).toArray) (.agg (eIfc y).toArray)).run Tryz.prog w = .ok (decide (x = y)) w := by
  have hS : Tryz.prog.underlying 53 = some (.struct (Tryz.prog.fieldsOf 53)) := by kernel_rfl
  have hp : Tryz.prog.stoodInHeld 53 = false := by kernel_rfl
  rw [run_equalIn_agg w _ 53 _ _ hS hp]
  simp only [Program.fieldsOf, Tryz.underlying53]
  have h : (decide (x = y)) = ((x.name.toList == y.name.toList) && (((x.addr : Int) == (y.addr : Int)) && ((x.len == y.len) && ((x.vlan == y.vlan) && ((x.down == y.down) && ((x.ls == y.ls) && ((x.area == y.area) && ((x.cost == y.cost) && ((x.dv == y.dv) && ((x.inn.toList == y.inn.toList) && ((x.out.toList == y.out.toList) && ((x.side == y.side) && true)))))))))))) := by
    simp only [str_dec, int_dec, bool_dec, nat_dec]
    cases x; cases y
    simp only [Ifc.mk.injEq, Bool.decide_and, Bool.and_true]
  rw [h]
  exact (eqF (by decide) (by have a := Tryz.isAgg9 w; simp only [part, Sem.run_bind, a, Result.andThen_ok, Bool.false_eq_true, if_false]; rfl) (by have a := Tryz.isAgg9 w; simp only [part, Sem.run_bind, a, Result.andThen_ok, Bool.false_eq_true, if_false]; rfl) (run_equalIn_string w d _ x.name y.name Tryz.underlying9) (eqF (by decide) (by have a := Tryz.isAgg51 w; simp only [part, Sem.run_bind, a, Result.andThen_ok, Bool.false_eq_true, if_false]; rfl) (by have a := Tryz.isAgg51 w; simp only [part, Sem.run_bind, a, Result.andThen_ok, Bool.false_eq_true, if_false]; rfl) (run_equalIn_int w d _ .u32 .u32 (x.addr : Int) (y.addr : Int) Tryz.underlying51) (eqF (by decide) (by have a := Tryz.isAgg3 w; simp only [part, Sem.run_bind, a, Result.andThen_ok, Bool.false_eq_true, if_false]; rfl) (by have a := Tryz.isAgg3 w; simp only [part, Sem.run_bind, a, Result.andThen_ok, Bool.false_eq_true, if_false]; rfl) (run_equalIn_int w d _ .i64 .i64 x.len y.len Tryz.underlying3) (eqF (by decide) (by have a := Tryz.isAgg3 w; simp only [part, Sem.run_bind, a, Result.andThen_ok, Bool.false_eq_true, if_false]; rfl) (by have a := Tryz.isAgg3 w; simp only [part, Sem.run_bind, a, Result.andThen_ok, Bool.false_eq_true, if_false]; rfl) (run_equalIn_int w d _ .i64 .i64 x.vlan y.vlan Tryz.underlying3) (eqF (by decide) (by have a := Tryz.isAgg4 w; simp only [part, Sem.run_bind, a, Result.andThen_ok, Bool.false_eq_true, if_false]; rfl) (by have a := Tryz.isAgg4 w; simp only [part, Sem.run_bind, a, Result.andThen_ok, Bool.false_eq_true, if_false]; rfl) (run_equalIn_bool' w d _ x.down y.down Tryz.underlying4) (eqF (by decide) (by have a := Tryz.isAgg4 w; simp only [part, Sem.run_bind, a, Result.andThen_ok, Bool.false_eq_true, if_false]; rfl) (by have a := Tryz.isAgg4 w; simp only [part, Sem.run_bind, a, Result.andThen_ok, Bool.false_eq_true, if_false]; rfl) (run_equalIn_bool' w d _ x.ls y.ls Tryz.underlying4) (eqF (by decide) (by have a := Tryz.isAgg3 w; simp only [part, Sem.run_bind, a, Result.andThen_ok, Bool.false_eq_true, if_false]; rfl) (by have a := Tryz.isAgg3 w; simp only [part, Sem.run_bind, a, Result.andThen_ok, Bool.false_eq_true, if_false]; rfl) (run_equalIn_int w d _ .i64 .i64 x.area y.area Tryz.underlying3) (eqF (by decide) (by have a := Tryz.isAgg3 w; simp only [part, Sem.run_bind, a, Result.andThen_ok, Bool.false_eq_true, if_false]; rfl) (by have a := Tryz.isAgg3 w; simp only [part, Sem.run_bind, a, Result.andThen_ok, Bool.false_eq_true, if_false]; rfl) (run_equalIn_int w d _ .i64 .i64 x.cost y.cost Tryz.underlying3) (eqF (by decide) (by have a := Tryz.isAgg4 w; simp only [part, Sem.run_bind, a, Result.andThen_ok, Bool.false_eq_true, if_false]; rfl) (by have a := Tryz.isAgg4 w; simp only [part, Sem.run_bind, a, Result.andThen_ok, Bool.false_eq_true, if_false]; rfl) (run_equalIn_bool' w d _ x.dv y.dv Tryz.underlying4) (eqF (by decide) (by have a := Tryz.isAgg9 w; simp only [part, Sem.run_bind, a, Result.andThen_ok, Bool.false_eq_true, if_false]; rfl) (by have a := Tryz.isAgg9 w; simp only [part, Sem.run_bind, a, Result.andThen_ok, Bool.false_eq_true, if_false]; rfl) (run_equalIn_string w d _ x.inn y.inn Tryz.underlying9) (eqF (by decide) (by have a := Tryz.isAgg9 w; simp only [part, Sem.run_bind, a, Result.andThen_ok, Bool.false_eq_true, if_false]; rfl) (by have a := Tryz.isAgg9 w; simp only [part, Sem.run_bind, a, Result.andThen_ok, Bool.false_eq_true, if_false]; rfl) (run_equalIn_string w d _ x.out y.out Tryz.underlying9) (eqF (by decide) (by have a := Tryz.isAgg3 w; simp only [part, Sem.run_bind, a, Result.andThen_ok, Bool.false_eq_true, if_false]; rfl) (by have a := Tryz.isAgg3 w; simp only [part, Sem.run_bind, a, Result.andThen_ok, Bool.false_eq_true, if_false]; rfl) (run_equalIn_int w d _ .i64 .i64 x.side y.side Tryz.underlying3) eqF0))))))))))))

set_option maxHeartbeats 1000000 in
theorem eqInPRule (d : Nat) (x y : PRule) (w : World) : (Op.equalIn (d + 3) 107 (.agg (ePRule x).toArray) (.agg (ePRule y).toArray)).run Tryz.prog w = .ok (decide (x = y)) w := by
  have hS : Tryz.prog.underlying 107 = some (.struct (Tryz.prog.fieldsOf 107)) := by kernel_rfl
  have hp : Tryz.prog.stoodInHeld 107 = false := by kernel_rfl
  rw [run_equalIn_agg w _ 107 _ _ hS hp]
  simp only [Program.fieldsOf, Tryz.underlying107]
  have h : (decide (x = y)) = ((x.permit == y.permit) && (decide (x.pfx = y.pfx) && ((x.mn == y.mn) && ((x.mx == y.mx) && true)))) := by
    simp only [str_dec, int_dec, bool_dec, nat_dec]
    cases x; cases y
    simp only [PRule.mk.injEq, Bool.decide_and, Bool.and_true]
  rw [h]
  exact (eqF (by decide) (by have a := Tryz.isAgg4 w; simp only [part, Sem.run_bind, a, Result.andThen_ok, Bool.false_eq_true, if_false]; rfl) (by have a := Tryz.isAgg4 w; simp only [part, Sem.run_bind, a, Result.andThen_ok, Bool.false_eq_true, if_false]; rfl) (run_equalIn_bool' w (d + 1) _ x.permit y.permit Tryz.underlying4) (eqF (by decide) (by have a := Tryz.isAgg56 w; have z := Tryz.sizeOf56 w; simp only [part, Sem.run_bind, a, z, Result.andThen_ok, if_true, Sem.run_pure]; rfl) (by have a := Tryz.isAgg56 w; have z := Tryz.sizeOf56 w; simp only [part, Sem.run_bind, a, z, Result.andThen_ok, if_true, Sem.run_pure]; rfl) (eqInPfx d x.pfx y.pfx w) (eqF (by decide) (by have a := Tryz.isAgg3 w; simp only [part, Sem.run_bind, a, Result.andThen_ok, Bool.false_eq_true, if_false]; rfl) (by have a := Tryz.isAgg3 w; simp only [part, Sem.run_bind, a, Result.andThen_ok, Bool.false_eq_true, if_false]; rfl) (run_equalIn_int w (d + 1) _ .i64 .i64 x.mn y.mn Tryz.underlying3) (eqF (by decide) (by have a := Tryz.isAgg3 w; simp only [part, Sem.run_bind, a, Result.andThen_ok, Bool.false_eq_true, if_false]; rfl) (by have a := Tryz.isAgg3 w; simp only [part, Sem.run_bind, a, Result.andThen_ok, Bool.false_eq_true, if_false]; rfl) (run_equalIn_int w (d + 1) _ .i64 .i64 x.mx y.mx Tryz.underlying3) eqF0))))

set_option maxHeartbeats 1000000 in
theorem eqInCla (d : Nat) (x y : Cla) (w : World) : (Op.equalIn (d + 2) 114 (.agg (eCla x).toArray) (.agg (eCla y).toArray)).run Tryz.prog w = .ok (decide (x = y)) w := by
  have hS : Tryz.prog.underlying 114 = some (.struct (Tryz.prog.fieldsOf 114)) := by kernel_rfl
  have hp : Tryz.prog.stoodInHeld 114 = false := by kernel_rfl
  rw [run_equalIn_agg w _ 114 _ _ hS hp]
  simp only [Program.fieldsOf, Tryz.underlying114]
  have h : (decide (x = y)) = ((x.permit == y.permit) && ((x.lst.toList == y.lst.toList) && ((x.tag == y.tag) && ((x.setMetric == y.setMetric) && ((x.setTag == y.setTag) && ((x.setPref == y.setPref) && ((x.prepend == y.prepend) && true))))))) := by
    simp only [str_dec, int_dec, bool_dec, nat_dec]
    cases x; cases y
    simp only [Cla.mk.injEq, Bool.decide_and, Bool.and_true]
  rw [h]
  exact (eqF (by decide) (by have a := Tryz.isAgg4 w; simp only [part, Sem.run_bind, a, Result.andThen_ok, Bool.false_eq_true, if_false]; rfl) (by have a := Tryz.isAgg4 w; simp only [part, Sem.run_bind, a, Result.andThen_ok, Bool.false_eq_true, if_false]; rfl) (run_equalIn_bool' w d _ x.permit y.permit Tryz.underlying4) (eqF (by decide) (by have a := Tryz.isAgg9 w; simp only [part, Sem.run_bind, a, Result.andThen_ok, Bool.false_eq_true, if_false]; rfl) (by have a := Tryz.isAgg9 w; simp only [part, Sem.run_bind, a, Result.andThen_ok, Bool.false_eq_true, if_false]; rfl) (run_equalIn_string w d _ x.lst y.lst Tryz.underlying9) (eqF (by decide) (by have a := Tryz.isAgg3 w; simp only [part, Sem.run_bind, a, Result.andThen_ok, Bool.false_eq_true, if_false]; rfl) (by have a := Tryz.isAgg3 w; simp only [part, Sem.run_bind, a, Result.andThen_ok, Bool.false_eq_true, if_false]; rfl) (run_equalIn_int w d _ .i64 .i64 x.tag y.tag Tryz.underlying3) (eqF (by decide) (by have a := Tryz.isAgg3 w; simp only [part, Sem.run_bind, a, Result.andThen_ok, Bool.false_eq_true, if_false]; rfl) (by have a := Tryz.isAgg3 w; simp only [part, Sem.run_bind, a, Result.andThen_ok, Bool.false_eq_true, if_false]; rfl) (run_equalIn_int w d _ .i64 .i64 x.setMetric y.setMetric Tryz.underlying3) (eqF (by decide) (by have a := Tryz.isAgg3 w; simp only [part, Sem.run_bind, a, Result.andThen_ok, Bool.false_eq_true, if_false]; rfl) (by have a := Tryz.isAgg3 w; simp only [part, Sem.run_bind, a, Result.andThen_ok, Bool.false_eq_true, if_false]; rfl) (run_equalIn_int w d _ .i64 .i64 x.setTag y.setTag Tryz.underlying3) (eqF (by decide) (by have a := Tryz.isAgg3 w; simp only [part, Sem.run_bind, a, Result.andThen_ok, Bool.false_eq_true, if_false]; rfl) (by have a := Tryz.isAgg3 w; simp only [part, Sem.run_bind, a, Result.andThen_ok, Bool.false_eq_true, if_false]; rfl) (run_equalIn_int w d _ .i64 .i64 x.setPref y.setPref Tryz.underlying3) (eqF (by decide) (by have a := Tryz.isAgg3 w; simp only [part, Sem.run_bind, a, Result.andThen_ok, Bool.false_eq_true, if_false]; rfl) (by have a := Tryz.isAgg3 w; simp only [part, Sem.run_bind, a, Result.andThen_ok, Bool.false_eq_true, if_false]; rfl) (run_equalIn_int w d _ .i64 .i64 x.prepend y.prepend Tryz.underlying3) eqF0)))))))

set_option maxHeartbeats 1000000 in
theorem eqInRule (d : Nat) (x y : Rule) (w : World) : (Op.equalIn (d + 3) 126 (.agg (eRule x).toArray) (.agg (eRule y).toArray)).run Tryz.prog w = .ok (decide (x = y)) w := by
  have hS : Tryz.prog.underlying 126 = some (.struct (Tryz.prog.fieldsOf 126)) := by kernel_rfl
  have hp : Tryz.prog.stoodInHeld 126 = false := by kernel_rfl
  rw [run_equalIn_agg w _ 126 _ _ hS hp]
  simp only [Program.fieldsOf, Tryz.underlying126]
  have h : (decide (x = y)) = ((x.permit == y.permit) && ((x.proto == y.proto) && (decide (x.src = y.src) && (decide (x.dst = y.dst) && (decide (x.sp = y.sp) && (decide (x.dp = y.dp) && true)))))) := by
    simp only [str_dec, int_dec, bool_dec, nat_dec]
    cases x; cases y
    simp only [Rule.mk.injEq, Bool.decide_and, Bool.and_true]
  rw [h]
  exact (eqF (by decide) (by have a := Tryz.isAgg4 w; simp only [part, Sem.run_bind, a, Result.andThen_ok, Bool.false_eq_true, if_false]; rfl) (by have a := Tryz.isAgg4 w; simp only [part, Sem.run_bind, a, Result.andThen_ok, Bool.false_eq_true, if_false]; rfl) (run_equalIn_bool' w (d + 1) _ x.permit y.permit Tryz.underlying4) (eqF (by decide) (by have a := Tryz.isAgg3 w; simp only [part, Sem.run_bind, a, Result.andThen_ok, Bool.false_eq_true, if_false]; rfl) (by have a := Tryz.isAgg3 w; simp only [part, Sem.run_bind, a, Result.andThen_ok, Bool.false_eq_true, if_false]; rfl) (run_equalIn_int w (d + 1) _ .i64 .i64 x.proto y.proto Tryz.underlying3) (eqF (by decide) (by have a := Tryz.isAgg122 w; have z := Tryz.sizeOf122 w; simp only [part, Sem.run_bind, a, z, Result.andThen_ok, if_true, Sem.run_pure]; rfl) (by have a := Tryz.isAgg122 w; have z := Tryz.sizeOf122 w; simp only [part, Sem.run_bind, a, z, Result.andThen_ok, if_true, Sem.run_pure]; rfl) (eqInWild d x.src y.src w) (eqF (by decide) (by have a := Tryz.isAgg122 w; have z := Tryz.sizeOf122 w; simp only [part, Sem.run_bind, a, z, Result.andThen_ok, if_true, Sem.run_pure]; rfl) (by have a := Tryz.isAgg122 w; have z := Tryz.sizeOf122 w; simp only [part, Sem.run_bind, a, z, Result.andThen_ok, if_true, Sem.run_pure]; rfl) (eqInWild d x.dst y.dst w) (eqF (by decide) (by have a := Tryz.isAgg124 w; have z := Tryz.sizeOf124 w; simp only [part, Sem.run_bind, a, z, Result.andThen_ok, if_true, Sem.run_pure]; rfl) (by have a := Tryz.isAgg124 w; have z := Tryz.sizeOf124 w; simp only [part, Sem.run_bind, a, z, Result.andThen_ok, if_true, Sem.run_pure]; rfl) (eqInPorts d x.sp y.sp w) (eqF (by decide) (by have a := Tryz.isAgg124 w; have z := Tryz.sizeOf124 w; simp only [part, Sem.run_bind, a, z, Result.andThen_ok, if_true, Sem.run_pure]; rfl) (by have a := Tryz.isAgg124 w; have z := Tryz.sizeOf124 w; simp only [part, Sem.run_bind, a, z, Result.andThen_ok, if_true, Sem.run_pure]; rfl) (eqInPorts d x.dp y.dp w) eqF0))))))

set_option maxHeartbeats 1000000 in
theorem eqInTran (d : Nat) (x y : Tran) (w : World) : (Op.equalIn (d + 2) 85 (.agg (eTran x).toArray) (.agg (eTran y).toArray)).run Tryz.prog w = .ok (decide (x = y)) w := by
  have hS : Tryz.prog.underlying 85 = some (.struct (Tryz.prog.fieldsOf 85)) := by kernel_rfl
  have hp : Tryz.prog.stoodInHeld 85 = false := by kernel_rfl
  rw [run_equalIn_agg w _ 85 _ _ hS hp]
  simp only [Program.fieldsOf, Tryz.underlying85]
  have h : (decide (x = y)) = ((x.kind == y.kind) && (((x.ins : Int) == (y.ins : Int)) && (((x.outs : Int) == (y.outs : Int)) && ((x.proto == y.proto) && ((x.iport == y.iport) && ((x.oport == y.oport) && ((x.lst.toList == y.lst.toList) && (((x.lo : Int) == (y.lo : Int)) && (((x.hi : Int) == (y.hi : Int)) && true))))))))) := by
    simp only [str_dec, int_dec, bool_dec, nat_dec]
    cases x; cases y
    simp only [Tran.mk.injEq, Bool.decide_and, Bool.and_true]
  rw [h]
  exact (eqF (by decide) (by have a := Tryz.isAgg3 w; simp only [part, Sem.run_bind, a, Result.andThen_ok, Bool.false_eq_true, if_false]; rfl) (by have a := Tryz.isAgg3 w; simp only [part, Sem.run_bind, a, Result.andThen_ok, Bool.false_eq_true, if_false]; rfl) (run_equalIn_int w d _ .i64 .i64 x.kind y.kind Tryz.underlying3) (eqF (by decide) (by have a := Tryz.isAgg51 w; simp only [part, Sem.run_bind, a, Result.andThen_ok, Bool.false_eq_true, if_false]; rfl) (by have a := Tryz.isAgg51 w; simp only [part, Sem.run_bind, a, Result.andThen_ok, Bool.false_eq_true, if_false]; rfl) (run_equalIn_int w d _ .u32 .u32 (x.ins : Int) (y.ins : Int) Tryz.underlying51) (eqF (by decide) (by have a := Tryz.isAgg51 w; simp only [part, Sem.run_bind, a, Result.andThen_ok, Bool.false_eq_true, if_false]; rfl) (by have a := Tryz.isAgg51 w; simp only [part, Sem.run_bind, a, Result.andThen_ok, Bool.false_eq_true, if_false]; rfl) (run_equalIn_int w d _ .u32 .u32 (x.outs : Int) (y.outs : Int) Tryz.underlying51) (eqF (by decide) (by have a := Tryz.isAgg3 w; simp only [part, Sem.run_bind, a, Result.andThen_ok, Bool.false_eq_true, if_false]; rfl) (by have a := Tryz.isAgg3 w; simp only [part, Sem.run_bind, a, Result.andThen_ok, Bool.false_eq_true, if_false]; rfl) (run_equalIn_int w d _ .i64 .i64 x.proto y.proto Tryz.underlying3) (eqF (by decide) (by have a := Tryz.isAgg3 w; simp only [part, Sem.run_bind, a, Result.andThen_ok, Bool.false_eq_true, if_false]; rfl) (by have a := Tryz.isAgg3 w; simp only [part, Sem.run_bind, a, Result.andThen_ok, Bool.false_eq_true, if_false]; rfl) (run_equalIn_int w d _ .i64 .i64 x.iport y.iport Tryz.underlying3) (eqF (by decide) (by have a := Tryz.isAgg3 w; simp only [part, Sem.run_bind, a, Result.andThen_ok, Bool.false_eq_true, if_false]; rfl) (by have a := Tryz.isAgg3 w; simp only [part, Sem.run_bind, a, Result.andThen_ok, Bool.false_eq_true, if_false]; rfl) (run_equalIn_int w d _ .i64 .i64 x.oport y.oport Tryz.underlying3) (eqF (by decide) (by have a := Tryz.isAgg9 w; simp only [part, Sem.run_bind, a, Result.andThen_ok, Bool.false_eq_true, if_false]; rfl) (by have a := Tryz.isAgg9 w; simp only [part, Sem.run_bind, a, Result.andThen_ok, Bool.false_eq_true, if_false]; rfl) (run_equalIn_string w d _ x.lst y.lst Tryz.underlying9) (eqF (by decide) (by have a := Tryz.isAgg51 w; simp only [part, Sem.run_bind, a, Result.andThen_ok, Bool.false_eq_true, if_false]; rfl) (by have a := Tryz.isAgg51 w; simp only [part, Sem.run_bind, a, Result.andThen_ok, Bool.false_eq_true, if_false]; rfl) (run_equalIn_int w d _ .u32 .u32 (x.lo : Int) (y.lo : Int) Tryz.underlying51) (eqF (by decide) (by have a := Tryz.isAgg51 w; simp only [part, Sem.run_bind, a, Result.andThen_ok, Bool.false_eq_true, if_false]; rfl) (by have a := Tryz.isAgg51 w; simp only [part, Sem.run_bind, a, Result.andThen_ok, Bool.false_eq_true, if_false]; rfl) (run_equalIn_int w d _ .u32 .u32 (x.hi : Int) (y.hi : Int) Tryz.underlying51) eqF0)))))))))

set_option maxHeartbeats 1000000 in
theorem eqInStc (d : Nat) (x y : Stc) (w : World) : (Op.equalIn (d + 3) 58 (.agg (eStc x).toArray) (.agg (eStc y).toArray)).run Tryz.prog w = .ok (decide (x = y)) w := by
  have hS : Tryz.prog.underlying 58 = some (.struct (Tryz.prog.fieldsOf 58)) := by kernel_rfl
  have hp : Tryz.prog.stoodInHeld 58 = false := by kernel_rfl
  rw [run_equalIn_agg w _ 58 _ _ hS hp]
  simp only [Program.fieldsOf, Tryz.underlying58]
  have h : (decide (x = y)) = (decide (x.pfx = y.pfx) && (((x.next : Int) == (y.next : Int)) && ((x.ifc.toList == y.ifc.toList) && ((x.discard == y.discard) && ((x.admin == y.admin) && ((x.tag == y.tag) && true)))))) := by
    simp only [str_dec, int_dec, bool_dec, nat_dec]
    cases x; cases y
    simp only [Stc.mk.injEq, Bool.decide_and, Bool.and_true]
  rw [h]
  exact (eqF (by decide) (by have a := Tryz.isAgg56 w; have z := Tryz.sizeOf56 w; simp only [part, Sem.run_bind, a, z, Result.andThen_ok, if_true, Sem.run_pure]; rfl) (by have a := Tryz.isAgg56 w; have z := Tryz.sizeOf56 w; simp only [part, Sem.run_bind, a, z, Result.andThen_ok, if_true, Sem.run_pure]; rfl) (eqInPfx d x.pfx y.pfx w) (eqF (by decide) (by have a := Tryz.isAgg51 w; simp only [part, Sem.run_bind, a, Result.andThen_ok, Bool.false_eq_true, if_false]; rfl) (by have a := Tryz.isAgg51 w; simp only [part, Sem.run_bind, a, Result.andThen_ok, Bool.false_eq_true, if_false]; rfl) (run_equalIn_int w (d + 1) _ .u32 .u32 (x.next : Int) (y.next : Int) Tryz.underlying51) (eqF (by decide) (by have a := Tryz.isAgg9 w; simp only [part, Sem.run_bind, a, Result.andThen_ok, Bool.false_eq_true, if_false]; rfl) (by have a := Tryz.isAgg9 w; simp only [part, Sem.run_bind, a, Result.andThen_ok, Bool.false_eq_true, if_false]; rfl) (run_equalIn_string w (d + 1) _ x.ifc y.ifc Tryz.underlying9) (eqF (by decide) (by have a := Tryz.isAgg4 w; simp only [part, Sem.run_bind, a, Result.andThen_ok, Bool.false_eq_true, if_false]; rfl) (by have a := Tryz.isAgg4 w; simp only [part, Sem.run_bind, a, Result.andThen_ok, Bool.false_eq_true, if_false]; rfl) (run_equalIn_bool' w (d + 1) _ x.discard y.discard Tryz.underlying4) (eqF (by decide) (by have a := Tryz.isAgg3 w; simp only [part, Sem.run_bind, a, Result.andThen_ok, Bool.false_eq_true, if_false]; rfl) (by have a := Tryz.isAgg3 w; simp only [part, Sem.run_bind, a, Result.andThen_ok, Bool.false_eq_true, if_false]; rfl) (run_equalIn_int w (d + 1) _ .i64 .i64 x.admin y.admin Tryz.underlying3) (eqF (by decide) (by have a := Tryz.isAgg3 w; simp only [part, Sem.run_bind, a, Result.andThen_ok, Bool.false_eq_true, if_false]; rfl) (by have a := Tryz.isAgg3 w; simp only [part, Sem.run_bind, a, Result.andThen_ok, Bool.false_eq_true, if_false]; rfl) (run_equalIn_int w (d + 1) _ .i64 .i64 x.tag y.tag Tryz.underlying3) eqF0))))))

set_option maxHeartbeats 1000000 in
theorem eqInRed (d : Nat) (x y : Red) (w : World) : (Op.equalIn (d + 2) 154 (.agg (eRed x).toArray) (.agg (eRed y).toArray)).run Tryz.prog w = .ok (decide (x = y)) w := by
  have hS : Tryz.prog.underlying 154 = some (.struct (Tryz.prog.fieldsOf 154)) := by kernel_rfl
  have hp : Tryz.prog.stoodInHeld 154 = false := by kernel_rfl
  rw [run_equalIn_agg w _ 154 _ _ hS hp]
  simp only [Program.fieldsOf, Tryz.underlying154]
  have h : (decide (x = y)) = ((x.frm == y.frm) && ((x.metric == y.metric) && ((x.tag == y.tag) && ((x.mp.toList == y.mp.toList) && ((x.typ == y.typ) && true))))) := by
    simp only [str_dec, int_dec, bool_dec, nat_dec]
    cases x; cases y
    simp only [Red.mk.injEq, Bool.decide_and, Bool.and_true]
  rw [h]
  exact (eqF (by decide) (by have a := Tryz.isAgg3 w; simp only [part, Sem.run_bind, a, Result.andThen_ok, Bool.false_eq_true, if_false]; rfl) (by have a := Tryz.isAgg3 w; simp only [part, Sem.run_bind, a, Result.andThen_ok, Bool.false_eq_true, if_false]; rfl) (run_equalIn_int w d _ .i64 .i64 x.frm y.frm Tryz.underlying3) (eqF (by decide) (by have a := Tryz.isAgg3 w; simp only [part, Sem.run_bind, a, Result.andThen_ok, Bool.false_eq_true, if_false]; rfl) (by have a := Tryz.isAgg3 w; simp only [part, Sem.run_bind, a, Result.andThen_ok, Bool.false_eq_true, if_false]; rfl) (run_equalIn_int w d _ .i64 .i64 x.metric y.metric Tryz.underlying3) (eqF (by decide) (by have a := Tryz.isAgg3 w; simp only [part, Sem.run_bind, a, Result.andThen_ok, Bool.false_eq_true, if_false]; rfl) (by have a := Tryz.isAgg3 w; simp only [part, Sem.run_bind, a, Result.andThen_ok, Bool.false_eq_true, if_false]; rfl) (run_equalIn_int w d _ .i64 .i64 x.tag y.tag Tryz.underlying3) (eqF (by decide) (by have a := Tryz.isAgg9 w; simp only [part, Sem.run_bind, a, Result.andThen_ok, Bool.false_eq_true, if_false]; rfl) (by have a := Tryz.isAgg9 w; simp only [part, Sem.run_bind, a, Result.andThen_ok, Bool.false_eq_true, if_false]; rfl) (run_equalIn_string w d _ x.mp y.mp Tryz.underlying9) (eqF (by decide) (by have a := Tryz.isAgg3 w; simp only [part, Sem.run_bind, a, Result.andThen_ok, Bool.false_eq_true, if_false]; rfl) (by have a := Tryz.isAgg3 w; simp only [part, Sem.run_bind, a, Result.andThen_ok, Bool.false_eq_true, if_false]; rfl) (run_equalIn_int w d _ .i64 .i64 x.typ y.typ Tryz.underlying3) eqF0)))))

set_option maxHeartbeats 1000000 in
theorem eqInRng (d : Nat) (x y : Rng) (w : World) : (Op.equalIn (d + 3) 150 (.agg (eRng x).toArray) (.agg (eRng y).toArray)).run Tryz.prog w = .ok (decide (x = y)) w := by
  have hS : Tryz.prog.underlying 150 = some (.struct (Tryz.prog.fieldsOf 150)) := by kernel_rfl
  have hp : Tryz.prog.stoodInHeld 150 = false := by kernel_rfl
  rw [run_equalIn_agg w _ 150 _ _ hS hp]
  simp only [Program.fieldsOf, Tryz.underlying150]
  have h : (decide (x = y)) = ((x.area == y.area) && (decide (x.pfx = y.pfx) && true)) := by
    simp only [str_dec, int_dec, bool_dec, nat_dec]
    cases x; cases y
    simp only [Rng.mk.injEq, Bool.decide_and, Bool.and_true]
  rw [h]
  exact (eqF (by decide) (by have a := Tryz.isAgg3 w; simp only [part, Sem.run_bind, a, Result.andThen_ok, Bool.false_eq_true, if_false]; rfl) (by have a := Tryz.isAgg3 w; simp only [part, Sem.run_bind, a, Result.andThen_ok, Bool.false_eq_true, if_false]; rfl) (run_equalIn_int w (d + 1) _ .i64 .i64 x.area y.area Tryz.underlying3) (eqF (by decide) (by have a := Tryz.isAgg56 w; have z := Tryz.sizeOf56 w; simp only [part, Sem.run_bind, a, z, Result.andThen_ok, if_true, Sem.run_pure]; rfl) (by have a := Tryz.isAgg56 w; have z := Tryz.sizeOf56 w; simp only [part, Sem.run_bind, a, z, Result.andThen_ok, if_true, Sem.run_pure]; rfl) (eqInPfx d x.pfx y.pfx w) eqF0))

set_option maxHeartbeats 1000000 in
theorem eqInNbr (d : Nat) (x y : Nbr) (w : World) : (Op.equalIn (d + 2) 156 (.agg (eNbr x).toArray) (.agg (eNbr y).toArray)).run Tryz.prog w = .ok (decide (x = y)) w := by
  have hS : Tryz.prog.underlying 156 = some (.struct (Tryz.prog.fieldsOf 156)) := by kernel_rfl
  have hp : Tryz.prog.stoodInHeld 156 = false := by kernel_rfl
  rw [run_equalIn_agg w _ 156 _ _ hS hp]
  simp only [Program.fieldsOf, Tryz.underlying156]
  have h : (decide (x = y)) = (((x.addr : Int) == (y.addr : Int)) && ((x.asn == y.asn) && ((x.inn.toList == y.inn.toList) && ((x.out.toList == y.out.toList) && true)))) := by
    simp only [str_dec, int_dec, bool_dec, nat_dec]
    cases x; cases y
    simp only [Nbr.mk.injEq, Bool.decide_and, Bool.and_true]
  rw [h]
  exact (eqF (by decide) (by have a := Tryz.isAgg51 w; simp only [part, Sem.run_bind, a, Result.andThen_ok, Bool.false_eq_true, if_false]; rfl) (by have a := Tryz.isAgg51 w; simp only [part, Sem.run_bind, a, Result.andThen_ok, Bool.false_eq_true, if_false]; rfl) (run_equalIn_int w d _ .u32 .u32 (x.addr : Int) (y.addr : Int) Tryz.underlying51) (eqF (by decide) (by have a := Tryz.isAgg3 w; simp only [part, Sem.run_bind, a, Result.andThen_ok, Bool.false_eq_true, if_false]; rfl) (by have a := Tryz.isAgg3 w; simp only [part, Sem.run_bind, a, Result.andThen_ok, Bool.false_eq_true, if_false]; rfl) (run_equalIn_int w d _ .i64 .i64 x.asn y.asn Tryz.underlying3) (eqF (by decide) (by have a := Tryz.isAgg9 w; simp only [part, Sem.run_bind, a, Result.andThen_ok, Bool.false_eq_true, if_false]; rfl) (by have a := Tryz.isAgg9 w; simp only [part, Sem.run_bind, a, Result.andThen_ok, Bool.false_eq_true, if_false]; rfl) (run_equalIn_string w d _ x.inn y.inn Tryz.underlying9) (eqF (by decide) (by have a := Tryz.isAgg9 w; simp only [part, Sem.run_bind, a, Result.andThen_ok, Bool.false_eq_true, if_false]; rfl) (by have a := Tryz.isAgg9 w; simp only [part, Sem.run_bind, a, Result.andThen_ok, Bool.false_eq_true, if_false]; rfl) (run_equalIn_string w d _ x.out y.out Tryz.underlying9) eqF0))))

set_option maxHeartbeats 1000000 in
theorem eqInAggr (d : Nat) (x y : Aggr) (w : World) : (Op.equalIn (d + 3) 163 (.agg (eAggr x).toArray) (.agg (eAggr y).toArray)).run Tryz.prog w = .ok (decide (x = y)) w := by
  have hS : Tryz.prog.underlying 163 = some (.struct (Tryz.prog.fieldsOf 163)) := by kernel_rfl
  have hp : Tryz.prog.stoodInHeld 163 = false := by kernel_rfl
  rw [run_equalIn_agg w _ 163 _ _ hS hp]
  simp only [Program.fieldsOf, Tryz.underlying163]
  have h : (decide (x = y)) = (decide (x.pfx = y.pfx) && ((x.only == y.only) && true)) := by
    simp only [str_dec, int_dec, bool_dec, nat_dec]
    cases x; cases y
    simp only [Aggr.mk.injEq, Bool.decide_and, Bool.and_true]
  rw [h]
  exact (eqF (by decide) (by have a := Tryz.isAgg56 w; have z := Tryz.sizeOf56 w; simp only [part, Sem.run_bind, a, z, Result.andThen_ok, if_true, Sem.run_pure]; rfl) (by have a := Tryz.isAgg56 w; have z := Tryz.sizeOf56 w; simp only [part, Sem.run_bind, a, z, Result.andThen_ok, if_true, Sem.run_pure]; rfl) (eqInPfx d x.pfx y.pfx w) (eqF (by decide) (by have a := Tryz.isAgg4 w; simp only [part, Sem.run_bind, a, Result.andThen_ok, Bool.false_eq_true, if_false]; rfl) (by have a := Tryz.isAgg4 w; simp only [part, Sem.run_bind, a, Result.andThen_ok, Bool.false_eq_true, if_false]; rfl) (run_equalIn_bool' w (d + 1) _ x.only y.only Tryz.underlying4) eqF0))

set_option maxHeartbeats 1000000 in
theorem eqInCnd (d : Nat) (x y : Cnd) (w : World) : (Op.equalIn (d + 3) 165 (.agg (eCnd x).toArray) (.agg (eCnd y).toArray)).run Tryz.prog w = .ok (decide (x = y)) w := by
  have hS : Tryz.prog.underlying 165 = some (.struct (Tryz.prog.fieldsOf 165)) := by kernel_rfl
  have hp : Tryz.prog.stoodInHeld 165 = false := by kernel_rfl
  rw [run_equalIn_agg w _ 165 _ _ hS hp]
  simp only [Program.fieldsOf, Tryz.underlying165]
  have h : (decide (x = y)) = (decide (x.pfx = y.pfx) && (decide (x.iff = y.iff) && ((x.absent == y.absent) && true))) := by
    simp only [str_dec, int_dec, bool_dec, nat_dec]
    cases x; cases y
    simp only [Cnd.mk.injEq, Bool.decide_and, Bool.and_true]
  rw [h]
  exact (eqF (by decide) (by have a := Tryz.isAgg56 w; have z := Tryz.sizeOf56 w; simp only [part, Sem.run_bind, a, z, Result.andThen_ok, if_true, Sem.run_pure]; rfl) (by have a := Tryz.isAgg56 w; have z := Tryz.sizeOf56 w; simp only [part, Sem.run_bind, a, z, Result.andThen_ok, if_true, Sem.run_pure]; rfl) (eqInPfx d x.pfx y.pfx w) (eqF (by decide) (by have a := Tryz.isAgg56 w; have z := Tryz.sizeOf56 w; simp only [part, Sem.run_bind, a, z, Result.andThen_ok, if_true, Sem.run_pure]; rfl) (by have a := Tryz.isAgg56 w; have z := Tryz.sizeOf56 w; simp only [part, Sem.run_bind, a, z, Result.andThen_ok, if_true, Sem.run_pure]; rfl) (eqInPfx d x.iff y.iff w) (eqF (by decide) (by have a := Tryz.isAgg4 w; simp only [part, Sem.run_bind, a, Result.andThen_ok, Bool.false_eq_true, if_false]; rfl) (by have a := Tryz.isAgg4 w; simp only [part, Sem.run_bind, a, Result.andThen_ok, Bool.false_eq_true, if_false]; rfl) (run_equalIn_bool' w (d + 1) _ x.absent y.absent Tryz.underlying4) eqF0)))

end Go.Proofs.YtlhbfpapmolohaaGreat.Mw
