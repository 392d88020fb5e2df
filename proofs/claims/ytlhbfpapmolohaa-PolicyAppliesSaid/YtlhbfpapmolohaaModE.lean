/-
  '==' OF THE STRUCTS OF api, EACH BY ONE FACT: two values of the struct are equal if the plain data are.
-/
import Derived.Test.YtlhbfpapmolohaaProg
import Derived.Test.YtlhbfpapmolohaaModP
import Derived.Laws.StructEq
import Derived.Lib.Strings
import Derived.WalkKit
namespace Go.Proofs.Ytlhbfpapmolohaa.Mw
set_option linter.unusedSimpArgs false
set_option linter.unusedVariables false
open Go.RowKit Mp

theorem cons_dec {α : Type} [DecidableEq α] (x y : α) (l m : List α) : decide (x :: l = y :: m) = (decide (x = y) && decide (l = m)) := by
  rw [Bool.eq_iff_iff]; simp
/-- One field. -/
theorem eqF {P : Program} {w : World} {d : Nat} {xs ys : Array Value} {f : Field} {fs : List Field} {a b : Value} {p q : Bool} (hn : f.name ≠ "_") (ha : (part f.type xs f.offset).run P w = .ok a w) (hb : (part f.type ys f.offset).run P w = .ok b w)
    (hab : (Op.equalIn d f.type a b).run P w = .ok p w) (h : (Op.eqFields d xs ys fs).run P w = .ok q w) : (Op.eqFields d xs ys (f :: fs)).run P w = .ok (p && q) w := by
  unfold Op.eqFields
  rw [if_pos hn]
  simp only [Sem.run_bind, ha, hb, hab, Result.andThen_ok]
  cases p
  · simp
  · simpa using h
theorem eqF0 {P : Program} {w : World} {d : Nat} {xs ys : Array Value} : (Op.eqFields d xs ys []).run P w = .ok true w := rfl
theorem str_dec (a b : ByteArray) : (a.toList == b.toList) = decide (a = b) := by
  rw [Bool.eq_iff_iff, decide_eq_true_eq, beq_iff_eq]
  constructor
  · intro h
    rw [Lib.toList_data, Lib.toList_data] at h
    cases a; cases b
    simp only [ByteArray.mk.injEq] at h ⊢
    exact Array.toList_inj.1 h
  · intro h; rw [h]
theorem nat_dec (a b : Nat) : decide ((a : Int) = (b : Int)) = decide (a = b) := by rw [decide_eq_decide]; omega
theorem int_dec (a b : Int) : (a == b) = decide (a = b) := by rw [Bool.eq_iff_iff]; simp
theorem bool_dec (a b : Bool) : (a == b) = decide (a = b) := by rw [Bool.eq_iff_iff]; simp

set_option maxHeartbeats 1000000 in
theorem eqInPfx (d : Nat) (x y : Pfx) (w : World) : (Op.equalIn (d + 2) 27 (.agg (ePfx x).toArray) (.agg (ePfx y).toArray)).run Try.prog w = .ok (decide (x = y)) w := by
  have hS : Try.prog.underlying 27 = some (.struct (Try.prog.fieldsOf 27)) := by kernel_rfl
  have hp : Try.prog.stoodInHeld 27 = false := by kernel_rfl
  rw [run_equalIn_agg w _ 27 _ _ hS hp]
  simp only [Program.fieldsOf, Try.underlying27]
  have h : (decide (x = y)) = (((x.addr : Int) == (y.addr : Int)) && ((x.len == y.len) && true)) := by
    simp only [str_dec, int_dec, bool_dec, nat_dec]
    cases x; cases y
    simp only [Pfx.mk.injEq, Bool.decide_and, Bool.and_true]
  rw [h]
  exact (eqF (by decide) (by have a := Try.isAgg25 w; simp only [part, Sem.run_bind, a, Result.andThen_ok, Bool.false_eq_true, if_false]; rfl) (by have a := Try.isAgg25 w; simp only [part, Sem.run_bind, a, Result.andThen_ok, Bool.false_eq_true, if_false]; rfl) (run_equalIn_int w d _ .u32 .u32 (x.addr : Int) (y.addr : Int) Try.underlying25) (eqF (by decide) (by have a := Try.isAgg3 w; simp only [part, Sem.run_bind, a, Result.andThen_ok, Bool.false_eq_true, if_false]; rfl) (by have a := Try.isAgg3 w; simp only [part, Sem.run_bind, a, Result.andThen_ok, Bool.false_eq_true, if_false]; rfl) (run_equalIn_int w d _ .i64 .i64 x.len y.len Try.underlying3) eqF0))

set_option maxHeartbeats 1000000 in
theorem eqInWild (d : Nat) (x y : Wild) (w : World) : (Op.equalIn (d + 2) 112 (.agg #[.int .u32 (x.addr : Int), .int .u32 (x.mask : Int)]) (.agg #[.int .u32 (y.addr : Int), .int .u32 (y.mask : Int)])).run Try.prog w = .ok (decide (x = y)) w := by
  have hS : Try.prog.underlying 112 = some (.struct (Try.prog.fieldsOf 112)) := by kernel_rfl
  have hp : Try.prog.stoodInHeld 112 = false := by kernel_rfl
  rw [run_equalIn_agg w _ 112 _ _ hS hp]
  simp only [Program.fieldsOf, Try.underlying112]
  have h : (decide (x = y)) = (((x.addr : Int) == (y.addr : Int)) && (((x.mask : Int) == (y.mask : Int)) && true)) := by
    simp only [str_dec, int_dec, bool_dec, nat_dec]
    cases x; cases y
    simp only [Wild.mk.injEq, Bool.decide_and, Bool.and_true]
  rw [h]
  exact (eqF (by decide) (by have a := Try.isAgg25 w; simp only [part, Sem.run_bind, a, Result.andThen_ok, Bool.false_eq_true, if_false]; rfl) (by have a := Try.isAgg25 w; simp only [part, Sem.run_bind, a, Result.andThen_ok, Bool.false_eq_true, if_false]; rfl) (run_equalIn_int w d _ .u32 .u32 (x.addr : Int) (y.addr : Int) Try.underlying25) (eqF (by decide) (by have a := Try.isAgg25 w; simp only [part, Sem.run_bind, a, Result.andThen_ok, Bool.false_eq_true, if_false]; rfl) (by have a := Try.isAgg25 w; simp only [part, Sem.run_bind, a, Result.andThen_ok, Bool.false_eq_true, if_false]; rfl) (run_equalIn_int w d _ .u32 .u32 (x.mask : Int) (y.mask : Int) Try.underlying25) eqF0))

set_option maxHeartbeats 1000000 in
theorem eqInPorts (d : Nat) (x y : Ports) (w : World) : (Op.equalIn (d + 2) 114 (.agg #[.int .i64 x.lo, .int .i64 x.hi]) (.agg #[.int .i64 y.lo, .int .i64 y.hi])).run Try.prog w = .ok (decide (x = y)) w := by
  have hS : Try.prog.underlying 114 = some (.struct (Try.prog.fieldsOf 114)) := by kernel_rfl
  have hp : Try.prog.stoodInHeld 114 = false := by kernel_rfl
  rw [run_equalIn_agg w _ 114 _ _ hS hp]
  simp only [Program.fieldsOf, Try.underlying114]
  have h : (decide (x = y)) = ((x.lo == y.lo) && ((x.hi == y.hi) && true)) := by
    simp only [str_dec, int_dec, bool_dec, nat_dec]
    cases x; cases y
    simp only [Ports.mk.injEq, Bool.decide_and, Bool.and_true]
  rw [h]
  exact (eqF (by decide) (by have a := Try.isAgg3 w; simp only [part, Sem.run_bind, a, Result.andThen_ok, Bool.false_eq_true, if_false]; rfl) (by have a := Try.isAgg3 w; simp only [part, Sem.run_bind, a, Result.andThen_ok, Bool.false_eq_true, if_false]; rfl) (run_equalIn_int w d _ .i64 .i64 x.lo y.lo Try.underlying3) (eqF (by decide) (by have a := Try.isAgg3 w; simp only [part, Sem.run_bind, a, Result.andThen_ok, Bool.false_eq_true, if_false]; rfl) (by have a := Try.isAgg3 w; simp only [part, Sem.run_bind, a, Result.andThen_ok, Bool.false_eq_true, if_false]; rfl) (run_equalIn_int w d _ .i64 .i64 x.hi y.hi Try.underlying3) eqF0))

set_option maxHeartbeats 1000000 in
theorem eqInIfc (d : Nat) (x y : Ifc) (w : World) : (Op.equalIn (d + 2) 106 (.agg (eIfc x).toArray) (.agg (eIfc y).toArray)).run Try.prog w = .ok (decide (x = y)) w := by
  have hS : Try.prog.underlying 106 = some (.struct (Try.prog.fieldsOf 106)) := by kernel_rfl
  have hp : Try.prog.stoodInHeld 106 = false := by kernel_rfl
  rw [run_equalIn_agg w _ 106 _ _ hS hp]
  simp only [Program.fieldsOf, Try.underlying106]
  have h : (decide (x = y)) = ((x.name.toList == y.name.toList) && (((x.addr : Int) == (y.addr : Int)) && ((x.len == y.len) && ((x.vlan == y.vlan) && ((x.down == y.down) && ((x.ls == y.ls) && ((x.area == y.area) && ((x.cost == y.cost) && ((x.dv == y.dv) && ((x.inn.toList == y.inn.toList) && ((x.out.toList == y.out.toList) && ((x.side == y.side) && true)))))))))))) := by
    simp only [str_dec, int_dec, bool_dec, nat_dec]
    cases x; cases y
    simp only [Ifc.mk.injEq, Bool.decide_and, Bool.and_true]
  rw [h]
  exact (eqF (by decide) (by have a := Try.isAgg9 w; simp only [part, Sem.run_bind, a, Result.andThen_ok, Bool.false_eq_true, if_false]; rfl) (by have a := Try.isAgg9 w; simp only [part, Sem.run_bind, a, Result.andThen_ok, Bool.false_eq_true, if_false]; rfl) (run_equalIn_string w d _ x.name y.name Try.underlying9) (eqF (by decide) (by have a := Try.isAgg25 w; simp only [part, Sem.run_bind, a, Result.andThen_ok, Bool.false_eq_true, if_false]; rfl) (by have a := Try.isAgg25 w; simp only [part, Sem.run_bind, a, Result.andThen_ok, Bool.false_eq_true, if_false]; rfl) (run_equalIn_int w d _ .u32 .u32 (x.addr : Int) (y.addr : Int) Try.underlying25) (eqF (by decide) (by have a := Try.isAgg3 w; simp only [part, Sem.run_bind, a, Result.andThen_ok, Bool.false_eq_true, if_false]; rfl) (by have a := Try.isAgg3 w; simp only [part, Sem.run_bind, a, Result.andThen_ok, Bool.false_eq_true, if_false]; rfl) (run_equalIn_int w d _ .i64 .i64 x.len y.len Try.underlying3) (eqF (by decide) (by have a := Try.isAgg3 w; simp only [part, Sem.run_bind, a, Result.andThen_ok, Bool.false_eq_true, if_false]; rfl) (by have a := Try.isAgg3 w; simp only [part, Sem.run_bind, a, Result.andThen_ok, Bool.false_eq_true, if_false]; rfl) (run_equalIn_int w d _ .i64 .i64 x.vlan y.vlan Try.underlying3) (eqF (by decide) (by have a := Try.isAgg4 w; simp only [part, Sem.run_bind, a, Result.andThen_ok, Bool.false_eq_true, if_false]; rfl) (by have a := Try.isAgg4 w; simp only [part, Sem.run_bind, a, Result.andThen_ok, Bool.false_eq_true, if_false]; rfl) (run_equalIn_bool' w d _ x.down y.down Try.underlying4) (eqF (by decide) (by have a := Try.isAgg4 w; simp only [part, Sem.run_bind, a, Result.andThen_ok, Bool.false_eq_true, if_false]; rfl) (by have a := Try.isAgg4 w; simp only [part, Sem.run_bind, a, Result.andThen_ok, Bool.false_eq_true, if_false]; rfl) (run_equalIn_bool' w d _ x.ls y.ls Try.underlying4) (eqF (by decide) (by have a := Try.isAgg3 w; simp only [part, Sem.run_bind, a, Result.andThen_ok, Bool.false_eq_true, if_false]; rfl) (by have a := Try.isAgg3 w; simp only [part, Sem.run_bind, a, Result.andThen_ok, Bool.false_eq_true, if_false]; rfl) (run_equalIn_int w d _ .i64 .i64 x.area y.area Try.underlying3) (eqF (by decide) (by have a := Try.isAgg3 w; simp only [part, Sem.run_bind, a, Result.andThen_ok, Bool.false_eq_true, if_false]; rfl) (by have a := Try.isAgg3 w; simp only [part, Sem.run_bind, a, Result.andThen_ok, Bool.false_eq_true, if_false]; rfl) (run_equalIn_int w d _ .i64 .i64 x.cost y.cost Try.underlying3) (eqF (by decide) (by have a := Try.isAgg4 w; simp only [part, Sem.run_bind, a, Result.andThen_ok, Bool.false_eq_true, if_false]; rfl) (by have a := Try.isAgg4 w; simp only [part, Sem.run_bind, a, Result.andThen_ok, Bool.false_eq_true, if_false]; rfl) (run_equalIn_bool' w d _ x.dv y.dv Try.underlying4) (eqF (by decide) (by have a := Try.isAgg9 w; simp only [part, Sem.run_bind, a, Result.andThen_ok, Bool.false_eq_true, if_false]; rfl) (by have a := Try.isAgg9 w; simp only [part, Sem.run_bind, a, Result.andThen_ok, Bool.false_eq_true, if_false]; rfl) (run_equalIn_string w d _ x.inn y.inn Try.underlying9) (eqF (by decide) (by have a := Try.isAgg9 w; simp only [part, Sem.run_bind, a, Result.andThen_ok, Bool.false_eq_true, if_false]; rfl) (by have a := Try.isAgg9 w; simp only [part, Sem.run_bind, a, Result.andThen_ok, Bool.false_eq_true, if_false]; rfl) (run_equalIn_string w d _ x.out y.out Try.underlying9) (eqF (by decide) (by have a := Try.isAgg3 w; simp only [part, Sem.run_bind, a, Result.andThen_ok, Bool.false_eq_true, if_false]; rfl) (by have a := Try.isAgg3 w; simp only [part, Sem.run_bind, a, Result.andThen_ok, Bool.false_eq_true, if_false]; rfl) (run_equalIn_int w d _ .i64 .i64 x.side y.side Try.underlying3) eqF0))))))))))))

set_option maxHeartbeats 1000000 in
theorem eqInPRule (d : Nat) (x y : PRule) (w : World) : (Op.equalIn (d + 3) 31 (.agg (ePRule x).toArray) (.agg (ePRule y).toArray)).run Try.prog w = .ok (decide (x = y)) w := by
  have hS : Try.prog.underlying 31 = some (.struct (Try.prog.fieldsOf 31)) := by kernel_rfl
  have hp : Try.prog.stoodInHeld 31 = false := by kernel_rfl
  rw [run_equalIn_agg w _ 31 _ _ hS hp]
  simp only [Program.fieldsOf, Try.underlying31]
  have h : (decide (x = y)) = ((x.permit == y.permit) && (decide (x.pfx = y.pfx) && ((x.mn == y.mn) && ((x.mx == y.mx) && true)))) := by
    simp only [str_dec, int_dec, bool_dec, nat_dec]
    cases x; cases y
    simp only [PRule.mk.injEq, Bool.decide_and, Bool.and_true]
  rw [h]
  exact (eqF (by decide) (by have a := Try.isAgg4 w; simp only [part, Sem.run_bind, a, Result.andThen_ok, Bool.false_eq_true, if_false]; rfl) (by have a := Try.isAgg4 w; simp only [part, Sem.run_bind, a, Result.andThen_ok, Bool.false_eq_true, if_false]; rfl) (run_equalIn_bool' w (d + 1) _ x.permit y.permit Try.underlying4) (eqF (by decide) (by have a := Try.isAgg27 w; have z := Try.sizeOf27 w; simp only [part, Sem.run_bind, a, z, Result.andThen_ok, if_true, Sem.run_pure]; rfl) (by have a := Try.isAgg27 w; have z := Try.sizeOf27 w; simp only [part, Sem.run_bind, a, z, Result.andThen_ok, if_true, Sem.run_pure]; rfl) (eqInPfx d x.pfx y.pfx w) (eqF (by decide) (by have a := Try.isAgg3 w; simp only [part, Sem.run_bind, a, Result.andThen_ok, Bool.false_eq_true, if_false]; rfl) (by have a := Try.isAgg3 w; simp only [part, Sem.run_bind, a, Result.andThen_ok, Bool.false_eq_true, if_false]; rfl) (run_equalIn_int w (d + 1) _ .i64 .i64 x.mn y.mn Try.underlying3) (eqF (by decide) (by have a := Try.isAgg3 w; simp only [part, Sem.run_bind, a, Result.andThen_ok, Bool.false_eq_true, if_false]; rfl) (by have a := Try.isAgg3 w; simp only [part, Sem.run_bind, a, Result.andThen_ok, Bool.false_eq_true, if_false]; rfl) (run_equalIn_int w (d + 1) _ .i64 .i64 x.mx y.mx Try.underlying3) eqF0))))

set_option maxHeartbeats 1000000 in
theorem eqInCla (d : Nat) (x y : Cla) (w : World) : (Op.equalIn (d + 2) 80 (.agg (eCla x).toArray) (.agg (eCla y).toArray)).run Try.prog w = .ok (decide (x = y)) w := by
  have hS : Try.prog.underlying 80 = some (.struct (Try.prog.fieldsOf 80)) := by kernel_rfl
  have hp : Try.prog.stoodInHeld 80 = false := by kernel_rfl
  rw [run_equalIn_agg w _ 80 _ _ hS hp]
  simp only [Program.fieldsOf, Try.underlying80]
  have h : (decide (x = y)) = ((x.permit == y.permit) && ((x.lst.toList == y.lst.toList) && ((x.tag == y.tag) && ((x.setMetric == y.setMetric) && ((x.setTag == y.setTag) && ((x.setPref == y.setPref) && ((x.prepend == y.prepend) && true))))))) := by
    simp only [str_dec, int_dec, bool_dec, nat_dec]
    cases x; cases y
    simp only [Cla.mk.injEq, Bool.decide_and, Bool.and_true]
  rw [h]
  exact (eqF (by decide) (by have a := Try.isAgg4 w; simp only [part, Sem.run_bind, a, Result.andThen_ok, Bool.false_eq_true, if_false]; rfl) (by have a := Try.isAgg4 w; simp only [part, Sem.run_bind, a, Result.andThen_ok, Bool.false_eq_true, if_false]; rfl) (run_equalIn_bool' w d _ x.permit y.permit Try.underlying4) (eqF (by decide) (by have a := Try.isAgg9 w; simp only [part, Sem.run_bind, a, Result.andThen_ok, Bool.false_eq_true, if_false]; rfl) (by have a := Try.isAgg9 w; simp only [part, Sem.run_bind, a, Result.andThen_ok, Bool.false_eq_true, if_false]; rfl) (run_equalIn_string w d _ x.lst y.lst Try.underlying9) (eqF (by decide) (by have a := Try.isAgg3 w; simp only [part, Sem.run_bind, a, Result.andThen_ok, Bool.false_eq_true, if_false]; rfl) (by have a := Try.isAgg3 w; simp only [part, Sem.run_bind, a, Result.andThen_ok, Bool.false_eq_true, if_false]; rfl) (run_equalIn_int w d _ .i64 .i64 x.tag y.tag Try.underlying3) (eqF (by decide) (by have a := Try.isAgg3 w; simp only [part, Sem.run_bind, a, Result.andThen_ok, Bool.false_eq_true, if_false]; rfl) (by have a := Try.isAgg3 w; simp only [part, Sem.run_bind, a, Result.andThen_ok, Bool.false_eq_true, if_false]; rfl) (run_equalIn_int w d _ .i64 .i64 x.setMetric y.setMetric Try.underlying3) (eqF (by decide) (by have a := Try.isAgg3 w; simp only [part, Sem.run_bind, a, Result.andThen_ok, Bool.false_eq_true, if_false]; rfl) (by have a := Try.isAgg3 w; simp only [part, Sem.run_bind, a, Result.andThen_ok, Bool.false_eq_true, if_false]; rfl) (run_equalIn_int w d _ .i64 .i64 x.setTag y.setTag Try.underlying3) (eqF (by decide) (by have a := Try.isAgg3 w; simp only [part, Sem.run_bind, a, Result.andThen_ok, Bool.false_eq_true, if_false]; rfl) (by have a := Try.isAgg3 w; simp only [part, Sem.run_bind, a, Result.andThen_ok, Bool.false_eq_true, if_false]; rfl) (run_equalIn_int w d _ .i64 .i64 x.setPref y.setPref Try.underlying3) (eqF (by decide) (by have a := Try.isAgg3 w; simp only [part, Sem.run_bind, a, Result.andThen_ok, Bool.false_eq_true, if_false]; rfl) (by have a := Try.isAgg3 w; simp only [part, Sem.run_bind, a, Result.andThen_ok, Bool.false_eq_true, if_false]; rfl) (run_equalIn_int w d _ .i64 .i64 x.prepend y.prepend Try.underlying3) eqF0)))))))

set_option maxHeartbeats 1000000 in
theorem eqInRule (d : Nat) (x y : Rule) (w : World) : (Op.equalIn (d + 3) 116 (.agg (eRule x).toArray) (.agg (eRule y).toArray)).run Try.prog w = .ok (decide (x = y)) w := by
  have hS : Try.prog.underlying 116 = some (.struct (Try.prog.fieldsOf 116)) := by kernel_rfl
  have hp : Try.prog.stoodInHeld 116 = false := by kernel_rfl
  rw [run_equalIn_agg w _ 116 _ _ hS hp]
  simp only [Program.fieldsOf, Try.underlying116]
  have h : (decide (x = y)) = ((x.permit == y.permit) && ((x.proto == y.proto) && (decide (x.src = y.src) && (decide (x.dst = y.dst) && (decide (x.sp = y.sp) && (decide (x.dp = y.dp) && true)))))) := by
    simp only [str_dec, int_dec, bool_dec, nat_dec]
    cases x; cases y
    simp only [Rule.mk.injEq, Bool.decide_and, Bool.and_true]
  rw [h]
  exact (eqF (by decide) (by have a := Try.isAgg4 w; simp only [part, Sem.run_bind, a, Result.andThen_ok, Bool.false_eq_true, if_false]; rfl) (by have a := Try.isAgg4 w; simp only [part, Sem.run_bind, a, Result.andThen_ok, Bool.false_eq_true, if_false]; rfl) (run_equalIn_bool' w (d + 1) _ x.permit y.permit Try.underlying4) (eqF (by decide) (by have a := Try.isAgg3 w; simp only [part, Sem.run_bind, a, Result.andThen_ok, Bool.false_eq_true, if_false]; rfl) (by have a := Try.isAgg3 w; simp only [part, Sem.run_bind, a, Result.andThen_ok, Bool.false_eq_true, if_false]; rfl) (run_equalIn_int w (d + 1) _ .i64 .i64 x.proto y.proto Try.underlying3) (eqF (by decide) (by have a := Try.isAgg112 w; have z := Try.sizeOf112 w; simp only [part, Sem.run_bind, a, z, Result.andThen_ok, if_true, Sem.run_pure]; rfl) (by have a := Try.isAgg112 w; have z := Try.sizeOf112 w; simp only [part, Sem.run_bind, a, z, Result.andThen_ok, if_true, Sem.run_pure]; rfl) (eqInWild d x.src y.src w) (eqF (by decide) (by have a := Try.isAgg112 w; have z := Try.sizeOf112 w; simp only [part, Sem.run_bind, a, z, Result.andThen_ok, if_true, Sem.run_pure]; rfl) (by have a := Try.isAgg112 w; have z := Try.sizeOf112 w; simp only [part, Sem.run_bind, a, z, Result.andThen_ok, if_true, Sem.run_pure]; rfl) (eqInWild d x.dst y.dst w) (eqF (by decide) (by have a := Try.isAgg114 w; have z := Try.sizeOf114 w; simp only [part, Sem.run_bind, a, z, Result.andThen_ok, if_true, Sem.run_pure]; rfl) (by have a := Try.isAgg114 w; have z := Try.sizeOf114 w; simp only [part, Sem.run_bind, a, z, Result.andThen_ok, if_true, Sem.run_pure]; rfl) (eqInPorts d x.sp y.sp w) (eqF (by decide) (by have a := Try.isAgg114 w; have z := Try.sizeOf114 w; simp only [part, Sem.run_bind, a, z, Result.andThen_ok, if_true, Sem.run_pure]; rfl) (by have a := Try.isAgg114 w; have z := Try.sizeOf114 w; simp only [part, Sem.run_bind, a, z, Result.andThen_ok, if_true, Sem.run_pure]; rfl) (eqInPorts d x.dp y.dp w) eqF0))))))

set_option maxHeartbeats 1000000 in
theorem eqInTran (d : Nat) (x y : Tran) (w : World) : (Op.equalIn (d + 2) 118 (.agg (eTran x).toArray) (.agg (eTran y).toArray)).run Try.prog w = .ok (decide (x = y)) w := by
  have hS : Try.prog.underlying 118 = some (.struct (Try.prog.fieldsOf 118)) := by kernel_rfl
  have hp : Try.prog.stoodInHeld 118 = false := by kernel_rfl
  rw [run_equalIn_agg w _ 118 _ _ hS hp]
  simp only [Program.fieldsOf, Try.underlying118]
  have h : (decide (x = y)) = ((x.kind == y.kind) && (((x.ins : Int) == (y.ins : Int)) && (((x.outs : Int) == (y.outs : Int)) && ((x.proto == y.proto) && ((x.iport == y.iport) && ((x.oport == y.oport) && ((x.lst.toList == y.lst.toList) && (((x.lo : Int) == (y.lo : Int)) && (((x.hi : Int) == (y.hi : Int)) && true))))))))) := by
    simp only [str_dec, int_dec, bool_dec, nat_dec]
    cases x; cases y
    simp only [Tran.mk.injEq, Bool.decide_and, Bool.and_true]
  rw [h]
  exact (eqF (by decide) (by have a := Try.isAgg3 w; simp only [part, Sem.run_bind, a, Result.andThen_ok, Bool.false_eq_true, if_false]; rfl) (by have a := Try.isAgg3 w; simp only [part, Sem.run_bind, a, Result.andThen_ok, Bool.false_eq_true, if_false]; rfl) (run_equalIn_int w d _ .i64 .i64 x.kind y.kind Try.underlying3) (eqF (by decide) (by have a := Try.isAgg25 w; simp only [part, Sem.run_bind, a, Result.andThen_ok, Bool.false_eq_true, if_false]; rfl) (by have a := Try.isAgg25 w; simp only [part, Sem.run_bind, a, Result.andThen_ok, Bool.false_eq_true, if_false]; rfl) (run_equalIn_int w d _ .u32 .u32 (x.ins : Int) (y.ins : Int) Try.underlying25) (eqF (by decide) (by have a := Try.isAgg25 w; simp only [part, Sem.run_bind, a, Result.andThen_ok, Bool.false_eq_true, if_false]; rfl) (by have a := Try.isAgg25 w; simp only [part, Sem.run_bind, a, Result.andThen_ok, Bool.false_eq_true, if_false]; rfl) (run_equalIn_int w d _ .u32 .u32 (x.outs : Int) (y.outs : Int) Try.underlying25) (eqF (by decide) (by have a := Try.isAgg3 w; simp only [part, Sem.run_bind, a, Result.andThen_ok, Bool.false_eq_true, if_false]; rfl) (by have a := Try.isAgg3 w; simp only [part, Sem.run_bind, a, Result.andThen_ok, Bool.false_eq_true, if_false]; rfl) (run_equalIn_int w d _ .i64 .i64 x.proto y.proto Try.underlying3) (eqF (by decide) (by have a := Try.isAgg3 w; simp only [part, Sem.run_bind, a, Result.andThen_ok, Bool.false_eq_true, if_false]; rfl) (by have a := Try.isAgg3 w; simp only [part, Sem.run_bind, a, Result.andThen_ok, Bool.false_eq_true, if_false]; rfl) (run_equalIn_int w d _ .i64 .i64 x.iport y.iport Try.underlying3) (eqF (by decide) (by have a := Try.isAgg3 w; simp only [part, Sem.run_bind, a, Result.andThen_ok, Bool.false_eq_true, if_false]; rfl) (by have a := Try.isAgg3 w; simp only [part, Sem.run_bind, a, Result.andThen_ok, Bool.false_eq_true, if_false]; rfl) (run_equalIn_int w d _ .i64 .i64 x.oport y.oport Try.underlying3) (eqF (by decide) (by have a := Try.isAgg9 w; simp only [part, Sem.run_bind, a, Result.andThen_ok, Bool.false_eq_true, if_false]; rfl) (by have a := Try.isAgg9 w; simp only [part, Sem.run_bind, a, Result.andThen_ok, Bool.false_eq_true, if_false]; rfl) (run_equalIn_string w d _ x.lst y.lst Try.underlying9) (eqF (by decide) (by have a := Try.isAgg25 w; simp only [part, Sem.run_bind, a, Result.andThen_ok, Bool.false_eq_true, if_false]; rfl) (by have a := Try.isAgg25 w; simp only [part, Sem.run_bind, a, Result.andThen_ok, Bool.false_eq_true, if_false]; rfl) (run_equalIn_int w d _ .u32 .u32 (x.lo : Int) (y.lo : Int) Try.underlying25) (eqF (by decide) (by have a := Try.isAgg25 w; simp only [part, Sem.run_bind, a, Result.andThen_ok, Bool.false_eq_true, if_false]; rfl) (by have a := Try.isAgg25 w; simp only [part, Sem.run_bind, a, Result.andThen_ok, Bool.false_eq_true, if_false]; rfl) (run_equalIn_int w d _ .u32 .u32 (x.hi : Int) (y.hi : Int) Try.underlying25) eqF0)))))))))

set_option maxHeartbeats 1000000 in
theorem eqInStc (d : Nat) (x y : Stc) (w : World) : (Op.equalIn (d + 3) 120 (.agg (eStc x).toArray) (.agg (eStc y).toArray)).run Try.prog w = .ok (decide (x = y)) w := by
  have hS : Try.prog.underlying 120 = some (.struct (Try.prog.fieldsOf 120)) := by kernel_rfl
  have hp : Try.prog.stoodInHeld 120 = false := by kernel_rfl
  rw [run_equalIn_agg w _ 120 _ _ hS hp]
  simp only [Program.fieldsOf, Try.underlying120]
  have h : (decide (x = y)) = (decide (x.pfx = y.pfx) && (((x.next : Int) == (y.next : Int)) && ((x.ifc.toList == y.ifc.toList) && ((x.discard == y.discard) && ((x.admin == y.admin) && ((x.tag == y.tag) && true)))))) := by
    simp only [str_dec, int_dec, bool_dec, nat_dec]
    cases x; cases y
    simp only [Stc.mk.injEq, Bool.decide_and, Bool.and_true]
  rw [h]
  exact (eqF (by decide) (by have a := Try.isAgg27 w; have z := Try.sizeOf27 w; simp only [part, Sem.run_bind, a, z, Result.andThen_ok, if_true, Sem.run_pure]; rfl) (by have a := Try.isAgg27 w; have z := Try.sizeOf27 w; simp only [part, Sem.run_bind, a, z, Result.andThen_ok, if_true, Sem.run_pure]; rfl) (eqInPfx d x.pfx y.pfx w) (eqF (by decide) (by have a := Try.isAgg25 w; simp only [part, Sem.run_bind, a, Result.andThen_ok, Bool.false_eq_true, if_false]; rfl) (by have a := Try.isAgg25 w; simp only [part, Sem.run_bind, a, Result.andThen_ok, Bool.false_eq_true, if_false]; rfl) (run_equalIn_int w (d + 1) _ .u32 .u32 (x.next : Int) (y.next : Int) Try.underlying25) (eqF (by decide) (by have a := Try.isAgg9 w; simp only [part, Sem.run_bind, a, Result.andThen_ok, Bool.false_eq_true, if_false]; rfl) (by have a := Try.isAgg9 w; simp only [part, Sem.run_bind, a, Result.andThen_ok, Bool.false_eq_true, if_false]; rfl) (run_equalIn_string w (d + 1) _ x.ifc y.ifc Try.underlying9) (eqF (by decide) (by have a := Try.isAgg4 w; simp only [part, Sem.run_bind, a, Result.andThen_ok, Bool.false_eq_true, if_false]; rfl) (by have a := Try.isAgg4 w; simp only [part, Sem.run_bind, a, Result.andThen_ok, Bool.false_eq_true, if_false]; rfl) (run_equalIn_bool' w (d + 1) _ x.discard y.discard Try.underlying4) (eqF (by decide) (by have a := Try.isAgg3 w; simp only [part, Sem.run_bind, a, Result.andThen_ok, Bool.false_eq_true, if_false]; rfl) (by have a := Try.isAgg3 w; simp only [part, Sem.run_bind, a, Result.andThen_ok, Bool.false_eq_true, if_false]; rfl) (run_equalIn_int w (d + 1) _ .i64 .i64 x.admin y.admin Try.underlying3) (eqF (by decide) (by have a := Try.isAgg3 w; simp only [part, Sem.run_bind, a, Result.andThen_ok, Bool.false_eq_true, if_false]; rfl) (by have a := Try.isAgg3 w; simp only [part, Sem.run_bind, a, Result.andThen_ok, Bool.false_eq_true, if_false]; rfl) (run_equalIn_int w (d + 1) _ .i64 .i64 x.tag y.tag Try.underlying3) eqF0))))))

set_option maxHeartbeats 1000000 in
theorem eqInRed (d : Nat) (x y : Red) (w : World) : (Op.equalIn (d + 2) 131 (.agg (eRed x).toArray) (.agg (eRed y).toArray)).run Try.prog w = .ok (decide (x = y)) w := by
  have hS : Try.prog.underlying 131 = some (.struct (Try.prog.fieldsOf 131)) := by kernel_rfl
  have hp : Try.prog.stoodInHeld 131 = false := by kernel_rfl
  rw [run_equalIn_agg w _ 131 _ _ hS hp]
  simp only [Program.fieldsOf, Try.underlying131]
  have h : (decide (x = y)) = ((x.frm == y.frm) && ((x.metric == y.metric) && ((x.tag == y.tag) && ((x.mp.toList == y.mp.toList) && ((x.typ == y.typ) && true))))) := by
    simp only [str_dec, int_dec, bool_dec, nat_dec]
    cases x; cases y
    simp only [Red.mk.injEq, Bool.decide_and, Bool.and_true]
  rw [h]
  exact (eqF (by decide) (by have a := Try.isAgg3 w; simp only [part, Sem.run_bind, a, Result.andThen_ok, Bool.false_eq_true, if_false]; rfl) (by have a := Try.isAgg3 w; simp only [part, Sem.run_bind, a, Result.andThen_ok, Bool.false_eq_true, if_false]; rfl) (run_equalIn_int w d _ .i64 .i64 x.frm y.frm Try.underlying3) (eqF (by decide) (by have a := Try.isAgg3 w; simp only [part, Sem.run_bind, a, Result.andThen_ok, Bool.false_eq_true, if_false]; rfl) (by have a := Try.isAgg3 w; simp only [part, Sem.run_bind, a, Result.andThen_ok, Bool.false_eq_true, if_false]; rfl) (run_equalIn_int w d _ .i64 .i64 x.metric y.metric Try.underlying3) (eqF (by decide) (by have a := Try.isAgg3 w; simp only [part, Sem.run_bind, a, Result.andThen_ok, Bool.false_eq_true, if_false]; rfl) (by have a := Try.isAgg3 w; simp only [part, Sem.run_bind, a, Result.andThen_ok, Bool.false_eq_true, if_false]; rfl) (run_equalIn_int w d _ .i64 .i64 x.tag y.tag Try.underlying3) (eqF (by decide) (by have a := Try.isAgg9 w; simp only [part, Sem.run_bind, a, Result.andThen_ok, Bool.false_eq_true, if_false]; rfl) (by have a := Try.isAgg9 w; simp only [part, Sem.run_bind, a, Result.andThen_ok, Bool.false_eq_true, if_false]; rfl) (run_equalIn_string w d _ x.mp y.mp Try.underlying9) (eqF (by decide) (by have a := Try.isAgg3 w; simp only [part, Sem.run_bind, a, Result.andThen_ok, Bool.false_eq_true, if_false]; rfl) (by have a := Try.isAgg3 w; simp only [part, Sem.run_bind, a, Result.andThen_ok, Bool.false_eq_true, if_false]; rfl) (run_equalIn_int w d _ .i64 .i64 x.typ y.typ Try.underlying3) eqF0)))))

set_option maxHeartbeats 1000000 in
theorem eqInRng (d : Nat) (x y : Rng) (w : World) : (Op.equalIn (d + 3) 123 (.agg (eRng x).toArray) (.agg (eRng y).toArray)).run Try.prog w = .ok (decide (x = y)) w := by
  have hS : Try.prog.underlying 123 = some (.struct (Try.prog.fieldsOf 123)) := by kernel_rfl
  have hp : Try.prog.stoodInHeld 123 = false := by kernel_rfl
  rw [run_equalIn_agg w _ 123 _ _ hS hp]
  simp only [Program.fieldsOf, Try.underlying123]
  have h : (decide (x = y)) = ((x.area == y.area) && (decide (x.pfx = y.pfx) && true)) := by
    simp only [str_dec, int_dec, bool_dec, nat_dec]
    cases x; cases y
    simp only [Rng.mk.injEq, Bool.decide_and, Bool.and_true]
  rw [h]
  exact (eqF (by decide) (by have a := Try.isAgg3 w; simp only [part, Sem.run_bind, a, Result.andThen_ok, Bool.false_eq_true, if_false]; rfl) (by have a := Try.isAgg3 w; simp only [part, Sem.run_bind, a, Result.andThen_ok, Bool.false_eq_true, if_false]; rfl) (run_equalIn_int w (d + 1) _ .i64 .i64 x.area y.area Try.underlying3) (eqF (by decide) (by have a := Try.isAgg27 w; have z := Try.sizeOf27 w; simp only [part, Sem.run_bind, a, z, Result.andThen_ok, if_true, Sem.run_pure]; rfl) (by have a := Try.isAgg27 w; have z := Try.sizeOf27 w; simp only [part, Sem.run_bind, a, z, Result.andThen_ok, if_true, Sem.run_pure]; rfl) (eqInPfx d x.pfx y.pfx w) eqF0))

set_option maxHeartbeats 1000000 in
theorem eqInNbr (d : Nat) (x y : Nbr) (w : World) : (Op.equalIn (d + 2) 133 (.agg (eNbr x).toArray) (.agg (eNbr y).toArray)).run Try.prog w = .ok (decide (x = y)) w := by
  have hS : Try.prog.underlying 133 = some (.struct (Try.prog.fieldsOf 133)) := by kernel_rfl
  have hp : Try.prog.stoodInHeld 133 = false := by kernel_rfl
  rw [run_equalIn_agg w _ 133 _ _ hS hp]
  simp only [Program.fieldsOf, Try.underlying133]
  have h : (decide (x = y)) = (((x.addr : Int) == (y.addr : Int)) && ((x.asn == y.asn) && ((x.inn.toList == y.inn.toList) && ((x.out.toList == y.out.toList) && true)))) := by
    simp only [str_dec, int_dec, bool_dec, nat_dec]
    cases x; cases y
    simp only [Nbr.mk.injEq, Bool.decide_and, Bool.and_true]
  rw [h]
  exact (eqF (by decide) (by have a := Try.isAgg25 w; simp only [part, Sem.run_bind, a, Result.andThen_ok, Bool.false_eq_true, if_false]; rfl) (by have a := Try.isAgg25 w; simp only [part, Sem.run_bind, a, Result.andThen_ok, Bool.false_eq_true, if_false]; rfl) (run_equalIn_int w d _ .u32 .u32 (x.addr : Int) (y.addr : Int) Try.underlying25) (eqF (by decide) (by have a := Try.isAgg3 w; simp only [part, Sem.run_bind, a, Result.andThen_ok, Bool.false_eq_true, if_false]; rfl) (by have a := Try.isAgg3 w; simp only [part, Sem.run_bind, a, Result.andThen_ok, Bool.false_eq_true, if_false]; rfl) (run_equalIn_int w d _ .i64 .i64 x.asn y.asn Try.underlying3) (eqF (by decide) (by have a := Try.isAgg9 w; simp only [part, Sem.run_bind, a, Result.andThen_ok, Bool.false_eq_true, if_false]; rfl) (by have a := Try.isAgg9 w; simp only [part, Sem.run_bind, a, Result.andThen_ok, Bool.false_eq_true, if_false]; rfl) (run_equalIn_string w d _ x.inn y.inn Try.underlying9) (eqF (by decide) (by have a := Try.isAgg9 w; simp only [part, Sem.run_bind, a, Result.andThen_ok, Bool.false_eq_true, if_false]; rfl) (by have a := Try.isAgg9 w; simp only [part, Sem.run_bind, a, Result.andThen_ok, Bool.false_eq_true, if_false]; rfl) (run_equalIn_string w d _ x.out y.out Try.underlying9) eqF0))))

set_option maxHeartbeats 1000000 in
theorem eqInAggr (d : Nat) (x y : Aggr) (w : World) : (Op.equalIn (d + 3) 135 (.agg (eAggr x).toArray) (.agg (eAggr y).toArray)).run Try.prog w = .ok (decide (x = y)) w := by
  have hS : Try.prog.underlying 135 = some (.struct (Try.prog.fieldsOf 135)) := by kernel_rfl
  have hp : Try.prog.stoodInHeld 135 = false := by kernel_rfl
  rw [run_equalIn_agg w _ 135 _ _ hS hp]
  simp only [Program.fieldsOf, Try.underlying135]
  have h : (decide (x = y)) = (decide (x.pfx = y.pfx) && ((x.only == y.only) && true)) := by
    simp only [str_dec, int_dec, bool_dec, nat_dec]
    cases x; cases y
    simp only [Aggr.mk.injEq, Bool.decide_and, Bool.and_true]
  rw [h]
  exact (eqF (by decide) (by have a := Try.isAgg27 w; have z := Try.sizeOf27 w; simp only [part, Sem.run_bind, a, z, Result.andThen_ok, if_true, Sem.run_pure]; rfl) (by have a := Try.isAgg27 w; have z := Try.sizeOf27 w; simp only [part, Sem.run_bind, a, z, Result.andThen_ok, if_true, Sem.run_pure]; rfl) (eqInPfx d x.pfx y.pfx w) (eqF (by decide) (by have a := Try.isAgg4 w; simp only [part, Sem.run_bind, a, Result.andThen_ok, Bool.false_eq_true, if_false]; rfl) (by have a := Try.isAgg4 w; simp only [part, Sem.run_bind, a, Result.andThen_ok, Bool.false_eq_true, if_false]; rfl) (run_equalIn_bool' w (d + 1) _ x.only y.only Try.underlying4) eqF0))

set_option maxHeartbeats 1000000 in
theorem eqInCnd (d : Nat) (x y : Cnd) (w : World) : (Op.equalIn (d + 3) 137 (.agg (eCnd x).toArray) (.agg (eCnd y).toArray)).run Try.prog w = .ok (decide (x = y)) w := by
  have hS : Try.prog.underlying 137 = some (.struct (Try.prog.fieldsOf 137)) := by kernel_rfl
  have hp : Try.prog.stoodInHeld 137 = false := by kernel_rfl
  rw [run_equalIn_agg w _ 137 _ _ hS hp]
  simp only [Program.fieldsOf, Try.underlying137]
  have h : (decide (x = y)) = (decide (x.pfx = y.pfx) && (decide (x.iff = y.iff) && ((x.absent == y.absent) && true))) := by
    simp only [str_dec, int_dec, bool_dec, nat_dec]
    cases x; cases y
    simp only [Cnd.mk.injEq, Bool.decide_and, Bool.and_true]
  rw [h]
  exact (eqF (by decide) (by have a := Try.isAgg27 w; have z := Try.sizeOf27 w; simp only [part, Sem.run_bind, a, z, Result.andThen_ok, if_true, Sem.run_pure]; rfl) (by have a := Try.isAgg27 w; have z := Try.sizeOf27 w; simp only [part, Sem.run_bind, a, z, Result.andThen_ok, if_true, Sem.run_pure]; rfl) (eqInPfx d x.pfx y.pfx w) (eqF (by decide) (by have a := Try.isAgg27 w; have z := Try.sizeOf27 w; simp only [part, Sem.run_bind, a, z, Result.andThen_ok, if_true, Sem.run_pure]; rfl) (by have a := Try.isAgg27 w; have z := Try.sizeOf27 w; simp only [part, Sem.run_bind, a, z, Result.andThen_ok, if_true, Sem.run_pure]; rfl) (eqInPfx d x.iff y.iff w) (eqF (by decide) (by have a := Try.isAgg4 w; simp only [part, Sem.run_bind, a, Result.andThen_ok, Bool.false_eq_true, if_false]; rfl) (by have a := Try.isAgg4 w; simp only [part, Sem.run_bind, a, Result.andThen_ok, Bool.false_eq_true, if_false]; rfl) (run_equalIn_bool' w (d + 1) _ x.absent y.absent Try.underlying4) eqF0)))

end Go.Proofs.Ytlhbfpapmolohaa.Mw
