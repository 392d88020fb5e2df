/-
  THE CONTRACTS OF model's isUnknown, AND OF THE SMALL FUNCTIONS THAT HOLD A LOOP OR A WHOLE STRUCT.
-/
import Derived.Test.YtlhbfpapmolohaaGreatModS
import Derived.Test.YtlhbfpapmolohaaGreatModL
import Derived.Test.YtlhbfpapmolohaaGreatModPa
namespace Go.Proofs.YtlhbfpapmolohaaGreat.Mw
set_option linter.unusedSimpArgs false
set_option linter.unusedVariables false
open Go.RowKit Kt Mm Mp

/-- What a lookup by name is asked. -/
def Finds (P : Program) (g : Nat) (A : Array Value) (s : ByteArray) (i : Int) (w : World) : Prop :=
  ∀ W : World, Below w.heap.size w W → Calls P g #[.agg A, .string s] W fun e w' => e = .returned (.int .i64 i) ∧ Below W.heap.size W w'

set_option maxHeartbeats 1000000 in
theorem isUnk (A : Array Value) (s : ByteArray) (i : Int) (g : Nat) (eg : ∀ args w, (callFunc g args).run Tryz.prog w = .ok (.enter g args) w) (w : World) (hA : A.size = 25) (hf : Finds Tryz.prog g A s i w) :
    Calls Tryz.prog 81 #[.agg A, .string s, .func (.func g) #[] #[]] w fun e w' => e = .returned (.bool (unk s i)) ∧ Below w.heap.size w w' := by
  cases hs : s.toList.isEmpty with
  | true =>
    have R := hid (show unk s i = false by unfold unk noS; rw [hs]; rfl)
    clear hf
    go_enter Tryz.func81, Tryz.ntmps81
    repeat' (first | go_skip | go_guarded | go_step | go_upon)
    skip
    go_ret
    exact ⟨ret_bool R.out.symm, al1 w _⟩
  | false =>
    have R := hid (show unk s i = decide (i < 0) by unfold unk noS; rw [hs]; rfl)
    have hne : ¬ s.toList = [] := by intro h; rw [h] at hs; cases hs
    obtain ⟨w1, hw1⟩ : ∃ w1, w.alloc (.cells A 41) = w1 := ⟨_, rfl⟩
    have hh : w1.heap[w.heap.size]? = some (.cells A 41 (0, 0)) := by rw [← hw1, heap_new]
    have H1 := hid (show Below w.heap.size w w1 by rw [← hw1]; exact new_below _ _)
    have hc := hf w1 H1.out
    obtain ⟨P, hP⟩ : ∃ P, P = Tryz.prog := ⟨_, rfl⟩
    have HP := hid hP
    have mixed : P.follows .mixedOrders = true := by rw [hP]; kernel_rfl
    have FG : P.funcs[81]? = some Tryz.f81 := by rw [hP]; exact Tryz.func81
    obtain ⟨zRouter, hzRouter⟩ : ∃ z, z = 25 := ⟨_, rfl⟩
    have ty3 := Tryz.underlying3; have ag3 := Tryz.isAgg3; have sz3 := Tryz.sizeOf3; have ru3 := Tryz.runUnderlying3
    have ty9 := Tryz.underlying9; have ag9 := Tryz.isAgg9; have sz9 := Tryz.sizeOf9; have ru9 := Tryz.runUnderlying9
    have ty41 := Tryz.underlying41; have ag41 := Tryz.isAgg41; have sz41 := Tryz.sizeOf41; have ru41 := Tryz.runUnderlying41
    rw [← hzRouter] at sz41
    rw [← hP] at ty3 ag3 sz3 ru3 ty9 ag9 sz9 ru9 ty41 ag41 sz41 ru41 eg hc ⊢
    clear hP
    have hl := ld_box P hh (show A.size = zRouter by rw [hzRouter]; exact hA)
    clear hh hf hzRouter
    go_enter FG, Tryz.ntmps81
    repeat (first | go_skip | go_guarded | go_step | go_upon)
    refine hc.mono ?_; rintro e w' ⟨rfl, hb'⟩; dsimp only
    repeat' (first | go_skip | go_guarded | go_step | go_upon)
    all_goals go_ret
    all_goals exact ⟨ret_bool R.out.symm, then_ H1.out hb'⟩

set_option maxHeartbeats 1000000 in
theorem fitsIfc (x : Ifc) (w : World) :
    Calls Tryz.prog 67 #[.agg (eIfc x).toArray] w fun e w' => e = .returned (.bool (ifcOk x)) ∧ Below w.heap.size w w' := by
  have hbare : ∀ wx, x.len = 0 → (Op.equalIn 10000 53 (.agg (eIfc x).toArray) (.agg #[.string x.name, .int .u32 0, .int .i64 0, .int .i64 0, .bool x.down, .bool false, .int .i64 0, .int .i64 0, .bool false, .string ⟨#[]⟩, .string ⟨#[]⟩, .int .i64 0])).run Tryz.prog wx = .ok (bareOk x) wx := by
    intro wx hz
    have h := eqInIfc 9998 x ⟨x.name, 0, 0, 0, x.down, false, 0, 0, false, ⟨#[]⟩, ⟨#[]⟩, 0⟩ wx
    have e : decide (x = ⟨x.name, 0, 0, 0, x.down, false, 0, 0, false, ⟨#[]⟩, ⟨#[]⟩, 0⟩) = bareOk x := by
      rw [Bool.eq_iff_iff]
      unfold bareOk
      simp only [decide_eq_true_eq, Bool.and_eq_true, Bool.not_eq_true', noS_iff]
      cases x
      simp only [Ifc.mk.injEq] at *
      constructor
      · intro h; simp_all
      · intro h; simp_all
    rw [e] at h
    exact h
  have hgd : ∀ (op : BinOp) (a b : Operand) (X Y : Array Value) (w : World), (eqGuard op 53 a b (.agg X) (.agg Y)).run Tryz.prog w = .ok () w := fun op a b X Y w => run_eqGuard_agg w op _ a b X Y (by kernel_rfl)
  have hAr := fun wx => fitsArea x wx
  have hWi := fun n a b wx => within n a b wx
  by_cases hz : x.len = 0
  · have R := hid (show ifcOk x = bareOk x by unfold ifcOk; rw [if_pos hz])
    have hb := fun wx => hbare wx hz
    obtain ⟨P, hP⟩ : ∃ P, P = Tryz.prog := ⟨_, rfl⟩
    have HP := hid hP
    have mixed : P.follows .mixedOrders = true := by rw [hP]; kernel_rfl
    have FG : P.funcs[67]? = some Tryz.f67 := by rw [hP]; exact Tryz.func67
    obtain ⟨zInterface, hzInterface⟩ : ∃ z, z = 12 := ⟨_, rfl⟩
    have ty3 := Tryz.underlying3; have ag3 := Tryz.isAgg3; have sz3 := Tryz.sizeOf3; have ru3 := Tryz.runUnderlying3
    have ty4 := Tryz.underlying4; have ag4 := Tryz.isAgg4; have sz4 := Tryz.sizeOf4; have ru4 := Tryz.runUnderlying4
    have ty9 := Tryz.underlying9; have ag9 := Tryz.isAgg9; have sz9 := Tryz.sizeOf9; have ru9 := Tryz.runUnderlying9
    have ty52 := Tryz.underlying51; have ag52 := Tryz.isAgg51; have sz52 := Tryz.sizeOf51; have ru52 := Tryz.runUnderlying51
    have ty54 := Tryz.underlying53; have ag54 := Tryz.isAgg53; have sz54 := Tryz.sizeOf53; have ru54 := Tryz.runUnderlying53
    rw [← hzInterface] at sz54
    have ze54 := Tryz.zeroValue53
    have en0 : ∀ args w, (callFunc 137 args).run Tryz.prog w = .ok (.enter 137 args) w := enters_of Tryz.func137 (by kernel_rfl) rfl
    have en1 : ∀ args w, (callFunc 64 args).run Tryz.prog w = .ok (.enter 64 args) w := enters_of Tryz.func64 (by kernel_rfl) rfl
    rw [← hP] at ty3 ag3 sz3 ru3 ty4 ag4 sz4 ru4 ty9 ag9 sz9 ru9 ty52 ag52 sz52 ru52 ty54 ag54 sz54 ru54 ze54 en0 en1 hb hgd ⊢
    clear hP
    obtain ⟨X, hX⟩ : ∃ X, X = (eIfc x).toArray := ⟨_, rfl⟩
    obtain ⟨w1, hw1⟩ : ∃ w1, w.alloc (.cells X 53) = w1 := ⟨_, rfl⟩
    have hhX : w1.heap[w.heap.size]? = some (.cells X 53 (0, 0)) := by rw [← hw1, heap_new]
    have FX0 : ∀ v : World, Below w1.heap.size w1 v → v.cell? ⟨w.heap.size, 0, none⟩ = some (.string x.name) := fun v h => box_at (blk_keep hhX h) (by rw [hX]; rfl)
    have FX2 : ∀ v : World, Below w1.heap.size w1 v → v.cell? ⟨w.heap.size, 2, none⟩ = some (.int .i64 x.len) := fun v h => box_at (blk_keep hhX h) (by rw [hX]; rfl)
    have FX4 : ∀ v : World, Below w1.heap.size w1 v → v.cell? ⟨w.heap.size, 4, none⟩ = some (.bool x.down) := fun v h => box_at (blk_keep hhX h) (by rw [hX]; rfl)
    have LX : ∀ v : World, Below w1.heap.size w1 v → Sem.run P (loadCellsFrom ⟨w.heap.size, 0, none⟩ 0 zInterface #[]) v = .ok X v := fun v h => ld_box P (blk_keep hhX h) (by rw [hzInterface, hX]; rfl)
    have GX : Below w1.heap.size w1 w1 := Below.refl _ _
    have HX := hid (show Below w.heap.size w w1 by rw [← hw1]; exact new_below _ _)
    have hX' := hid hX
    try rw [← hX]
    clear hX hhX
    rw [hz] at FX2
    rw [← hX'.out] at hb
    clear hz hAr hWi hbare hzInterface hX'
    go_enter FG, Tryz.ntmps67
    repeat' (first | go_skip | go_guarded | go_step | go_upon)
    go_ret
    exact ⟨ret_bool R.out.symm, HX.out⟩
  · have R := hid (show ifcOk x = (!decide (x.addr = 0) && wi x.len 1 32 && wi x.vlan 0 4094 && wi x.side 0 2 && areaOk x) by unfold ifcOk; rw [if_neg hz])
    obtain ⟨P, hP⟩ : ∃ P, P = Tryz.prog := ⟨_, rfl⟩
    have HP := hid hP
    have mixed : P.follows .mixedOrders = true := by rw [hP]; kernel_rfl
    have FG : P.funcs[67]? = some Tryz.f67 := by rw [hP]; exact Tryz.func67
    obtain ⟨zInterface, hzInterface⟩ : ∃ z, z = 12 := ⟨_, rfl⟩
    have ty3 := Tryz.underlying3; have ag3 := Tryz.isAgg3; have sz3 := Tryz.sizeOf3; have ru3 := Tryz.runUnderlying3
    have ty4 := Tryz.underlying4; have ag4 := Tryz.isAgg4; have sz4 := Tryz.sizeOf4; have ru4 := Tryz.runUnderlying4
    have ty9 := Tryz.underlying9; have ag9 := Tryz.isAgg9; have sz9 := Tryz.sizeOf9; have ru9 := Tryz.runUnderlying9
    have ty52 := Tryz.underlying51; have ag52 := Tryz.isAgg51; have sz52 := Tryz.sizeOf51; have ru52 := Tryz.runUnderlying51
    have ty54 := Tryz.underlying53; have ag54 := Tryz.isAgg53; have sz54 := Tryz.sizeOf53; have ru54 := Tryz.runUnderlying53
    rw [← hzInterface] at sz54
    have ze54 := Tryz.zeroValue53
    have en0 : ∀ args w, (callFunc 137 args).run Tryz.prog w = .ok (.enter 137 args) w := enters_of Tryz.func137 (by kernel_rfl) rfl
    have en1 : ∀ args w, (callFunc 64 args).run Tryz.prog w = .ok (.enter 64 args) w := enters_of Tryz.func64 (by kernel_rfl) rfl
    rw [← hP] at ty3 ag3 sz3 ru3 ty4 ag4 sz4 ru4 ty9 ag9 sz9 ru9 ty52 ag52 sz52 ru52 ty54 ag54 sz54 ru54 ze54 en0 en1 hAr hWi hgd ⊢
    clear hP
    obtain ⟨X, hX⟩ : ∃ X, X = (eIfc x).toArray := ⟨_, rfl⟩
    obtain ⟨w1, hw1⟩ : ∃ w1, w.alloc (.cells X 53) = w1 := ⟨_, rfl⟩
    have hhX : w1.heap[w.heap.size]? = some (.cells X 53 (0, 0)) := by rw [← hw1, heap_new]
    have FX1 : ∀ v : World, Below w1.heap.size w1 v → v.cell? ⟨w.heap.size, 1, none⟩ = some (.int .u32 (x.addr : Int)) := fun v h => box_at (blk_keep hhX h) (by rw [hX]; rfl)
    have FX2 : ∀ v : World, Below w1.heap.size w1 v → v.cell? ⟨w.heap.size, 2, none⟩ = some (.int .i64 x.len) := fun v h => box_at (blk_keep hhX h) (by rw [hX]; rfl)
    have FX3 : ∀ v : World, Below w1.heap.size w1 v → v.cell? ⟨w.heap.size, 3, none⟩ = some (.int .i64 x.vlan) := fun v h => box_at (blk_keep hhX h) (by rw [hX]; rfl)
    have FX11 : ∀ v : World, Below w1.heap.size w1 v → v.cell? ⟨w.heap.size, 11, none⟩ = some (.int .i64 x.side) := fun v h => box_at (blk_keep hhX h) (by rw [hX]; rfl)
    have LX : ∀ v : World, Below w1.heap.size w1 v → Sem.run P (loadCellsFrom ⟨w.heap.size, 0, none⟩ 0 zInterface #[]) v = .ok X v := fun v h => ld_box P (blk_keep hhX h) (by rw [hzInterface, hX]; rfl)
    have GX : Below w1.heap.size w1 w1 := Below.refl _ _
    have HX := hid (show Below w.heap.size w w1 by rw [← hw1]; exact new_below _ _)
    have hX' := hid hX
    try rw [← hX]
    clear hX hhX
    rw [← hX'.out] at hAr
    have Z : ((x.len == 0) = false) := by simpa using hz
    clear hbare hzInterface hX'
    go_enter FG, Tryz.ntmps67
    repeat' (first | (go_at_call 64; with_reducible refine (hWi _ _ _ _).mono ?_; rintro e w' ⟨rfl, rfl⟩; try dsimp only) | (go_at_call 137; with_reducible refine (hAr _).mono ?_; rintro e w' ⟨rfl, b⟩; have b' := then_ (w := w1) (by assumption) b; clear b; try dsimp only) | go_skip | go_guarded | go_step | go_upon)
    all_goals go_ret
    all_goals exact ⟨ret_bool (by rw [R.out]; simp_all), then_ HX.out (by assumption)⟩
end Go.Proofs.YtlhbfpapmolohaaGreat.Mw
