/-
  THE CONTRACTS OF addr.Halves, addr.Compare AND THE REFERENCE's Compare.
-/
import Derived.Test.YtppdhcjmdgkadaaDoorAddrB
import Derived.Deep.RegionHeld3
namespace Go.Proofs.YtppdhcjmdgkadaaDoor.Ad
set_option linter.unusedSimpArgs false
set_option linter.unusedVariables false
open Go.RowKit Sp Sc Am Kt

set_option maxHeartbeats 1000000 in
theorem compareU (x y : Int) (w : World) :
    Calls Tryd.prog 55 #[.int .u32 x, .int .u32 y] w fun e w' => e = .returned (.int .i64 (Lib.compareInt x y)) ∧ w = w' := by
  go_enter Tryd.func55, Tryd.ntmps55
  go_wp2
  all_goals go_ret
  all_goals exact ⟨ret_int (by unfold Lib.compareInt; split <;> first | rfl | (exfalso; omega) | (split <;> first | rfl | (exfalso; omega))), rfl⟩
theorem compareI (x y : Int) (w : World) :
    Calls Tryd.prog 56 #[.int .i64 x, .int .i64 y] w fun e w' => e = .returned (.int .i64 (Lib.compareInt x y)) ∧ w = w' := by
  refine (Tryd.cmp_Compare_int x y w).mono ?_
  rintro e w' ⟨rfl, rfl⟩
  exact ⟨rfl, rfl⟩

/-- What cmp.Or makes of two numbers. -/
def orV (x y : Int) : Int := if x = 0 then y else x
theorem orV_zero (y : Int) : orV 0 y = y := rfl
theorem orV_ne (x y : Int) (h : ¬ x = 0) : orV x y = x := by unfold orV; rw [if_neg h]

set_option maxHeartbeats 1000000 in
theorem or_ (x y : Int) (w : World) (b : Nat) (h0 : w.cell? ⟨b, 0, none⟩ = some (.int .i64 x)) (h1 : w.cell? ⟨b, 1, none⟩ = some (.int .i64 y)) :
    Calls Tryd.prog 54 #[.slice (some ⟨b, 0, none⟩) 2 2] w fun e w' => e = .returned (.int .i64 (orV x y)) ∧ w = w' := by
  by_cases hx : x = 0
  · have hr : Hid (orV x y = y) := by show _ = _; rw [hx, orV_zero]
    subst hx
    by_cases hy : y = 0
    · subst hy
      go_enter Tryd.func54, Tryd.ntmps54
      go_wp2
      refine wp_loop_rounds 3 ?_
      repeat any_goals (rw [rounds_succ]; go_wp2)
      go_ret
      exact ⟨ret_int hr.out.symm, rfl⟩
    · have e1 : (y == 0) = false := by simpa using hy
      have e2 : (y != 0) = true := by simpa using hy
      go_enter Tryd.func54, Tryd.ntmps54
      go_wp2
      refine wp_loop_rounds 3 ?_
      repeat any_goals (rw [rounds_succ]; go_wp2)
      go_ret
      exact ⟨ret_int hr.out.symm, rfl⟩
  · rw [orV_ne x y hx]
    have e1 : (x == 0) = false := by simpa using hx
    have e2 : (x != 0) = true := by simpa using hx
    go_enter Tryd.func54, Tryd.ntmps54
    go_wp2
    refine wp_loop_rounds 3 ?_
    repeat any_goals (rw [rounds_succ]; go_wp2)
    go_ret
    exact ⟨rfl, rfl⟩

theorem or_at (W : World) (x y : Int) (T : TypeId) (b : Nat) (hb : b = W.heap.size) :
    Calls Tryd.prog 54 #[.slice (some ⟨b, 0, none⟩) 2 2] (W.alloc (.cells #[.int .i64 x, .int .i64 y] T)).drew fun e w' => e = .returned (.int .i64 (orV x y)) ∧ (W.alloc (.cells #[.int .i64 x, .int .i64 y] T)).drew = w' := by
  subst hb
  exact or_ x y _ _ (new_cell W _ T 0) (new_cell W _ T 1)

set_option maxHeartbeats 1000000 in
theorem compare (a : Nat) (n : Int) (b : Nat) (m : Int) (w : World) :
    Calls Tryd.prog 41 #[px a n, px b m] w fun e w' => e = .returned (.int .i64 (orV (Lib.compareInt a b) (Lib.compareInt n m))) ∧ Below w.heap.size w w' := by
  have c0 := two_w0 w (.int .u32 (a : Int)) (.int .i64 n) (.int .u32 (b : Int)) (.int .i64 m) 34 34
  have c1 := two_w1 w (.int .u32 (a : Int)) (.int .i64 n) (.int .u32 (b : Int)) (.int .i64 m) 34 34
  have c2 := two_w2 w (.int .u32 (a : Int)) (.int .i64 n) (.int .u32 (b : Int)) (.int .i64 m) 34 34
  have c3 := two_w3 w (.int .u32 (a : Int)) (.int .i64 n) (.int .u32 (b : Int)) (.int .i64 m) 34 34
  go_enter Tryd.func41, Tryd.ntmps41
  go_wp2_with (fail)
  go_region_held3 (fun v => Below (w.heap.size + 2) ((w.alloc (.cells #[.int .u32 (a : Int), .int .i64 n] 34)).alloc (.cells #[.int .u32 (b : Int), .int .i64 m] 34)) v) ((first | assumption | go_grown)) ((first | (go_at_call 55; refine (compareU _ _ _).mono ?_; rintro e w' ⟨rfl, rfl⟩) | (go_at_call 56; refine (compareI _ _ _).mono ?_; rintro e w' ⟨rfl, rfl⟩) | (go_at_call 54; refine (or_at _ _ _ _ _ ?hb).mono ?_; (case hb => simp); rintro e w' ⟨rfl, rfl⟩)))
  go_wp2
  go_ret
  exact ⟨rfl, two_b w _ _ _ _ _ _ (by assumption)⟩

set_option maxHeartbeats 1000000 in
theorem refCompare (a : Nat) (n : Int) (b : Nat) (m : Int) (w : World) :
    Calls Tryd.prog 42 #[px a n, px b m] w fun e w' => e = .returned (.int .i64 (orV (Lib.compareInt a b) (Lib.compareInt n m))) ∧ Below w.heap.size w w' := by
  have hlt : ∀ x y : Int, x < y → Lib.compareInt x y = -1 := fun x y h => by unfold Lib.compareInt; rw [if_pos h]
  have heq : ∀ x : Int, Lib.compareInt x x = 0 := fun x => by unfold Lib.compareInt; simp
  have hgt : ∀ x y : Int, y < x → Lib.compareInt x y = 1 := fun x y h => by unfold Lib.compareInt; rw [if_neg (by omega), if_pos h]
  have fin : ∀ r : Int, orV (Lib.compareInt a b) (Lib.compareInt n m) = r → Hid (orV (Lib.compareInt a b) (Lib.compareInt n m) = r) := fun _ h => h
  rcases Nat.lt_trichotomy a b with h | h | h
  · have hr := fin (-1) (by rw [hlt _ _ (by omega)]; rfl)
    clear hlt heq hgt fin
    go_enter Tryd.func42, Tryd.ntmps42
    go_wp2_with (fail)
    go_ret
    exact ⟨ret_int hr.out.symm, al2 w _ _⟩
  · subst h
    rcases Int.lt_trichotomy n m with h | h | h
    · have hr := fin (-1) (by rw [heq, hlt _ _ h]; rfl)
      clear hlt heq hgt fin
      go_enter Tryd.func42, Tryd.ntmps42
      go_wp2_with (fail)
      all_goals go_ret
      all_goals exact ⟨ret_int hr.out.symm, al2 w _ _⟩
    · subst h
      have hr := fin 0 (by rw [heq, heq]; rfl)
      clear hlt heq hgt fin
      go_enter Tryd.func42, Tryd.ntmps42
      go_wp2_with (fail)
      all_goals go_ret
      all_goals exact ⟨ret_int hr.out.symm, al2 w _ _⟩
    · have hr := fin 1 (by rw [heq, hgt _ _ h]; rfl)
      clear hlt heq hgt fin
      go_enter Tryd.func42, Tryd.ntmps42
      go_wp2_with (fail)
      all_goals go_ret
      all_goals exact ⟨ret_int hr.out.symm, al2 w _ _⟩
  · have hr := fin 1 (by rw [hgt _ _ (by omega)]; rfl)
    clear hlt heq hgt fin
    go_enter Tryd.func42, Tryd.ntmps42
    go_wp2_with (fail)
    all_goals go_ret
    all_goals exact ⟨ret_int hr.out.symm, al2 w _ _⟩
end Go.Proofs.YtppdhcjmdgkadaaDoor.Ad
