/-
  THE CONTRACT OF model.Check.
-/
import Derived.Test.YtmffbdohcnebdaaGreatModSh
import Derived.Test.YtmffbdohcnebdaaGreatModN
namespace Go.Proofs.YtmffbdohcnebdaaGreat.Mw
set_option linter.unusedSimpArgs false
set_option linter.unusedVariables false
open Go.RowKit Kt Mm Mp

set_option maxHeartbeats 2000000 in
theorem clChk (v : Value) (l : List Rtr) (i : Nat) (x : Rtr) (B : Nat) (w : World) (hn : NetIn w v l) (hB : w.heap[B]? = some (.cells #[v] 48 (0, 0))) (hx : l[i]? = some x) :
    Calls Tryz.prog 59 #[.int .i64 (i : Int), .agg (eRtr x).toArray, .pointer (some ⟨B, 0, none⟩)] w fun e w' => e = .returned (.int .i64 (routerE l i x)) ∧ Below w.heap.size w w' := by
  have hm := get_mem hx
  obtain ⟨b, off, cap, hv, hcap, hb, hcell⟩ := row_addr (z := 25) (by decide) hn.row.row hx
  have hlt : i < l.length := (List.getElem?_eq_some_iff.1 hx).1
  obtain ⟨X, hX⟩ : ∃ X, X = (eRtr x).toArray := ⟨_, rfl⟩
  obtain ⟨w1, hw1⟩ : ∃ w1, w.alloc (.cells X 41) = w1 := ⟨_, rfl⟩
  have hhX : w1.heap[w.heap.size]? = some (.cells X 41 (0, 0)) := by rw [← hw1, heap_new]
  have FX0 : ∀ v : World, Below w1.heap.size w1 v → v.cell? ⟨w.heap.size, 0, none⟩ = some (.string x.name) := fun v h => box_at (blk_keep hhX h) (by rw [hX]; rfl)
  have KX : ∀ v : World, Below w1.heap.size w1 v → v.heap[w.heap.size]? = some (.cells X 41 (0, 0)) := fun v h => blk_keep hhX h
  have GX : Below w1.heap.size w1 w1 := Below.refl _ _
  have HX := hid (show Below w.heap.size w w1 by rw [← hw1]; exact new_below _ _)
  have hX' := hid hX
  try rw [← hX]
  clear hX hhX
  have K1 : ∀ v' : World, Below w1.heap.size w1 v' → v'.heap[B]? = some (.cells #[v] 48 (0, 0)) := fun v' h => by rw [← hB]; exact (Below.block h _ (Nat.lt_of_lt_of_le (blk_lt hB) HX.out.size)).trans (HX.out.block _ (blk_lt hB))
  have S0 : ∀ v' : World, Below w1.heap.size w1 v' → v'.cell? ⟨B, 0, none⟩ = some (.slice (some ⟨b, off, none⟩) l.length cap) := fun v' h => box_at (K1 v' h) (by rw [hv]; rfl)
  have hC := fun wx (h : Below w1.heap.size w1 wx) => checkR x wx ((hn.each x hm).keep (then_ HX.out h))
  have hQ := fun wx (h : Below w1.heap.size w1 wx) => lkRtr #[v] v l x.name wx rfl (hn.keep (then_ HX.out h)).row.row hn.row.len
  have hO := fun wx (h : Below w1.heap.size w1 wx) => sharesC (l.take i) (.slice (some ⟨b, off, none⟩) i cap) x wx
    ⟨⟨rows_keep (row_take (f := eRtr) (z := 25) (fun _ => rfl) (by rw [← hv]; exact hn.row.row) rfl (Nat.le_of_lt hlt)) (then_ HX.out h), by rw [List.length_take]; have := hn.row.len; omega⟩, fun r hr => (hn.each r (List.mem_of_mem_take hr)).keep (then_ HX.out h)⟩ ((hn.each x hm).keep (then_ HX.out h))
  have R := hid (show routerE l i x = if rtrE x = 0 then (if decide (ixB (fun y : Rtr => y.name.toList == x.name.toList) l < (i : Int)) || shares (l.take i) x then 4 else 0) else rtrE x by
    unfold routerE; rw [ixB_lt hx (by simp)])
  rw [hv] at hQ
  rw [← hX'.out] at hC hO
  obtain ⟨c, hc⟩ : ∃ c, c = rtrE x := ⟨_, rfl⟩
  obtain ⟨q, hq⟩ : ∃ q, q = ixB (fun y : Rtr => y.name.toList == x.name.toList) l := ⟨_, rfl⟩
  obtain ⟨o, ho⟩ : ∃ o, o = shares (l.take i) x := ⟨_, rfl⟩
  rw [← hc, ← hq, ← ho] at R
  rw [← hc] at hC
  rw [← hq] at hQ
  rw [← ho] at hO
  have hlen := hn.row.len
  obtain ⟨m, hmm⟩ : ∃ m, m = l.length := ⟨_, rfl⟩
  rw [← hmm] at S0 hcap hlt hlen hQ
  clear hc hq ho hn hcell hx hm hmm hB hv K1
  obtain ⟨P, hP⟩ : ∃ P, P = Tryz.prog := ⟨_, rfl⟩
  have HP := hid hP
  have mixed : P.follows .mixedOrders = true := by rw [hP]; kernel_rfl
  have FG : P.funcs[59]? = some Tryz.f59 := by rw [hP]; exact Tryz.func59
  obtain ⟨zRouter, hzRouter⟩ : ∃ z, z = 25 := ⟨_, rfl⟩
  have nzRouter : ¬ zRouter = 0 := by omega
  have ty3 := Tryz.underlying3; have ag3 := Tryz.isAgg3; have sz3 := Tryz.sizeOf3; have ru3 := Tryz.runUnderlying3
  have ty9 := Tryz.underlying9; have ag9 := Tryz.isAgg9; have sz9 := Tryz.sizeOf9; have ru9 := Tryz.runUnderlying9
  have ty41 := Tryz.underlying41; have ag41 := Tryz.isAgg41; have sz41 := Tryz.sizeOf41; have ru41 := Tryz.runUnderlying41
  rw [← hzRouter] at sz41
  have ty43 := Tryz.underlying43; have ag43 := Tryz.isAgg43; have sz43 := Tryz.sizeOf43; have ru43 := Tryz.runUnderlying43
  have ty46 := Tryz.underlying46; have ag46 := Tryz.isAgg46; have sz46 := Tryz.sizeOf46; have ru46 := Tryz.runUnderlying46
  have ty48 := Tryz.underlying48; have ag48 := Tryz.isAgg48; have sz48 := Tryz.sizeOf48; have ru48 := Tryz.runUnderlying48
  have en0 : ∀ args w, (callFunc 12 args).run Tryz.prog w = .ok (.enter 12 args) w := enters_of Tryz.func12 (by kernel_rfl) rfl
  have en1 : ∀ args w, (callFunc 21 args).run Tryz.prog w = .ok (.enter 21 args) w := enters_of Tryz.func21 (by kernel_rfl) rfl
  have en2 : ∀ args w, (callFunc 60 args).run Tryz.prog w = .ok (.enter 60 args) w := enters_of Tryz.func60 (by kernel_rfl) rfl
  rw [← hP] at ty3 ag3 sz3 ru3 ty9 ag9 sz9 ru9 ty41 ag41 sz41 ru41 ty43 ag43 sz43 ru43 ty46 ag46 sz46 ru46 ty48 ag48 sz48 ru48 en0 en1 en2 hC hQ hO ⊢
  clear hP
  have LX : ∀ v : World, Below w1.heap.size w1 v → Sem.run P (loadCellsFrom ⟨w.heap.size, 0, none⟩ 0 zRouter #[]) v = .ok X v := fun v h => ld_box P (KX v h) (by rw [hzRouter]; exact (by rw [hX'.out]; rfl))
  clear KX hzRouter
  have hli : (i : Int) ≤ (cap : Int) := by omega
  have hl0 : (0 : Int) ≤ (i : Int) := by omega
  by_cases h0 : c = 0
  · subst h0
    by_cases hqi : q < (i : Int)
    · have T : decide (q < (i : Int)) = true := decide_eq_true hqi
      have uFX0 := fun u : Later w1.heap.size w1 => FX0 u.w u.h
      have uLX := fun u : Later w1.heap.size w1 => LX u.w u.h
      have uS0 := fun u : Later w1.heap.size w1 => S0 u.w u.h
      go_enter FG, Tryz.ntmps59
      repeat' (first | (go_at_call 12; with_reducible refine (hC _ (by assumption)).mono ?_; rintro e w' ⟨rfl, b⟩; have b' := then_ (w := w1) (by assumption) b; clear b; try dsimp only) | go_skip | go_guarded | go_step | go_upon)
      refine wp_region_base w1 (by assumption) (by first | assumption | kernel_rfl) (by kernel_rfl) ?_
      repeat (go_big_quiet_step (first | (go_at_call 21; with_reducible exact later_of (Nat.le_refl _) (hQ _ (Later.h _))) | (go_at_call 60; with_reducible exact later_of (Nat.le_refl _) (hO _ (Later.h _)))))
      refine wpQuiet_nil ?_
      rintro _ ⟨u, rfl⟩
      have bu := u.h
      repeat' (first | go_skip | go_guarded | go_step | go_upon)
      all_goals go_ret
      all_goals exact ⟨ret_int (by rw [R.out]; simp_all), then_ HX.out (by assumption)⟩
    · have T : decide (q < (i : Int)) = false := decide_eq_false hqi
      have uFX0 := fun u : Later w1.heap.size w1 => FX0 u.w u.h
      have uLX := fun u : Later w1.heap.size w1 => LX u.w u.h
      have uS0 := fun u : Later w1.heap.size w1 => S0 u.w u.h
      go_enter FG, Tryz.ntmps59
      repeat' (first | (go_at_call 12; with_reducible refine (hC _ (by assumption)).mono ?_; rintro e w' ⟨rfl, b⟩; have b' := then_ (w := w1) (by assumption) b; clear b; try dsimp only) | go_skip | go_guarded | go_step | go_upon)
      refine wp_region_base w1 (by assumption) (by first | assumption | kernel_rfl) (by kernel_rfl) ?_
      repeat (go_big_quiet_step (first | (go_at_call 21; with_reducible exact later_of (Nat.le_refl _) (hQ _ (Later.h _))) | (go_at_call 60; with_reducible exact later_of (Nat.le_refl _) (hO _ (Later.h _)))))
      refine wpQuiet_nil ?_
      rintro _ ⟨u, rfl⟩
      have bu := u.h
      repeat' (first | go_skip | go_guarded | go_step | go_upon)
      all_goals go_ret
      all_goals exact ⟨ret_int (by rw [R.out]; simp_all), then_ HX.out (by assumption)⟩
  · have h0b : (c != 0) = true := by simpa using h0
    go_enter FG, Tryz.ntmps59
    repeat' (first | (go_at_call 12; with_reducible refine (hC _ (by assumption)).mono ?_; rintro e w' ⟨rfl, b⟩; have b' := then_ (w := w1) (by assumption) b; clear b; try dsimp only) | go_skip | go_guarded | go_step | go_upon)
    go_ret
    exact ⟨ret_int (by rw [R.out, if_neg h0]), then_ HX.out (by assumption)⟩

set_option maxHeartbeats 1000000 in
theorem checkN (v : Value) (l : List Rtr) (w : World) (hn : NetIn w v l) :
    Calls Tryz.prog 15 #[.agg #[v]] w fun e w' => e = .returned (.int .i64 (netwE l)) ∧ Below w.heap.size w w' := by
  obtain ⟨w1, hw1⟩ : ∃ w1, w.alloc (.cells #[v] 48) = w1 := ⟨_, rfl⟩
  have hB : w1.heap[w.heap.size]? = some (.cells #[v] 48 (0, 0)) := by rw [← hw1, heap_new]
  have HX := hid (show Below w.heap.size w w1 by rw [← hw1]; exact new_below _ _)
  have hc := eachRtr v l 8 (routerE l) 59 #[.pointer (some ⟨w.heap.size, 0, none⟩)] (enters_of Tryz.func59 (by kernel_rfl) rfl) w1 (hn.keep HX.out).row.row hn.row.len
    (fun x hx => eRtr_one (hn.each x hx)) (fun W i x hx hbw => clChk v l i x _ W (hn.keep (then_ HX.out hbw)) (blk_keep hB hbw) hx)
  have R := hid (show netwE l = eachE 8 (routerE l) l from rfl)
  obtain ⟨e0, he⟩ : ∃ e0, e0 = eachE 8 (routerE l) l := ⟨_, rfl⟩
  rw [← he] at hc R
  rw [show ((8 : Nat) : Int) = 8 from rfl] at hc
  have GX : Below w1.heap.size w1 w1 := Below.refl _ _
  have c0 : w1.cell? ⟨w.heap.size, 0, none⟩ = some v := box_at hB rfl
  obtain ⟨a, cap, hv, -, -⟩ := rows_open (z := 25) (by decide) hn.row.row
  obtain ⟨m, hm⟩ : ∃ m, m = l.length := ⟨_, rfl⟩
  rw [← hm] at hv
  subst hv
  clear hB hn he hm
  go_enter Tryz.func15, Tryz.ntmps15
  repeat' (first | (go_at_call 58; with_reducible refine (hc).mono ?_; rintro e w' ⟨rfl, b⟩; have b' := then_ (w := w1) (by assumption) b; clear b; try dsimp only) | go_skip | go_guarded | go_step | go_upon)
  go_ret
  exact ⟨ret_int R.out.symm, then_ HX.out (by assumption)⟩
end Go.Proofs.YtmffbdohcnebdaaGreat.Mw
