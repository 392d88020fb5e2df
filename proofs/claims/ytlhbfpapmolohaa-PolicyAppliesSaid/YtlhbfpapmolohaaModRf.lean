/-
  THE CONTRACT OF netverifyref8.filters.
-/
import Derived.Test.YtlhbfpapmolohaaModRn
namespace Go.Proofs.Ytlhbfpapmolohaa.Mw
set_option linter.unusedSimpArgs false
set_option linter.unusedVariables false
open Go.RowKit Kt Mm Mp

theorem stopF {p : Prop} (h : Hid p) : p := h
def zeroIg : Array Value := #[.string ⟨#[]⟩, .int .u32 0, .int .i64 0, .int .i64 0, .bool false, .bool false, .int .i64 0, .int .i64 0, .bool false, .string ⟨#[]⟩, .string ⟨#[]⟩, .int .i64 0]
set_option maxHeartbeats 16000000 in
set_option maxRecDepth 4000 in
theorem rFilts (r : Rtr) (w : World) (hr : RtrIn w r) :
    Calls Try.prog 51 #[.agg (eRtr r).toArray] w fun e w' => e = .returned (.int .i64 (firstE (fun _ x => filtE r.acls x) 0 r.ifs)) ∧ Below w.heap.size w w' := by
  obtain ⟨l, hll⟩ : ∃ l, l = r.ifs := ⟨_, rfl⟩
  obtain ⟨X, hX⟩ : ∃ X, X = (eRtr r).toArray := ⟨_, rfl⟩
  obtain ⟨w1, hw1⟩ : ∃ w1, w.alloc (.cells X 55) = w1 := ⟨_, rfl⟩
  have hhX : w1.heap[w.heap.size]? = some (.cells X 55 (0, 0)) := by rw [← hw1, heap_new]
  have FX2 : ∀ v : World, Below w1.heap.size w1 v → v.cell? ⟨w.heap.size, 2, none⟩ = some (r.vIfs) := fun v h => box_at (blk_keep hhX h) (by rw [hX]; rfl)
  have KX : ∀ v : World, Below w1.heap.size w1 v → v.heap[w.heap.size]? = some (.cells X 55 (0, 0)) := fun v h => blk_keep hhX h
  have GX : Below w1.heap.size w1 w1 := Below.refl _ _
  have HX := hid (show Below w.heap.size w w1 by rw [← hw1]; exact new_below _ _)
  have hX' := hid hX
  try rw [← hX]
  clear hX hhX
  have hAc := fun wx (s : ByteArray) (h : Below w1.heap.size w1 wx) => rkAcl X r.vAcls r.acls s wx (by rw [hX'.out]; rfl) (hr.keep (then_ HX.out h)).acls.row hr.acls.len
  have hXs : X.size = 25 := by rw [hX'.out]; rfl
  have HR := hid (hr.keep HX.out)
  have hrow : IsRow eIfc 12 w1 r.vIfs l := by rw [hll]; exact HR.out.ifs.row
  have hl : l.length ≤ 9223372036854775807 := by rw [hll]; exact hr.ifs.len
  rw [← hll]
  obtain ⟨a, cap, hv, hcap, hcell⟩ := rows_open (z := 12) (by decide) hrow
  obtain ⟨n, hn⟩ : ∃ n, n = l.length := ⟨_, rfl⟩
  rw [← hn] at hl hcap hcell hv
  rw [hv] at FX2
  have N := hid hn
  have HC := hid hcell
  clear hn hrow hcell hr hll hv
  obtain ⟨P, hP⟩ : ∃ P, P = Try.prog := ⟨_, rfl⟩
  have HP := hid hP
  have mixed : P.follows .mixedOrders = true := by rw [hP]; kernel_rfl
  have FG : P.funcs[51]? = some Try.f51 := by rw [hP]; exact Try.func51
  obtain ⟨zRouter, hzRouter⟩ : ∃ z, z = 25 := ⟨_, rfl⟩
  have nzRouter : ¬ zRouter = 0 := by omega
  obtain ⟨zInterface, hzInterface⟩ : ∃ z, z = 12 := ⟨_, rfl⟩
  have nzInterface : ¬ zInterface = 0 := by omega
  have ty3 := Try.underlying3; have ag3 := Try.isAgg3; have sz3 := Try.sizeOf3; have ru3 := Try.runUnderlying3
  have ty9 := Try.underlying9; have ag9 := Try.isAgg9; have sz9 := Try.sizeOf9; have ru9 := Try.runUnderlying9
  have ty36 := Try.underlying36; have ag36 := Try.isAgg36; have sz36 := Try.sizeOf36; have ru36 := Try.runUnderlying36
  have ty55 := Try.underlying55; have ag55 := Try.isAgg55; have sz55 := Try.sizeOf55; have ru55 := Try.runUnderlying55
  rw [← hzRouter] at sz55
  have ty106 := Try.underlying106; have ag106 := Try.isAgg106; have sz106 := Try.sizeOf106; have ru106 := Try.runUnderlying106
  rw [← hzInterface] at sz106
  have zeInterface := Try.zeroValue106
  have en0 : ∀ args w, (callFunc 65 args).run Try.prog w = .ok (.enter 65 args) w := enters_of Try.func65 (by kernel_rfl) rfl
  rw [← hP] at ty3 ag3 sz3 ru3 ty9 ag9 sz9 ru9 ty36 ag36 sz36 ru36 ty55 ag55 sz55 ru55 ty106 ag106 sz106 ru106 zeInterface en0 hAc ⊢
  clear hP
  have LX : ∀ v : World, Below w1.heap.size w1 v → Sem.run P (loadCellsFrom ⟨w.heap.size, 0, none⟩ 0 zRouter #[]) v = .ok X v := fun v h => ld_box P (KX v h) (by rw [hzRouter]; exact hXs)
  have ZR := hid hzRouter
  have ZI := hid hzInterface
  clear hzRouter hzInterface KX
  go_enter FG, Try.ntmps51
  repeat' (first | go_skip | go_guarded | go_step | go_upon)
  go_loopg [3] n (fun gg s3 wr => ∃ k : Nat, k ≤ n ∧ n - k ≤ gg ∧ s3 = .int .i64 k ∧ Below w1.heap.size w1 wr ∧ Aside (firstE (fun _ x => filtE r.acls x) 0 l = firstE (fun _ x => filtE r.acls x) k (l.drop k)))
  case atStart => exact ⟨0, Nat.zero_le _, by omega, rfl, by assumption, rfl⟩
  case round =>
    obtain ⟨k, hk, hg, rfl, hwr, E⟩ := hrel
    have fx := FX2 wr hwr
    by_cases hlt : k < n
    · have hlti : (k : Int) < (n : Int) := by omega
      have hk0 : (0 : Int) ≤ (k : Int) := by omega
      obtain ⟨x, hx⟩ := get_some (l := l) (k := k) (by have := N.out; omega)
      obtain ⟨b, off, rfl, hb, hc⟩ := HC.out (by omega)
      have LY : Sem.run P (loadCellsFrom ⟨b, off + k * zInterface, none⟩ 0 zInterface #[]) wr = .ok (eIfc x).toArray wr := by
        rw [ZI.out]; exact ld_row (f := eIfc) (z := 12) P (fun _ => rfl) (fun j u hj => (hwr.cell (p := ⟨b, off + j, none⟩) hb).trans (hc j u hj)) hx
      obtain ⟨Y, hY⟩ : ∃ Y, Y = (eIfc x).toArray := ⟨_, rfl⟩
      have hYs : Y.size = 12 := by rw [hY]; rfl
      have hY1 := hid (show Y.all (·.oneCell') = true by rw [hY]; simp [eIfc, one_str, one_int, one_bool])
      have y9 : Y[9]? = some (.string x.inn) := by rw [hY]; rfl
      have y10 : Y[10]? = some (.string x.out) := by rw [hY]; rfl
      rw [← hY] at LY
      have D := hid (drop_get hx)
      clear hY hx hc
      repeat' ((fail_if_success (with_reducible show Hid _)); (first | ((with_reducible show Oper.wp _ ⟨_, .store 106 _ _, _, _, _, _⟩ _ _ _ _); refine stopF ?_) | go_skip | go_guarded | go_step | go_upon))
      refine hid ?_
      refine wp_store_box (w := wr.alloc (.cells zeroIg 106)) 106 _ _ (by rfl) (g := wr.heap.size) (cur := zeroIg) (X := Y) (by rfl) (by rfl) (by intro v; rw [hYs, ← ZI.out]; first | exact sz106 v | assumption) (heap_new _ _) (by rw [hYs]; rfl) hY1.out ?_
      intro w4 h1 h2 h3
      have HB4 := hid (show Below wr.heap.size wr w4 from (al1 wr _).trans (h3 _ (Nat.le_refl _)))
      have HW4 := hid (then_ (show Below w1.heap.size w1 wr from hwr) HB4.out)
      have G4 : Below w4.heap.size w4 w4 := Below.refl _ _
      have FY9 : ∀ v : World, Below w4.heap.size w4 v → v.cell? ⟨wr.heap.size, 9, none⟩ = some (.string x.inn) := fun v h => box_at (blk_keep h1 h) y9
      have FY10 : ∀ v : World, Below w4.heap.size w4 v → v.cell? ⟨wr.heap.size, 10, none⟩ = some (.string x.out) := fun v h => box_at (blk_keep h1 h) y10
      have LX4 := fun (v : World) (h : Below w4.heap.size w4 v) => LX v (then_ HW4.out h)
      have dI := fun wx (h : Below w4.heap.size w4 wx) => hAc wx x.inn (then_ HW4.out h)
      have dO := fun wx (h : Below w4.heap.size w4 wx) => hAc wx x.out (then_ HW4.out h)
      obtain ⟨qi, hqi⟩ : ∃ q, q = acIx r.acls x.inn := ⟨_, rfl⟩
      obtain ⟨qo, hqo⟩ : ∃ q, q = acIx r.acls x.out := ⟨_, rfl⟩
      have hqi2 : ixB (fun y : Acl => y.name.toList == x.inn.toList) r.acls = qi := hqi.symm
      have hqo2 : ixB (fun y : Acl => y.name.toList == x.out.toList) r.acls = qo := hqo.symm
      rw [hqi2] at dI
      rw [hqo2] at dO
      have FE := hid (show filtE r.acls x = if unk x.inn qi || unk x.out qo then 5 else 0 by rw [hqi, hqo]; rfl)
      clear h1 h2 h3 LY hYs y9 y10 hqi hqo hqi2 hqo2 fx
      cases si : x.inn.toList.isEmpty with
      | true =>
        cases so : x.out.toList.isEmpty with
        | true =>
          have Q2 := hid (show filtE r.acls x = 0 by rw [FE.out]; unfold unk noS; simp [si, so])
          repeat' (first | (go_at_call 65; with_reducible refine (dI _ (by assumption)).mono ?_; rintro e w' ⟨rfl, b⟩; have b' := then_ (w := w4) (by assumption) b; clear b; try dsimp only) | (go_at_call 65; with_reducible refine (dO _ (by assumption)).mono ?_; rintro e w' ⟨rfl, b⟩; have b' := then_ (w := w4) (by assumption) b; clear b; try dsimp only) | go_skip | go_guarded | go_step | go_upon)
          go_roundg (n - (k + 1))
          case measure => omega
          case rel => exact ⟨k + 1, by omega, by omega, by go_num, then_ HW4.out (by assumption), by show _ = _; rw [E.out, D.out]; exact firstE_next Q2.out⟩
        | false =>
          by_cases no : qo < 0
          · have To : decide (qo < 0) = true := decide_eq_true no
            have Q2 := hid (show filtE r.acls x = 5 by rw [FE.out]; unfold unk noS; simp [so, no])
            repeat' (first | (go_at_call 65; with_reducible refine (dI _ (by assumption)).mono ?_; rintro e w' ⟨rfl, b⟩; have b' := then_ (w := w4) (by assumption) b; clear b; try dsimp only) | (go_at_call 65; with_reducible refine (dO _ (by assumption)).mono ?_; rintro e w' ⟨rfl, b⟩; have b' := then_ (w := w4) (by assumption) b; clear b; try dsimp only) | go_skip | go_guarded | go_step | go_upon)
            (try simp only [Exit.inBlock, Exit.then]); refine bodyPost_ret (results_tmp (by rfl) _ _ _) (by rfl) ?_
            exact ⟨ret_int (by rw [E.out, D.out]; refine ((firstE_hit (by rw [Q2.out]; simp)).trans ?_).symm; rw [Q2.out]), then_ HX.out (then_ HW4.out (by assumption))⟩
          · have To : decide (qo < 0) = false := decide_eq_false no
            have Q2 := hid (show filtE r.acls x = 0 by rw [FE.out]; unfold unk noS; simp [si, so, no])
            repeat' (first | (go_at_call 65; with_reducible refine (dI _ (by assumption)).mono ?_; rintro e w' ⟨rfl, b⟩; have b' := then_ (w := w4) (by assumption) b; clear b; try dsimp only) | (go_at_call 65; with_reducible refine (dO _ (by assumption)).mono ?_; rintro e w' ⟨rfl, b⟩; have b' := then_ (w := w4) (by assumption) b; clear b; try dsimp only) | go_skip | go_guarded | go_step | go_upon)
            go_roundg (n - (k + 1))
            case measure => omega
            case rel => exact ⟨k + 1, by omega, by omega, by go_num, then_ HW4.out (by assumption), by show _ = _; rw [E.out, D.out]; exact firstE_next Q2.out⟩
      | false =>
        by_cases ni : qi < 0
        · have Ti : decide (qi < 0) = true := decide_eq_true ni
          have Q2 := hid (show filtE r.acls x = 5 by rw [FE.out]; unfold unk noS; simp [si, ni])
          repeat' (first | (go_at_call 65; with_reducible refine (dI _ (by assumption)).mono ?_; rintro e w' ⟨rfl, b⟩; have b' := then_ (w := w4) (by assumption) b; clear b; try dsimp only) | (go_at_call 65; with_reducible refine (dO _ (by assumption)).mono ?_; rintro e w' ⟨rfl, b⟩; have b' := then_ (w := w4) (by assumption) b; clear b; try dsimp only) | go_skip | go_guarded | go_step | go_upon)
          (try simp only [Exit.inBlock, Exit.then]); refine bodyPost_ret (results_tmp (by rfl) _ _ _) (by rfl) ?_
          exact ⟨ret_int (by rw [E.out, D.out]; refine ((firstE_hit (by rw [Q2.out]; simp)).trans ?_).symm; rw [Q2.out]), then_ HX.out (then_ HW4.out (by assumption))⟩
        · have Ti : decide (qi < 0) = false := decide_eq_false ni
          cases so : x.out.toList.isEmpty with
          | true =>
            have Q2 := hid (show filtE r.acls x = 0 by rw [FE.out]; unfold unk noS; simp [si, ni, so])
            repeat' (first | (go_at_call 65; with_reducible refine (dI _ (by assumption)).mono ?_; rintro e w' ⟨rfl, b⟩; have b' := then_ (w := w4) (by assumption) b; clear b; try dsimp only) | (go_at_call 65; with_reducible refine (dO _ (by assumption)).mono ?_; rintro e w' ⟨rfl, b⟩; have b' := then_ (w := w4) (by assumption) b; clear b; try dsimp only) | go_skip | go_guarded | go_step | go_upon)
            go_roundg (n - (k + 1))
            case measure => omega
            case rel => exact ⟨k + 1, by omega, by omega, by go_num, then_ HW4.out (by assumption), by show _ = _; rw [E.out, D.out]; exact firstE_next Q2.out⟩
          | false =>
            by_cases no : qo < 0
            · have To : decide (qo < 0) = true := decide_eq_true no
              have Q2 := hid (show filtE r.acls x = 5 by rw [FE.out]; unfold unk noS; simp [so, no])
              repeat' (first | (go_at_call 65; with_reducible refine (dI _ (by assumption)).mono ?_; rintro e w' ⟨rfl, b⟩; have b' := then_ (w := w4) (by assumption) b; clear b; try dsimp only) | (go_at_call 65; with_reducible refine (dO _ (by assumption)).mono ?_; rintro e w' ⟨rfl, b⟩; have b' := then_ (w := w4) (by assumption) b; clear b; try dsimp only) | go_skip | go_guarded | go_step | go_upon)
              (try simp only [Exit.inBlock, Exit.then]); refine bodyPost_ret (results_tmp (by rfl) _ _ _) (by rfl) ?_
              exact ⟨ret_int (by rw [E.out, D.out]; refine ((firstE_hit (by rw [Q2.out]; simp)).trans ?_).symm; rw [Q2.out]), then_ HX.out (then_ HW4.out (by assumption))⟩
            · have To : decide (qo < 0) = false := decide_eq_false no
              have Q2 := hid (show filtE r.acls x = 0 by rw [FE.out]; unfold unk noS; simp [si, ni, so, no])
              repeat' (first | (go_at_call 65; with_reducible refine (dI _ (by assumption)).mono ?_; rintro e w' ⟨rfl, b⟩; have b' := then_ (w := w4) (by assumption) b; clear b; try dsimp only) | (go_at_call 65; with_reducible refine (dO _ (by assumption)).mono ?_; rintro e w' ⟨rfl, b⟩; have b' := then_ (w := w4) (by assumption) b; clear b; try dsimp only) | go_skip | go_guarded | go_step | go_upon)
              go_roundg (n - (k + 1))
              case measure => omega
              case rel => exact ⟨k + 1, by omega, by omega, by go_num, then_ HW4.out (by assumption), by show _ = _; rw [E.out, D.out]; exact firstE_next Q2.out⟩
    · have hlti : ¬ (k : Int) < (n : Int) := by omega
      repeat' (first | go_skip | go_guarded | go_step | go_upon)
      go_ret
      exact ⟨ret_int (by rw [E.out, drop_end (by have := N.out; omega)]; rfl), then_ HX.out (by assumption)⟩
end Go.Proofs.Ytlhbfpapmolohaa.Mw
