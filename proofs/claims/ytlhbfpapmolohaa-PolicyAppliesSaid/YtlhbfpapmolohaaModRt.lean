/-
  THE CONTRACT OF netverifyref8.translations.
-/
import Derived.Test.YtlhbfpapmolohaaModRm
import Derived.Test.YtlhbfpapmolohaaModE
import Derived.Test.YtlhbfpapmolohaaStoreBox
namespace Go.Proofs.Ytlhbfpapmolohaa.Mw
set_option linter.unusedSimpArgs false
set_option linter.unusedVariables false
open Go.RowKit Kt Mm Mp Am

theorem stopT {p : Prop} (h : Hid p) : p := h
def zeroTr : Array Value := #[.int .i64 0, .int .u32 0, .int .u32 0, .int .i64 0, .int .i64 0, .int .i64 0, .string ⟨#[]⟩, .int .u32 0, .int .u32 0]
theorem nos_iff (s : ByteArray) : decide (s = ⟨#[]⟩) = noS s := by
  rw [← str_dec s ⟨#[]⟩, Sc.toList_nil ⟨#[]⟩ rfl]
  unfold noS
  cases s.toList <;> rfl
theorem bnt {b : Bool} (h : (!b) = false) : b = true := by cases b; cases h; rfl
theorem bnf {b : Bool} (h : (!b) = true) : b = false := by cases b; rfl; cases h
theorem tran1 (x : Tran) (h : x.kind = 1) : tranOk x = (!decide (x.ins = 0) && !decide (x.outs = 0) && decide (x = ⟨1, x.ins, x.outs, 0, 0, 0, ⟨#[]⟩, 0, 0⟩)) := by
  have e : decide (x = ⟨1, x.ins, x.outs, 0, 0, 0, ⟨#[]⟩, 0, 0⟩) = (decide (x.proto = 0) && decide (x.iport = 0) && decide (x.oport = 0) && noS x.lst && decide (x.lo = 0) && decide (x.hi = 0)) := by
    rw [← nos_iff]; cases x; simp at h ⊢; rw [Bool.eq_iff_iff]; simp [h, and_assoc]
  unfold tranOk; rw [if_pos h, e]
theorem tran2 (x : Tran) (h : x.kind = 2) : tranOk x = (!decide (x.lo = 0) && decide (x.lo ≤ x.hi) && decide (x.hi - x.lo < 8) && decide (x = ⟨2, 0, 0, 0, 0, 0, x.lst, x.lo, x.hi⟩)) := by
  have e : decide (x = ⟨2, 0, 0, 0, 0, 0, x.lst, x.lo, x.hi⟩) = (decide (x.ins = 0) && decide (x.outs = 0) && decide (x.proto = 0) && decide (x.iport = 0) && decide (x.oport = 0)) := by
    cases x; simp at h ⊢; rw [Bool.eq_iff_iff]; simp [h, and_assoc]
  unfold tranOk; rw [if_neg (by omega), if_pos h, e]
theorem tran3 (x : Tran) (h : x.kind = 3) : tranOk x = (!decide (x.ins = 0) && !decide (x.outs = 0) && (decide (x.proto = 6) || decide (x.proto = 17)) && wi x.iport 0 65535 && wi x.oport 0 65535 && noS x.lst && decide (x.lo = 0) && decide (x.hi = 0)) := by
  unfold tranOk portOk; rw [if_neg (by omega), if_neg (by omega), if_pos h]
theorem tran0 (x : Tran) (h1 : ¬ x.kind = 1) (h2 : ¬ x.kind = 2) (h3 : ¬ x.kind = 3) : tranOk x = false := by
  unfold tranOk; rw [if_neg h1, if_neg h2, if_neg h3]

set_option maxHeartbeats 16000000 in
set_option maxRecDepth 4000 in
theorem rNat (r : Rtr) (w : World) (hr : RtrIn w r) :
    Calls Try.prog 50 #[.agg (eRtr r).toArray] w fun e w' => e = .returned (.int .i64 (natE r.acls r.nat)) ∧ Below w.heap.size w w' := by
  obtain ⟨l, hll⟩ : ∃ l, l = r.nat := ⟨_, rfl⟩
  have hWi := fun (p q t : Int) wx => rWithin p q t wx
  obtain ⟨X, hX⟩ : ∃ X, X = (eRtr r).toArray := ⟨_, rfl⟩
  obtain ⟨w1, hw1⟩ : ∃ w1, w.alloc (.cells X 55) = w1 := ⟨_, rfl⟩
  have hhX : w1.heap[w.heap.size]? = some (.cells X 55 (0, 0)) := by rw [← hw1, heap_new]
  have FX6 : ∀ v : World, Below w1.heap.size w1 v → v.cell? ⟨w.heap.size, 6, none⟩ = some (r.vNat) := fun v h => box_at (blk_keep hhX h) (by rw [hX]; rfl)
  have KX : ∀ v : World, Below w1.heap.size w1 v → v.heap[w.heap.size]? = some (.cells X 55 (0, 0)) := fun v h => blk_keep hhX h
  have GX : Below w1.heap.size w1 w1 := Below.refl _ _
  have HX := hid (show Below w.heap.size w w1 by rw [← hw1]; exact new_below _ _)
  have hX' := hid hX
  try rw [← hX]
  clear hX hhX
  have hAc := fun wx (s : ByteArray) (h : Below w1.heap.size w1 wx) => rkAcl X r.vAcls r.acls s wx (by rw [hX'.out]; rfl) (hr.keep (then_ HX.out h)).acls.row hr.acls.len
  have hEq := fun (x y : Tran) wx => eqInTran 9998 x y wx
  simp only [Nat.reduceAdd] at hEq
  have hgd : ∀ (op : BinOp) (a b : Operand) (X Y : Array Value) (w : World), (eqGuard op 118 a b (.agg X) (.agg Y)).run Try.prog w = .ok () w := fun op a b X Y w => run_eqGuard_agg w op _ a b X Y (by kernel_rfl)
  have hXs : X.size = 25 := by rw [hX'.out]; rfl
  have HR := hid (hr.keep HX.out)
  have RA := hid hr.natA
  have hrow : IsRow eTran 9 w1 r.vNat l := by rw [hll]; exact HR.out.nat.row
  have hl : l.length ≤ 9223372036854775807 := by rw [hll]; exact hr.nat.len
  rw [← hll] at RA
  have R0 := hid (show natE r.acls l = if 8 < l.length then 7 else firstE (fun _ x => tranE r.acls x) 0 l from rfl)
  rw [← hll]
  obtain ⟨a, cap, hv, hcap, hcell⟩ := rows_open (z := 9) (by decide) hrow
  obtain ⟨n, hn⟩ : ∃ n, n = l.length := ⟨_, rfl⟩
  rw [← hn] at hl hcap hcell hv R0
  rw [hv] at FX6
  have N := hid hn
  have HC := hid hcell
  clear hn hrow hcell hr hll hv
  obtain ⟨P, hP⟩ : ∃ P, P = Try.prog := ⟨_, rfl⟩
  have HP := hid hP
  have mixed : P.follows .mixedOrders = true := by rw [hP]; kernel_rfl
  have FG : P.funcs[50]? = some Try.f50 := by rw [hP]; exact Try.func50
  obtain ⟨zRouter, hzRouter⟩ : ∃ z, z = 25 := ⟨_, rfl⟩
  have nzRouter : ¬ zRouter = 0 := by omega
  obtain ⟨zTranslation, hzTranslation⟩ : ∃ z, z = 9 := ⟨_, rfl⟩
  have nzTranslation : ¬ zTranslation = 0 := by omega
  have ty3 := Try.underlying3; have ag3 := Try.isAgg3; have sz3 := Try.sizeOf3; have ru3 := Try.runUnderlying3
  have ty4 := Try.underlying4; have ag4 := Try.isAgg4; have sz4 := Try.sizeOf4; have ru4 := Try.runUnderlying4
  have ty9 := Try.underlying9; have ag9 := Try.isAgg9; have sz9 := Try.sizeOf9; have ru9 := Try.runUnderlying9
  have ty40 := Try.underlying40; have ag40 := Try.isAgg40; have sz40 := Try.sizeOf40; have ru40 := Try.runUnderlying40
  have ty55 := Try.underlying55; have ag55 := Try.isAgg55; have sz55 := Try.sizeOf55; have ru55 := Try.runUnderlying55
  rw [← hzRouter] at sz55
  have ty25 := Try.underlying25; have ag25 := Try.isAgg25; have sz25 := Try.sizeOf25; have ru25 := Try.runUnderlying25
  have ty118 := Try.underlying118; have ag118 := Try.isAgg118; have sz118 := Try.sizeOf118; have ru118 := Try.runUnderlying118
  rw [← hzTranslation] at sz118
  have zeTranslation := Try.zeroValue118
  have en0 : ∀ args w, (callFunc 65 args).run Try.prog w = .ok (.enter 65 args) w := enters_of Try.func65 (by kernel_rfl) rfl
  have en1 : ∀ args w, (callFunc 45 args).run Try.prog w = .ok (.enter 45 args) w := enters_of Try.func45 (by kernel_rfl) rfl
  rw [← hP] at ty3 ag3 sz3 ru3 ty4 ag4 sz4 ru4 ty9 ag9 sz9 ru9 ty40 ag40 sz40 ru40 ty55 ag55 sz55 ru55 ty25 ag25 sz25 ru25 ty118 ag118 sz118 ru118 zeTranslation en0 en1 hWi hAc hEq hgd ⊢
  clear hP
  have LX : ∀ v : World, Below w1.heap.size w1 v → Sem.run P (loadCellsFrom ⟨w.heap.size, 0, none⟩ 0 zRouter #[]) v = .ok X v := fun v h => ld_box P (KX v h) (by rw [hzRouter]; exact hXs)
  have ZR := hid hzRouter
  have ZT := hid hzTranslation
  clear hzRouter hzTranslation KX
  by_cases h8 : 8 < n
  · have h8i : (8 : Int) < (n : Int) := by omega
    go_enter FG, Try.ntmps50
    repeat' (first | go_skip | go_guarded | go_step | go_upon)
    go_ret
    exact ⟨ret_int (by rw [R0.out, if_pos h8]), HX.out⟩
  have h8i : ¬ (8 : Int) < (n : Int) := by omega
  have R1 := hid (R0.out.trans (if_neg h8))
  go_enter FG, Try.ntmps50
  repeat' (first | go_skip | go_guarded | go_step | go_upon)
  clear R0 h8 h8i
  go_loopg [3] n (fun gg s3 wr => ∃ k : Nat, k ≤ n ∧ n - k ≤ gg ∧ s3 = .int .i64 k ∧ Below w1.heap.size w1 wr ∧ Aside (natE r.acls l = firstE (fun _ x => tranE r.acls x) k (l.drop k)))
  case atStart => exact ⟨0, Nat.zero_le _, by omega, rfl, by assumption, R1.out⟩
  case round =>
    obtain ⟨k, hk, hg, rfl, hwr, E⟩ := hrel
    have x6 := FX6 wr hwr
    by_cases hlt : k < n
    · have hlti : (k : Int) < (n : Int) := by omega
      have hk0 : (0 : Int) ≤ (k : Int) := by omega
      obtain ⟨x, hx⟩ := get_some (l := l) (k := k) (by have := N.out; omega)
      have hm := get_mem hx
      obtain ⟨b, off, rfl, hb, hc⟩ := HC.out (by omega)
      have LY0 : Sem.run P (loadCellsFrom ⟨b, off + k * zTranslation, none⟩ 0 zTranslation #[]) wr = .ok (eTran x).toArray wr := by
        rw [ZT.out]; exact ld_row (f := eTran) (z := 9) P (fun _ => rfl) (fun j u hj => (hwr.cell (p := ⟨b, off + j, none⟩) hb).trans (hc j u hj)) hx
      have hA1 := RA.out x hm
      have q1 := fun wx => hEq x ⟨1, x.ins, x.outs, 0, 0, 0, ⟨#[]⟩, 0, 0⟩ wx
      have q2 := fun wx => hEq x ⟨2, 0, 0, 0, 0, 0, x.lst, x.lo, x.hi⟩ wx
      obtain ⟨Y, hY⟩ : ∃ Y, Y = (eTran x).toArray := ⟨_, rfl⟩
      have hYs : Y.size = 9 := by rw [hY]; rfl
      have hY1 := hid (show Y.all (·.oneCell') = true by rw [hY]; simp [eTran, one_str, one_int, one_bool])
      have y0 : Y[0]? = some (.int .i64 x.kind) := by rw [hY]; rfl
      have y1 : Y[1]? = some (.int .u32 (x.ins : Int)) := by rw [hY]; rfl
      have y2 : Y[2]? = some (.int .u32 (x.outs : Int)) := by rw [hY]; rfl
      have y3 : Y[3]? = some (.int .i64 x.proto) := by rw [hY]; rfl
      have y4 : Y[4]? = some (.int .i64 x.iport) := by rw [hY]; rfl
      have y5 : Y[5]? = some (.int .i64 x.oport) := by rw [hY]; rfl
      have y6 : Y[6]? = some (.string x.lst) := by rw [hY]; rfl
      have y7 : Y[7]? = some (.int .u32 (x.lo : Int)) := by rw [hY]; rfl
      have y8 : Y[8]? = some (.int .u32 (x.hi : Int)) := by rw [hY]; rfl
      rw [← hY] at LY0 q1 q2
      simp only [eTran, Int.natCast_zero] at q1 q2
      obtain ⟨e1, he1⟩ : ∃ q, q = decide (x = ⟨1, x.ins, x.outs, 0, 0, 0, ⟨#[]⟩, 0, 0⟩) := ⟨_, rfl⟩
      obtain ⟨e2, he2⟩ : ∃ q, q = decide (x = ⟨2, 0, 0, 0, 0, 0, x.lst, x.lo, x.hi⟩) := ⟨_, rfl⟩
      rw [← he1] at q1
      rw [← he2] at q2
      have HE1 := hid he1
      have HE2 := hid he2
      have D := hid (drop_get hx)
      clear hY he1 he2 hx hc
      repeat' ((fail_if_success (with_reducible show Hid _)); (first | ((with_reducible show Oper.wp _ ⟨_, .store 118 _ _, _, _, _, _⟩ _ _ _ _); refine stopT ?_) | go_skip | go_guarded | go_step | go_upon))
      refine hid ?_
      refine wp_store_box (w := wr.alloc (.cells zeroTr 118)) 118 _ _ (by rfl) (g := wr.heap.size) (cur := zeroTr) (X := Y) (by rfl) (by rfl) (by intro v; rw [hYs, ← ZT.out]; first | exact sz118 v | assumption) (heap_new _ _) (by rw [hYs]; rfl) hY1.out ?_
      intro w4 h1 h2 h3
      have HB4 := hid (show Below wr.heap.size wr w4 from (al1 wr _).trans (h3 _ (Nat.le_refl _)))
      have HW4 := hid (then_ (show Below w1.heap.size w1 wr from hwr) HB4.out)
      have G4 : Below w4.heap.size w4 w4 := Below.refl _ _
      have FY0 : ∀ v : World, Below w4.heap.size w4 v → v.cell? ⟨wr.heap.size, 0, none⟩ = some (.int .i64 x.kind) := fun v h => box_at (blk_keep h1 h) y0
      have FY1 : ∀ v : World, Below w4.heap.size w4 v → v.cell? ⟨wr.heap.size, 1, none⟩ = some (.int .u32 (x.ins : Int)) := fun v h => box_at (blk_keep h1 h) y1
      have FY2 : ∀ v : World, Below w4.heap.size w4 v → v.cell? ⟨wr.heap.size, 2, none⟩ = some (.int .u32 (x.outs : Int)) := fun v h => box_at (blk_keep h1 h) y2
      have FY3 : ∀ v : World, Below w4.heap.size w4 v → v.cell? ⟨wr.heap.size, 3, none⟩ = some (.int .i64 x.proto) := fun v h => box_at (blk_keep h1 h) y3
      have FY4 : ∀ v : World, Below w4.heap.size w4 v → v.cell? ⟨wr.heap.size, 4, none⟩ = some (.int .i64 x.iport) := fun v h => box_at (blk_keep h1 h) y4
      have FY5 : ∀ v : World, Below w4.heap.size w4 v → v.cell? ⟨wr.heap.size, 5, none⟩ = some (.int .i64 x.oport) := fun v h => box_at (blk_keep h1 h) y5
      have FY6 : ∀ v : World, Below w4.heap.size w4 v → v.cell? ⟨wr.heap.size, 6, none⟩ = some (.string x.lst) := fun v h => box_at (blk_keep h1 h) y6
      have FY7 : ∀ v : World, Below w4.heap.size w4 v → v.cell? ⟨wr.heap.size, 7, none⟩ = some (.int .u32 (x.lo : Int)) := fun v h => box_at (blk_keep h1 h) y7
      have FY8 : ∀ v : World, Below w4.heap.size w4 v → v.cell? ⟨wr.heap.size, 8, none⟩ = some (.int .u32 (x.hi : Int)) := fun v h => box_at (blk_keep h1 h) y8
      have LY : ∀ v : World, Below w4.heap.size w4 v → Sem.run P (loadCellsFrom ⟨wr.heap.size, 0, none⟩ 0 zTranslation #[]) v = .ok Y v := fun v h => ld_box P (blk_keep h1 h) (by rw [ZT.out]; exact hYs)
      obtain ⟨g, hgb⟩ : ∃ g, g = wr.heap.size := ⟨_, rfl⟩
      rw [← hgb] at FY0 FY1 FY2 FY3 FY4 FY5 FY6 FY7 FY8 LY ⊢
      clear h1 h2 h3 hYs hgb
      clear y0 y1 y2 y3 y4 y5 y6 y7 y8 LY0
      have TE := hid (show tranE r.acls x = if !tranOk x then 1 else if decide (x.kind = 2) && decide (acIx r.acls x.lst < 0) then 5 else 0 from rfl)
      have dA := fun wx (h : Below w4.heap.size w4 wx) => hAc wx x.lst (then_ HW4.out h)
      obtain ⟨qa, hq⟩ : ∃ q, q = acIx r.acls x.lst := ⟨_, rfl⟩
      have hq2 : ixB (fun y : Acl => y.name.toList == x.lst.toList) r.acls = qa := hq.symm
      rw [hq2] at dA
      rw [← hq] at TE
      have d1 := fun wx => hWi x.iport 0 65535 wx
      have d2 := fun wx => hWi x.oport 0 65535 wx
      obtain ⟨a1, ha1⟩ : ∃ q, q = wi x.iport 0 65535 := ⟨_, rfl⟩
      obtain ⟨a2, ha2⟩ : ∃ q, q = wi x.oport 0 65535 := ⟨_, rfl⟩
      have HA1 := hid ha1
      have HA2 := hid ha2
      rw [← ha1] at d1
      rw [← ha2] at d2
      have LX4 := fun (v : World) (h : Below w4.heap.size w4 v) => LX v (then_ HW4.out h)
      have FX4 := fun (v : World) (h : Below w4.heap.size w4 v) => FX6 v (then_ HW4.out h)
      clear hq hq2 ha1 ha2 hWi hAc hEq LX FX6 x6
      by_cases k1 : x.kind = 1
      · rw [k1] at FY0
        obtain ⟨b1, hb1⟩ : ∃ q, ((x.ins : Int) != 0) = q := ⟨_, rfl⟩
        have Hb1 := hid hb1
        obtain ⟨b2, hb2⟩ : ∃ q, ((x.outs : Int) != 0) = q := ⟨_, rfl⟩
        have Hb2 := hid hb2
        have TE2 := hid (show tranE r.acls x = if !(b1 && b2 && e1) then 1 else 0 by rw [TE.out, tran1 x k1, ← HE1.out, ← Hb1.out, ← Hb2.out, k1]; simp)
        clear k1 q2 hA1
        repeat' (first | (go_at_call 45; with_reducible refine (d1 _).mono ?_; rintro e w' ⟨rfl, rfl⟩; try dsimp only) | (go_at_call 45; with_reducible refine (d2 _).mono ?_; rintro e w' ⟨rfl, rfl⟩; try dsimp only) | (go_at_call 65; with_reducible refine (dA _ (by assumption)).mono ?_; rintro e w' ⟨rfl, b⟩; have b' := then_ (w := w4) (by assumption) b; clear b; try dsimp only) | go_skip | go_big_skip | go_big_want | go_big_guard | go_step | go_upon)
        all_goals first | ((try simp only [Exit.inBlock, Exit.then]); refine bodyPost_ret (results_tmp (by rfl) _ _ _) (by rfl) ?_; refine ⟨ret_int (a := 1) ?_, then_ HX.out (then_ HW4.out (by assumption))⟩; have Q2 : tranE r.acls x = 1 := (by rw [TE2.out]; first | (simp [(show b1 = false by first | assumption | exact bnf (by assumption))]; done) | (simp [(show b2 = false by first | assumption | exact bnf (by assumption))]; done) | (simp [(show e1 = false by first | assumption | exact bnf (by assumption))]; done) | (simp [(show b1 = true by first | assumption | exact bnt (by assumption)), (show b2 = true by first | assumption | exact bnt (by assumption)), (show e1 = true by first | assumption | exact bnt (by assumption))]; done)); rw [E.out, D.out]; refine ((firstE_hit (f := fun _ x => tranE r.acls x) (by rw [Q2]; simp)).trans ?_).symm; rw [Q2]) | (go_roundg (n - (k + 1)); (case measure => omega); (case rel => exact ⟨k + 1, by omega, by omega, by go_num, then_ HW4.out (by assumption), by have Q2 : tranE r.acls x = 0 := (by rw [TE2.out]; first | (simp [(show b1 = false by first | assumption | exact bnf (by assumption))]; done) | (simp [(show b2 = false by first | assumption | exact bnf (by assumption))]; done) | (simp [(show e1 = false by first | assumption | exact bnf (by assumption))]; done) | (simp [(show b1 = true by first | assumption | exact bnt (by assumption)), (show b2 = true by first | assumption | exact bnt (by assumption)), (show e1 = true by first | assumption | exact bnt (by assumption))]; done)); show _ = _; rw [E.out, D.out]; exact firstE_next (f := fun _ x => tranE r.acls x) Q2⟩))
      by_cases k2 : x.kind = 2
      · rw [k2] at FY0
        obtain ⟨b1, hb1⟩ : ∃ q, ((x.lo : Int) != 0) = q := ⟨_, rfl⟩
        have Hb1 := hid hb1
        obtain ⟨b4, hb4⟩ : ∃ q, (decide (qa < 0)) = q := ⟨_, rfl⟩
        have Hb4 := hid hb4
        by_cases hle : x.lo ≤ x.hi
        · have hle' : (x.lo : Int) ≤ (x.hi : Int) := by omega
          have hw : IntKind.u32.wrap ((x.hi : Int) - (x.lo : Int)) = ((x.hi - x.lo : Nat) : Int) := by
            have h1 := hA1.2.2.2
            unfold low at h1
            simp [IntKind.wrap, IntKind.signed, IntKind.bits]; omega
          obtain ⟨b3, hb3⟩ : ∃ q, (decide (((x.hi - x.lo : Nat) : Int) < 8)) = q := ⟨_, rfl⟩
          have Hb3 := hid hb3
          have TE2 := hid (show tranE r.acls x = if !(b1 && b3 && e2) then 1 else if b4 then 5 else 0 by
            have e8 : decide (((x.hi - x.lo : Nat) : Int) < 8) = decide (x.hi - x.lo < 8) := by rw [decide_eq_decide]; omega
            rw [TE.out, tran2 x k2, ← HE2.out, ← Hb1.out, ← Hb3.out, ← Hb4.out, k2, decide_eq_true hle, e8]; simp)
          clear k1 k2 q1 hA1 hle
          repeat' (first | (go_at_call 45; with_reducible refine (d1 _).mono ?_; rintro e w' ⟨rfl, rfl⟩; try dsimp only) | (go_at_call 45; with_reducible refine (d2 _).mono ?_; rintro e w' ⟨rfl, rfl⟩; try dsimp only) | (go_at_call 65; with_reducible refine (dA _ (by assumption)).mono ?_; rintro e w' ⟨rfl, b⟩; have b' := then_ (w := w4) (by assumption) b; clear b; try dsimp only) | go_skip | go_big_skip | go_big_want | go_big_guard | go_step | go_upon)
          all_goals first | ((try simp only [Exit.inBlock, Exit.then]); refine bodyPost_ret (results_tmp (by rfl) _ _ _) (by rfl) ?_; refine ⟨ret_int (a := 1) ?_, then_ HX.out (then_ HW4.out (by assumption))⟩; have Q2 : tranE r.acls x = 1 := (by rw [TE2.out]; first | (simp [(show b1 = false by first | assumption | exact bnf (by assumption))]; done) | (simp [(show b3 = false by first | assumption | exact bnf (by assumption))]; done) | (simp [(show e2 = false by first | assumption | exact bnf (by assumption))]; done) | (simp [(show b1 = true by first | assumption | exact bnt (by assumption)), (show b3 = true by first | assumption | exact bnt (by assumption)), (show e2 = true by first | assumption | exact bnt (by assumption)), (show b4 = true by first | assumption | exact bnt (by assumption))]; done) | (simp [(show b1 = true by first | assumption | exact bnt (by assumption)), (show b3 = true by first | assumption | exact bnt (by assumption)), (show e2 = true by first | assumption | exact bnt (by assumption)), (show b4 = false by first | assumption | exact bnf (by assumption))]; done)); rw [E.out, D.out]; refine ((firstE_hit (f := fun _ x => tranE r.acls x) (by rw [Q2]; simp)).trans ?_).symm; rw [Q2]) | ((try simp only [Exit.inBlock, Exit.then]); refine bodyPost_ret (results_tmp (by rfl) _ _ _) (by rfl) ?_; refine ⟨ret_int (a := 5) ?_, then_ HX.out (then_ HW4.out (by assumption))⟩; have Q2 : tranE r.acls x = 5 := (by rw [TE2.out]; first | (simp [(show b1 = false by first | assumption | exact bnf (by assumption))]; done) | (simp [(show b3 = false by first | assumption | exact bnf (by assumption))]; done) | (simp [(show e2 = false by first | assumption | exact bnf (by assumption))]; done) | (simp [(show b1 = true by first | assumption | exact bnt (by assumption)), (show b3 = true by first | assumption | exact bnt (by assumption)), (show e2 = true by first | assumption | exact bnt (by assumption)), (show b4 = true by first | assumption | exact bnt (by assumption))]; done) | (simp [(show b1 = true by first | assumption | exact bnt (by assumption)), (show b3 = true by first | assumption | exact bnt (by assumption)), (show e2 = true by first | assumption | exact bnt (by assumption)), (show b4 = false by first | assumption | exact bnf (by assumption))]; done)); rw [E.out, D.out]; refine ((firstE_hit (f := fun _ x => tranE r.acls x) (by rw [Q2]; simp)).trans ?_).symm; rw [Q2]) | (go_roundg (n - (k + 1)); (case measure => omega); (case rel => exact ⟨k + 1, by omega, by omega, by go_num, then_ HW4.out (by assumption), by have Q2 : tranE r.acls x = 0 := (by rw [TE2.out]; first | (simp [(show b1 = false by first | assumption | exact bnf (by assumption))]; done) | (simp [(show b3 = false by first | assumption | exact bnf (by assumption))]; done) | (simp [(show e2 = false by first | assumption | exact bnf (by assumption))]; done) | (simp [(show b1 = true by first | assumption | exact bnt (by assumption)), (show b3 = true by first | assumption | exact bnt (by assumption)), (show e2 = true by first | assumption | exact bnt (by assumption)), (show b4 = true by first | assumption | exact bnt (by assumption))]; done) | (simp [(show b1 = true by first | assumption | exact bnt (by assumption)), (show b3 = true by first | assumption | exact bnt (by assumption)), (show e2 = true by first | assumption | exact bnt (by assumption)), (show b4 = false by first | assumption | exact bnf (by assumption))]; done)); show _ = _; rw [E.out, D.out]; exact firstE_next (f := fun _ x => tranE r.acls x) Q2⟩))
        · have hle' : ¬ (x.lo : Int) ≤ (x.hi : Int) := by omega
          have TE2 := hid (show tranE r.acls x = 1 by rw [TE.out, tran2 x k2, decide_eq_false hle]; simp)
          clear k1 k2 q1 q2 hA1 hle
          repeat' (first | (go_at_call 45; with_reducible refine (d1 _).mono ?_; rintro e w' ⟨rfl, rfl⟩; try dsimp only) | (go_at_call 45; with_reducible refine (d2 _).mono ?_; rintro e w' ⟨rfl, rfl⟩; try dsimp only) | (go_at_call 65; with_reducible refine (dA _ (by assumption)).mono ?_; rintro e w' ⟨rfl, b⟩; have b' := then_ (w := w4) (by assumption) b; clear b; try dsimp only) | go_skip | go_big_skip | go_big_want | go_big_guard | go_step | go_upon)
          all_goals ((try simp only [Exit.inBlock, Exit.then]); refine bodyPost_ret (results_tmp (by rfl) _ _ _) (by rfl) ?_; exact ⟨ret_int (by rw [E.out, D.out]; refine ((firstE_hit (f := fun _ x => tranE r.acls x) (by rw [TE2.out]; simp)).trans ?_).symm; rw [TE2.out]), then_ HX.out (then_ HW4.out (by assumption))⟩)
      have T1 : (x.kind == 1) = false := by simpa using k1
      have T2 : (x.kind == 2) = false := by simpa using k2
      by_cases k3 : x.kind = 3
      · rw [k3] at FY0 T1 T2
        obtain ⟨b1, hb1⟩ : ∃ q, ((x.ins : Int) != 0) = q := ⟨_, rfl⟩
        have Hb1 := hid hb1
        obtain ⟨b2, hb2⟩ : ∃ q, ((x.outs : Int) != 0) = q := ⟨_, rfl⟩
        have Hb2 := hid hb2
        obtain ⟨p1, hp1⟩ : ∃ q, (x.proto == 6) = q := ⟨_, rfl⟩
        have Hp1 := hid hp1
        obtain ⟨p2, hp2⟩ : ∃ q, (x.proto == 17) = q := ⟨_, rfl⟩
        have Hp2 := hid hp2
        obtain ⟨s1, hs1⟩ : ∃ q, (x.lst.toList.isEmpty) = q := ⟨_, rfl⟩
        have Hs1 := hid hs1
        obtain ⟨c1, hc1⟩ : ∃ q, ((x.lo : Int) == 0) = q := ⟨_, rfl⟩
        have Hc1 := hid hc1
        obtain ⟨c2, hc2⟩ : ∃ q, ((x.hi : Int) == 0) = q := ⟨_, rfl⟩
        have Hc2 := hid hc2
        have TE2 := hid (show tranE r.acls x = if !(b1 && b2 && (p1 || p2) && a1 && a2 && s1 && c1 && c2) then 1 else 0 by rw [TE.out, tran3 x k3, ← HA1.out, ← HA2.out, ← Hb1.out, ← Hb2.out, ← Hp1.out, ← Hp2.out, ← Hs1.out, ← Hc1.out, ← Hc2.out, k3]; unfold noS; simp)
        clear k1 k2 k3 q1 q2 hA1
        repeat' (first | (go_at_call 45; with_reducible refine (d1 _).mono ?_; rintro e w' ⟨rfl, rfl⟩; try dsimp only) | (go_at_call 45; with_reducible refine (d2 _).mono ?_; rintro e w' ⟨rfl, rfl⟩; try dsimp only) | (go_at_call 65; with_reducible refine (dA _ (by assumption)).mono ?_; rintro e w' ⟨rfl, b⟩; have b' := then_ (w := w4) (by assumption) b; clear b; try dsimp only) | go_skip | go_big_skip | go_big_want | go_big_guard | go_step | go_upon)
        all_goals first | ((try simp only [Exit.inBlock, Exit.then]); refine bodyPost_ret (results_tmp (by rfl) _ _ _) (by rfl) ?_; refine ⟨ret_int (a := 1) ?_, then_ HX.out (then_ HW4.out (by assumption))⟩; have Q2 : tranE r.acls x = 1 := (by rw [TE2.out]; first | (simp [(show b1 = false by first | assumption | exact bnf (by assumption))]; done) | (simp [(show b2 = false by first | assumption | exact bnf (by assumption))]; done) | (simp [(show p1 = false by first | assumption | exact bnf (by assumption)), (show p2 = false by first | assumption | exact bnf (by assumption))]; done) | (simp [(show a1 = false by first | assumption | exact bnf (by assumption))]; done) | (simp [(show a2 = false by first | assumption | exact bnf (by assumption))]; done) | (simp [(show s1 = false by first | assumption | exact bnf (by assumption))]; done) | (simp [(show c1 = false by first | assumption | exact bnf (by assumption))]; done) | (simp [(show c2 = false by first | assumption | exact bnf (by assumption))]; done) | (simp [(show b1 = true by first | assumption | exact bnt (by assumption)), (show b2 = true by first | assumption | exact bnt (by assumption)), (show a1 = true by first | assumption | exact bnt (by assumption)), (show a2 = true by first | assumption | exact bnt (by assumption)), (show s1 = true by first | assumption | exact bnt (by assumption)), (show c1 = true by first | assumption | exact bnt (by assumption)), (show c2 = true by first | assumption | exact bnt (by assumption)), (show p1 = true by first | assumption | exact bnt (by assumption))]; done) | (simp [(show b1 = true by first | assumption | exact bnt (by assumption)), (show b2 = true by first | assumption | exact bnt (by assumption)), (show a1 = true by first | assumption | exact bnt (by assumption)), (show a2 = true by first | assumption | exact bnt (by assumption)), (show s1 = true by first | assumption | exact bnt (by assumption)), (show c1 = true by first | assumption | exact bnt (by assumption)), (show c2 = true by first | assumption | exact bnt (by assumption)), (show p2 = true by first | assumption | exact bnt (by assumption))]; done)); rw [E.out, D.out]; refine ((firstE_hit (f := fun _ x => tranE r.acls x) (by rw [Q2]; simp)).trans ?_).symm; rw [Q2]) | (go_roundg (n - (k + 1)); (case measure => omega); (case rel => exact ⟨k + 1, by omega, by omega, by go_num, then_ HW4.out (by assumption), by have Q2 : tranE r.acls x = 0 := (by rw [TE2.out]; first | (simp [(show b1 = false by first | assumption | exact bnf (by assumption))]; done) | (simp [(show b2 = false by first | assumption | exact bnf (by assumption))]; done) | (simp [(show p1 = false by first | assumption | exact bnf (by assumption)), (show p2 = false by first | assumption | exact bnf (by assumption))]; done) | (simp [(show a1 = false by first | assumption | exact bnf (by assumption))]; done) | (simp [(show a2 = false by first | assumption | exact bnf (by assumption))]; done) | (simp [(show s1 = false by first | assumption | exact bnf (by assumption))]; done) | (simp [(show c1 = false by first | assumption | exact bnf (by assumption))]; done) | (simp [(show c2 = false by first | assumption | exact bnf (by assumption))]; done) | (simp [(show b1 = true by first | assumption | exact bnt (by assumption)), (show b2 = true by first | assumption | exact bnt (by assumption)), (show a1 = true by first | assumption | exact bnt (by assumption)), (show a2 = true by first | assumption | exact bnt (by assumption)), (show s1 = true by first | assumption | exact bnt (by assumption)), (show c1 = true by first | assumption | exact bnt (by assumption)), (show c2 = true by first | assumption | exact bnt (by assumption)), (show p1 = true by first | assumption | exact bnt (by assumption))]; done) | (simp [(show b1 = true by first | assumption | exact bnt (by assumption)), (show b2 = true by first | assumption | exact bnt (by assumption)), (show a1 = true by first | assumption | exact bnt (by assumption)), (show a2 = true by first | assumption | exact bnt (by assumption)), (show s1 = true by first | assumption | exact bnt (by assumption)), (show c1 = true by first | assumption | exact bnt (by assumption)), (show c2 = true by first | assumption | exact bnt (by assumption)), (show p2 = true by first | assumption | exact bnt (by assumption))]; done)); show _ = _; rw [E.out, D.out]; exact firstE_next (f := fun _ x => tranE r.acls x) Q2⟩))
      have T3 : (x.kind == 3) = false := by simpa using k3
      have TE2 := hid (show tranE r.acls x = 1 by rw [TE.out, tran0 x k1 k2 k3]; rfl)
      clear k1 k2 k3 q1 q2 hA1
      repeat' (first | (go_at_call 45; with_reducible refine (d1 _).mono ?_; rintro e w' ⟨rfl, rfl⟩; try dsimp only) | (go_at_call 45; with_reducible refine (d2 _).mono ?_; rintro e w' ⟨rfl, rfl⟩; try dsimp only) | (go_at_call 65; with_reducible refine (dA _ (by assumption)).mono ?_; rintro e w' ⟨rfl, b⟩; have b' := then_ (w := w4) (by assumption) b; clear b; try dsimp only) | go_skip | go_big_skip | go_big_want | go_big_guard | go_step | go_upon)
      all_goals ((try simp only [Exit.inBlock, Exit.then]); refine bodyPost_ret (results_tmp (by rfl) _ _ _) (by rfl) ?_; exact ⟨ret_int (by rw [E.out, D.out]; refine ((firstE_hit (f := fun _ x => tranE r.acls x) (by rw [TE2.out]; simp)).trans ?_).symm; rw [TE2.out]), then_ HX.out (then_ HW4.out (by assumption))⟩)
    · have hlti : ¬ (k : Int) < (n : Int) := by omega
      repeat' (first | go_skip | go_guarded | go_step | go_upon)
      go_ret
      exact ⟨ret_int (by rw [E.out, drop_end (by have := N.out; omega)]; rfl), then_ HX.out (by assumption)⟩
end Go.Proofs.Ytlhbfpapmolohaa.Mw
