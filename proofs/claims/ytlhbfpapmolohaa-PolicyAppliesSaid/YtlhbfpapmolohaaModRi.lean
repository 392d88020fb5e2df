/-
  THE CONTRACT OF netverifyref8.interfaces.
-/
import Derived.Test.YtlhbfpapmolohaaModRm
import Derived.Test.YtlhbfpapmolohaaStoreBox
import Derived.Test.YtlhbfpapmolohaaModSl
import Derived.Test.YtlhbfpapmolohaaModB
namespace Go.Proofs.Ytlhbfpapmolohaa.Mw
set_option linter.unusedSimpArgs false
set_option linter.unusedVariables false
open Go.RowKit Kt Mm Mp Am

def zeroIf : Array Value := #[.string ⟨#[]⟩, .int .u32 0, .int .i64 0, .int .i64 0, .bool false, .bool false, .int .i64 0, .int .i64 0, .bool false, .string ⟨#[]⟩, .string ⟨#[]⟩, .int .i64 0]
def cA (x : Ifc) : Bool := wi x.len 0 32 && wi x.vlan 0 4094 && wi x.side 0 2
def cB (x : Ifc) : Bool := if x.len = 0 then decide (x.addr = 0) && decide (x.vlan = 0) && decide (x.side = 0) && !x.ls && !x.dv && noS x.inn && noS x.out else !decide (x.addr = 0)
def cC (x : Ifc) : Bool := if x.ls then wi x.area 0 255 && wi x.cost 1 65535 else decide (x.area = 0) && decide (x.cost = 0)
theorem ifcOk_eq (x : Ifc) : ifcOk x = (cA x && cB x && cC x) := by
  rw [Bool.eq_iff_iff]
  unfold ifcOk cA cB cC bareOk areaOk wi
  by_cases h0 : x.len = 0 <;> cases hl : x.ls <;> simp [h0]
  all_goals grind

set_option maxHeartbeats 16000000 in
set_option maxRecDepth 4000 in
theorem rIfs (v : Value) (l : List Ifc) (w : World) (hrow : IsRow eIfc 12 w v l) (hl : l.length ≤ 9223372036854775807) (hN : ∀ x ∈ l, sz x.name) (hA : ∀ x ∈ l, low x.addr) :
    Calls Try.prog 46 #[v] w fun e w' => e = .returned (.int .i64 (ifsE l)) ∧ Below w.heap.size w w' := by
  have hNm := fun (s : ByteArray) wx (h : sz s) => Sc.refName s wx h
  have hWi := fun (p q t : Int) wx => rWithin p q t wx
  have hNt := fun (y : Ifc) wx (h : low y.addr) => Ad.refNetwork y.addr y.len wx h
  have hOv := fun (y z : Ifc) wx (h : low y.addr) (k : low z.addr) => Ad.refOverlaps (net y.addr y.len) (cl y.len : Nat) (net z.addr z.len) (cl z.len : Nat) wx (net_lt _ h) (net_lt _ k)
  have R0 := hid (show ifsE l = if 8 < l.length then 7 else firstE (ifcE l) 0 l from rfl)
  have RN := hid hN
  have RA := hid hA
  obtain ⟨a, cap, rfl, hcap, hcell⟩ := rows_open (z := 12) (by decide) hrow
  obtain ⟨n, hn⟩ : ∃ n, n = l.length := ⟨_, rfl⟩
  rw [← hn] at hl hcap hcell R0 ⊢
  have N := hid hn
  have HC := hid hcell
  have GW : Below w.heap.size w w := Below.refl _ _
  clear hn hrow hN hA hcell
  obtain ⟨P, hP⟩ : ∃ P, P = Try.prog := ⟨_, rfl⟩
  have HP := hid hP
  have mixed : P.follows .mixedOrders = true := by rw [hP]; kernel_rfl
  have FG : P.funcs[46]? = some Try.f46 := by rw [hP]; exact Try.func46
  obtain ⟨zInterface, hzInterface⟩ : ∃ z, z = 12 := ⟨_, rfl⟩
  have nzInterface : ¬ zInterface = 0 := by omega
  have ty3 := Try.underlying3; have ag3 := Try.isAgg3; have sz3 := Try.sizeOf3; have ru3 := Try.runUnderlying3
  have ty4 := Try.underlying4; have ag4 := Try.isAgg4; have sz4 := Try.sizeOf4; have ru4 := Try.runUnderlying4
  have ty9 := Try.underlying9; have ag9 := Try.isAgg9; have sz9 := Try.sizeOf9; have ru9 := Try.runUnderlying9
  have ty36 := Try.underlying36; have ag36 := Try.isAgg36; have sz36 := Try.sizeOf36; have ru36 := Try.runUnderlying36
  have ty25 := Try.underlying25; have ag25 := Try.isAgg25; have sz25 := Try.sizeOf25; have ru25 := Try.runUnderlying25
  have ty106 := Try.underlying106; have ag106 := Try.isAgg106; have sz106 := Try.sizeOf106; have ru106 := Try.runUnderlying106
  rw [← hzInterface] at sz106
  have zeInterface := Try.zeroValue106
  have ty27 := Try.underlying27; have ag27 := Try.isAgg27; have sz27 := Try.sizeOf27; have ru27 := Try.runUnderlying27
  have en0 : ∀ args w, (callFunc 44 args).run Try.prog w = .ok (.enter 44 args) w := enters_of Try.func44 (by kernel_rfl) rfl
  have en1 : ∀ args w, (callFunc 28 args).run Try.prog w = .ok (.enter 28 args) w := enters_of Try.func28 (by kernel_rfl) rfl
  have en2 : ∀ args w, (callFunc 63 args).run Try.prog w = .ok (.enter 63 args) w := enters_of Try.func63 (by kernel_rfl) rfl
  have en3 : ∀ args w, (callFunc 45 args).run Try.prog w = .ok (.enter 45 args) w := enters_of Try.func45 (by kernel_rfl) rfl
  rw [← hP] at ty3 ag3 sz3 ru3 ty4 ag4 sz4 ru4 ty9 ag9 sz9 ru9 ty36 ag36 sz36 ru36 ty25 ag25 sz25 ru25 ty106 ag106 sz106 ru106 zeInterface ty27 ag27 sz27 ru27 en0 en1 en2 en3 hNm hWi hNt hOv ⊢
  clear hP
  have ZI := hid hzInterface
  clear hzInterface
  by_cases h8 : 8 < n
  · have h8i : (8 : Int) < (n : Int) := by omega
    go_enter FG, Try.ntmps46
    repeat' (first | go_skip | go_guarded | go_step | go_upon)
    go_ret
    exact ⟨ret_int (by rw [R0.out, if_pos h8]), Below.refl _ _⟩
  have h8i : ¬ (8 : Int) < (n : Int) := by omega
  have R1 := hid (R0.out.trans (if_neg h8))
  go_enter FG, Try.ntmps46
  repeat' (first | go_skip | go_guarded | go_step | go_upon)
  clear R0 h8 h8i
  go_loopg [3] n (fun gg s3 wr => ∃ k : Nat, k ≤ n ∧ n - k ≤ gg ∧ s3 = .int .i64 k ∧ Below w.heap.size w wr ∧ Aside (ifsE l = firstE (ifcE l) k (l.drop k)))
  case atStart => exact ⟨0, Nat.zero_le _, by omega, rfl, by assumption, R1.out⟩
  case round =>
    obtain ⟨k, hk, hg, rfl, hwr, E⟩ := hrel
    by_cases hlt : k < n
    · have hlti : (k : Int) < (n : Int) := by omega
      have hk0 : (0 : Int) ≤ (k : Int) := by omega
      obtain ⟨x, hx⟩ := get_some (l := l) (k := k) (by have := N.out; omega)
      have hm := get_mem hx
      obtain ⟨b, off, rfl, hb, hc⟩ := HC.out (by omega)
      have LY : Sem.run P (loadCellsFrom ⟨b, off + k * zInterface, none⟩ 0 zInterface #[]) wr = .ok (eIfc x).toArray wr := by
        rw [ZI.out]; exact ld_row (f := eIfc) (z := 12) P (fun _ => rfl) (fun j u hj => (hwr.cell (p := ⟨b, off + j, none⟩) hb).trans (hc j u hj)) hx
      obtain ⟨Y, hY⟩ : ∃ Y, Y = (eIfc x).toArray := ⟨_, rfl⟩
      have hYs : Y.size = 12 := by rw [hY]; rfl
      have hY1 := hid (show Y.all (·.oneCell') = true by rw [hY]; simp [eIfc, one_str, one_int, one_bool])
      obtain ⟨ls, hls⟩ : ∃ q, q = x.ls := ⟨_, rfl⟩
      obtain ⟨dv, hdv⟩ : ∃ q, q = x.dv := ⟨_, rfl⟩
      have y0 : Y[0]? = some (.string x.name) := by rw [hY]; rfl
      have y1 : Y[1]? = some (.int .u32 (x.addr : Int)) := by rw [hY]; rfl
      have y2 : Y[2]? = some (.int .i64 x.len) := by rw [hY]; rfl
      have y3 : Y[3]? = some (.int .i64 x.vlan) := by rw [hY]; rfl
      have y5 : Y[5]? = some (.bool ls) := by rw [hY, hls]; rfl
      have y6 : Y[6]? = some (.int .i64 x.area) := by rw [hY]; rfl
      have y7 : Y[7]? = some (.int .i64 x.cost) := by rw [hY]; rfl
      have y8 : Y[8]? = some (.bool dv) := by rw [hY, hdv]; rfl
      have y9 : Y[9]? = some (.string x.inn) := by rw [hY]; rfl
      have y10 : Y[10]? = some (.string x.out) := by rw [hY]; rfl
      have y11 : Y[11]? = some (.int .i64 x.side) := by rw [hY]; rfl
      rw [← hY] at LY
      have D := hid (drop_get hx)
      clear hY
      repeat' ((fail_if_success (with_reducible show Hid _)); (first | ((with_reducible show Oper.wp _ ⟨_, .store 106 _ _, _, _, _, _⟩ _ _ _ _); refine stopAt ?_) | go_skip | go_guarded | go_step | go_upon))
      refine hid ?_
      refine wp_store_box (w := wr.alloc (.cells zeroIf 106)) 106 _ _ (by rfl) (g := wr.heap.size) (cur := zeroIf) (X := Y) (by rfl) (by rfl) (by intro v; rw [hYs, ← ZI.out]; first | exact sz106 v | assumption) (heap_new _ _) (by rw [hYs]; rfl) hY1.out ?_
      intro w4 h1 h2 h3
      have HB4 := hid (show Below wr.heap.size wr w4 from (al1 wr _).trans (h3 _ (Nat.le_refl _)))
      have HW4 := hid (then_ (show Below w.heap.size w wr from hwr) HB4.out)
      have G4 : Below w4.heap.size w4 w4 := Below.refl _ _
      have FY0 : ∀ v : World, Below w4.heap.size w4 v → v.cell? ⟨wr.heap.size, 0, none⟩ = some (.string x.name) := fun v h => box_at (blk_keep h1 h) y0
      have FY1 : ∀ v : World, Below w4.heap.size w4 v → v.cell? ⟨wr.heap.size, 1, none⟩ = some (.int .u32 (x.addr : Int)) := fun v h => box_at (blk_keep h1 h) y1
      have FY2 : ∀ v : World, Below w4.heap.size w4 v → v.cell? ⟨wr.heap.size, 2, none⟩ = some (.int .i64 x.len) := fun v h => box_at (blk_keep h1 h) y2
      have FY3 : ∀ v : World, Below w4.heap.size w4 v → v.cell? ⟨wr.heap.size, 3, none⟩ = some (.int .i64 x.vlan) := fun v h => box_at (blk_keep h1 h) y3
      have FY5 : ∀ v : World, Below w4.heap.size w4 v → v.cell? ⟨wr.heap.size, 5, none⟩ = some (.bool ls) := fun v h => box_at (blk_keep h1 h) y5
      have FY6 : ∀ v : World, Below w4.heap.size w4 v → v.cell? ⟨wr.heap.size, 6, none⟩ = some (.int .i64 x.area) := fun v h => box_at (blk_keep h1 h) y6
      have FY7 : ∀ v : World, Below w4.heap.size w4 v → v.cell? ⟨wr.heap.size, 7, none⟩ = some (.int .i64 x.cost) := fun v h => box_at (blk_keep h1 h) y7
      have FY8 : ∀ v : World, Below w4.heap.size w4 v → v.cell? ⟨wr.heap.size, 8, none⟩ = some (.bool dv) := fun v h => box_at (blk_keep h1 h) y8
      have FY9 : ∀ v : World, Below w4.heap.size w4 v → v.cell? ⟨wr.heap.size, 9, none⟩ = some (.string x.inn) := fun v h => box_at (blk_keep h1 h) y9
      have FY10 : ∀ v : World, Below w4.heap.size w4 v → v.cell? ⟨wr.heap.size, 10, none⟩ = some (.string x.out) := fun v h => box_at (blk_keep h1 h) y10
      have FY11 : ∀ v : World, Below w4.heap.size w4 v → v.cell? ⟨wr.heap.size, 11, none⟩ = some (.int .i64 x.side) := fun v h => box_at (blk_keep h1 h) y11
      obtain ⟨g, hgb⟩ : ∃ g, g = wr.heap.size := ⟨_, rfl⟩
      rw [← hgb] at FY0 FY1 FY2 FY3 FY5 FY6 FY7 FY8 FY9 FY10 FY11 ⊢
      have hN1 := fun wx => hNm x.name wx (RN.out x hm)
      obtain ⟨nb, hnb⟩ : ∃ q, q = nmB x.name := ⟨_, rfl⟩
      have hN1' : ∀ wx, Calls P 44 #[.string x.name] wx fun e w' => e = .returned (.bool nb) ∧ wx = w' := by rw [hnb]; exact hN1
      have d1 := fun wx => hWi x.len 0 32 wx
      have d2 := fun wx => hWi x.vlan 0 4094 wx
      have d3 := fun wx => hWi x.side 0 2 wx
      have d4 := fun wx => hWi x.area 0 255 wx
      have d5 := fun wx => hWi x.cost 1 65535 wx
      obtain ⟨a1, ha1⟩ : ∃ q, q = wi x.len 0 32 := ⟨_, rfl⟩
      obtain ⟨a2, ha2⟩ : ∃ q, q = wi x.vlan 0 4094 := ⟨_, rfl⟩
      obtain ⟨a3, ha3⟩ : ∃ q, q = wi x.side 0 2 := ⟨_, rfl⟩
      obtain ⟨c1, hc1⟩ : ∃ q, q = wi x.area 0 255 := ⟨_, rfl⟩
      obtain ⟨c2, hc2⟩ : ∃ q, q = wi x.cost 1 65535 := ⟨_, rfl⟩
      obtain ⟨tk, htk⟩ : ∃ q, q = (l.take k).any (fun y : Ifc => y.name.toList == x.name.toList) := ⟨_, rfl⟩
      obtain ⟨ov, hov⟩ : ∃ q, q = (l.take k).any (fun y : Ifc => !decide (y.len = 0) && ovP (netP x) (netP y)) := ⟨_, rfl⟩
      have IE := hid (show ifcE l k x = if !nb then 3 else if tk then 4 else if !((a1 && a2 && a3) && cB x && cC x) then 1 else if !decide (x.len = 0) && ov then 6 else 0 by
        unfold ifcE ovAny; rw [ifcOk_eq, hnb, htk, hov, ha1, ha2, ha3]; rfl)
      have CC := hid (show cC x = if ls then c1 && c2 else decide (x.area = 0) && decide (x.cost = 0) by rw [hls, hc1, hc2]; rfl)
      have CB := hid (show cB x = if x.len = 0 then decide (x.addr = 0) && decide (x.vlan = 0) && decide (x.side = 0) && !ls && !dv && noS x.inn && noS x.out else !decide (x.addr = 0) by rw [hls, hdv]; rfl)
      rw [← ha1] at d1
      rw [← ha2] at d2
      rw [← ha3] at d3
      rw [← hc1] at d4
      rw [← hc2] at d5
      have TK := hid htk
      have OV := hid hov
      clear h1 h2 h3 LY hYs y0 y1 y2 y3 y5 y6 y7 y8 y9 y10 y11 ha1 ha2 ha3 hc1 hc2 htk hov hnb hN1 hls hdv hgb
      cases nb
      case false =>
        repeat' (first | (go_at_call 44; with_reducible refine (hN1' _).mono ?_; rintro e w' ⟨rfl, rfl⟩; try dsimp only) | go_skip | go_guarded | go_step | go_upon)
        go_ret
        exact ⟨ret_int (by rw [E.out, D.out]; refine ((firstE_hit (by rw [IE.out]; simp)).trans ?_).symm; rw [IE.out]; rfl), then_ HW4.out (by assumption)⟩
      case true =>
        repeat' (first | (go_at_call 44; with_reducible refine (hN1' _).mono ?_; rintro e w' ⟨rfl, rfl⟩; try dsimp only) | go_skip | go_guarded | go_step | go_upon)
        go_loopg [5] k (fun gg s5 wr => ∃ j : Nat, j ≤ k ∧ k - j ≤ gg ∧ s5 = .int .i64 j ∧ Below w4.heap.size w4 wr ∧ Aside (tk = ((l.take k).drop j).any (fun y : Ifc => y.name.toList == x.name.toList)))
        case atStart => exact ⟨0, Nat.zero_le _, by omega, rfl, by assumption, TK.out⟩
        case round =>
          obtain ⟨j, hj, hgj, rfl, hwr2, T⟩ := hrel
          by_cases hjk : j < k
          · have hjki : (j : Int) < (k : Int) := by omega
            have hjn : (j : Int) < (n : Int) := by omega
            have hj0 : (0 : Int) ≤ (j : Int) := by omega
            obtain ⟨y, hy⟩ := get_some (l := l) (k := j) (by have := N.out; omega)
            have hcy := row_cells (f := eIfc) (z := 12) (fun _ => rfl) hc hy
            have GR : Below wr.heap.size wr wr := Below.refl _ _
            have uF0 := fun u : Later wr.heap.size wr => FY0 u.w (then_ hwr2 u.h)
            have uY0 : ∀ u : Later wr.heap.size wr, u.w.cell? ⟨b, off + j * zInterface, none⟩ = some (.string y.name) := fun u => by rw [ZI.out]; exact ((then_ HW4.out (then_ hwr2 u.h)).cell (p := ⟨b, off + j * 12, none⟩) hb).trans (hcy 0 _ rfl)
            clear hcy
            cases hq : (y.name.toList == x.name.toList) with
            | true =>
              have T2 := hid (T.out.trans (any_hit hy hjk hq))
              repeat' (first | go_skip | go_guarded | go_step | go_upon)
              refine wp_region_base wr (by assumption) (by first | assumption | kernel_rfl) (by kernel_rfl) ?_
              repeat (go_big_quiet_step (first | fail))
              refine wpQuiet_nil ?_
              rintro _ ⟨u, rfl⟩
              have bu := u.h
              repeat' (first | go_skip | go_guarded | go_step | go_upon)
              go_ret
              exact ⟨ret_int (by rw [E.out, D.out]; refine ((firstE_hit (by rw [IE.out, T2.out]; simp)).trans ?_).symm; rw [IE.out, T2.out]; rfl), then_ HW4.out (then_ hwr2 (by assumption))⟩
            | false =>
              have T2 := hid (T.out.trans (any_next hy hjk hq))
              repeat' (first | go_skip | go_guarded | go_step | go_upon)
              refine wp_region_base wr (by assumption) (by first | assumption | kernel_rfl) (by kernel_rfl) ?_
              repeat (go_big_quiet_step (first | fail))
              refine wpQuiet_nil ?_
              rintro _ ⟨u, rfl⟩
              have bu := u.h
              repeat' (first | go_skip | go_guarded | go_step | go_upon)
              go_roundg (k - (j + 1))
              case measure => omega
              case rel => exact ⟨j + 1, by omega, by omega, by go_num, then_ hwr2 (by assumption), T2.out⟩
          · have hjki : ¬ (j : Int) < (k : Int) := by omega
            have T2 := hid (T.out.trans (any_end (by omega)))
            have IE2 := hid (show ifcE l k x = if !((a1 && a2 && a3) && cB x && cC x) then 1 else if !decide (x.len = 0) && ov then 6 else 0 by rw [IE.out, T2.out]; rfl)
            by_cases hz : x.len = 0
            · have hzb : (x.len == 0) = true := by simpa using hz
              have hzn : (x.len != 0) = false := by simpa using hz
              obtain ⟨b1, hb1⟩ : ∃ q, ((x.addr : Int) != 0) = q := ⟨_, rfl⟩
              have Hb1 := hid hb1
              obtain ⟨b2, hb2⟩ : ∃ q, (x.vlan != 0) = q := ⟨_, rfl⟩
              have Hb2 := hid hb2
              obtain ⟨b3, hb3⟩ : ∃ q, (x.side != 0) = q := ⟨_, rfl⟩
              have Hb3 := hid hb3
              obtain ⟨b4, hb4⟩ : ∃ q, (!x.inn.toList.isEmpty) = q := ⟨_, rfl⟩
              have Hb4 := hid hb4
              obtain ⟨b5, hb5⟩ : ∃ q, (!x.out.toList.isEmpty) = q := ⟨_, rfl⟩
              have Hb5 := hid hb5
              obtain ⟨m1, hm1⟩ : ∃ q, (x.area != 0) = q := ⟨_, rfl⟩
              have Hm1 := hid hm1
              obtain ⟨m2, hm2⟩ : ∃ q, (x.cost != 0) = q := ⟨_, rfl⟩
              have Hm2 := hid hm2
              have BC := hid (show cB x = (!b1 && !b2 && !b3 && !ls && !dv && !b4 && !b5) by rw [CB.out, if_pos hz, ← Hb1.out, ← Hb2.out, ← Hb3.out, ← Hb4.out, ← Hb5.out]; unfold noS; rw [Bool.eq_iff_iff]; simp)
              have CD := hid (show cC x = if ls then c1 && c2 else !m1 && !m2 by rw [CC.out, ← Hm1.out, ← Hm2.out]; cases ls <;> rw [Bool.eq_iff_iff] <;> simp)
              have HZ := hid hz
              clear hz
              repeat' (first | (go_at_call 45; with_reducible refine (d1 _).mono ?_; rintro e w' ⟨rfl, rfl⟩; try dsimp only) | (go_at_call 45; with_reducible refine (d2 _).mono ?_; rintro e w' ⟨rfl, rfl⟩; try dsimp only) | (go_at_call 45; with_reducible refine (d3 _).mono ?_; rintro e w' ⟨rfl, rfl⟩; try dsimp only) | (go_at_call 45; with_reducible refine (d4 _).mono ?_; rintro e w' ⟨rfl, rfl⟩; try dsimp only) | (go_at_call 45; with_reducible refine (d5 _).mono ?_; rintro e w' ⟨rfl, rfl⟩; try dsimp only) | go_skip | go_big_skip | go_big_want | go_big_guard | go_step | go_upon)
              all_goals first | ((try simp only [Exit.inBlock, Exit.then]); refine bodyPost_ret (results_tmp (by rfl) _ _ _) (by rfl) ?_; exact ⟨ret_int (by have Q2 : ifcE l k x = 1 := (by rw [IE2.out, BC.out, CD.out]; first | (simp [‹a1 = false›]; done) | (simp [‹(!a1) = true›]; done) | (simp [‹a2 = false›]; done) | (simp [‹(!a2) = true›]; done) | (simp [‹a3 = false›]; done) | (simp [‹(!a3) = true›]; done) | (simp [‹b1 = true›]; done) | (simp [‹b2 = true›]; done) | (simp [‹b3 = true›]; done) | (simp [‹ls = true›]; done) | (simp [‹dv = true›]; done) | (simp [‹b4 = true›]; done) | (simp [‹b5 = true›]; done) | (simp [‹ls = false›, ‹m1 = true›]; done) | (simp [‹ls = false›, ‹m2 = true›]; done)); rw [E.out, D.out]; refine ((firstE_hit (by rw [Q2]; simp)).trans ?_).symm; rw [Q2]), then_ HW4.out (by assumption)⟩) | skip
              have Q2 := hid (show ifcE l k x = 0 by rw [IE2.out]; rw [BC.out, CD.out]; first | (simp [HZ.out, ‹a1 = true›, ‹a2 = true›, ‹a3 = true›, ‹b1 = false›, ‹b2 = false›, ‹b3 = false›, ‹ls = false›, ‹dv = false›, ‹b4 = false›, ‹b5 = false›, ‹m1 = false›, ‹m2 = false›]; done) | (simp [HZ.out, ‹a1 = true›, ‹a2 = true›, ‹(!a3) = false›, ‹b1 = false›, ‹b2 = false›, ‹b3 = false›, ‹ls = false›, ‹dv = false›, ‹b4 = false›, ‹b5 = false›, ‹m1 = false›, ‹m2 = false›]; done))
              go_loopg [6] k (fun gg s6 wr => ∃ j : Nat, j ≤ k ∧ k - j ≤ gg ∧ s6 = .int .i64 j ∧ Below w4.heap.size w4 wr)
              case atStart => exact ⟨0, Nat.zero_le _, by omega, rfl, by assumption⟩
              case round =>
                obtain ⟨j, hj, hgj, rfl, hwr3⟩ := hrel
                by_cases hjk : j < k
                · have hjki : (j : Int) < (k : Int) := by omega
                  have GR : Below wr.heap.size wr wr := Below.refl _ _
                  have uF2 := fun u : Later wr.heap.size wr => FY2 u.w (then_ hwr3 u.h)
                  repeat' (first | go_skip | go_guarded | go_step | go_upon)
                  refine wp_region_base wr (by assumption) (by first | assumption | kernel_rfl) (by kernel_rfl) ?_
                  repeat (go_big_quiet_step (first | fail))
                  refine wpQuiet_nil ?_
                  rintro _ ⟨u, rfl⟩
                  have bu := u.h
                  repeat' (first | go_skip | go_guarded | go_step | go_upon)
                  go_roundg (k - (j + 1))
                  case measure => omega
                  case rel => exact ⟨j + 1, by omega, by omega, by go_num, then_ hwr3 (by assumption)⟩
                · have hjki : ¬ (j : Int) < (k : Int) := by omega
                  repeat' (first | go_skip | go_guarded | go_step | go_upon)
                  go_roundg (n - (k + 1))
                  case measure => omega
                  case rel => exact ⟨k + 1, by omega, by omega, by go_num, then_ HW4.out (by assumption), by show _ = _; rw [E.out, D.out]; exact firstE_next Q2.out⟩
            · have hzb : (x.len == 0) = false := by simpa using hz
              have hzn : (x.len != 0) = true := by simpa using hz
              obtain ⟨b1, hb1⟩ : ∃ q, ((x.addr : Int) == 0) = q := ⟨_, rfl⟩
              have Hb1 := hid hb1
              obtain ⟨m1, hm1⟩ : ∃ q, (x.area != 0) = q := ⟨_, rfl⟩
              have Hm1 := hid hm1
              obtain ⟨m2, hm2⟩ : ∃ q, (x.cost != 0) = q := ⟨_, rfl⟩
              have Hm2 := hid hm2
              have BC := hid (show cB x = !b1 by rw [CB.out, if_neg hz, ← Hb1.out]; rw [Bool.eq_iff_iff]; simp)
              have CD := hid (show cC x = if ls then c1 && c2 else !m1 && !m2 by rw [CC.out, ← Hm1.out, ← Hm2.out]; cases ls <;> rw [Bool.eq_iff_iff] <;> simp)
              have HZ := hid hz
              clear hz
              repeat' (first | (go_at_call 45; with_reducible refine (d1 _).mono ?_; rintro e w' ⟨rfl, rfl⟩; try dsimp only) | (go_at_call 45; with_reducible refine (d2 _).mono ?_; rintro e w' ⟨rfl, rfl⟩; try dsimp only) | (go_at_call 45; with_reducible refine (d3 _).mono ?_; rintro e w' ⟨rfl, rfl⟩; try dsimp only) | (go_at_call 45; with_reducible refine (d4 _).mono ?_; rintro e w' ⟨rfl, rfl⟩; try dsimp only) | (go_at_call 45; with_reducible refine (d5 _).mono ?_; rintro e w' ⟨rfl, rfl⟩; try dsimp only) | go_skip | go_big_skip | go_big_want | go_big_guard | go_step | go_upon)
              all_goals first | ((try simp only [Exit.inBlock, Exit.then]); refine bodyPost_ret (results_tmp (by rfl) _ _ _) (by rfl) ?_; exact ⟨ret_int (by have Q2 : ifcE l k x = 1 := (by rw [IE2.out, BC.out, CD.out]; first | (simp [‹a1 = false›]; done) | (simp [‹(!a1) = true›]; done) | (simp [‹a2 = false›]; done) | (simp [‹(!a2) = true›]; done) | (simp [‹a3 = false›]; done) | (simp [‹(!a3) = true›]; done) | (simp [‹b1 = true›]; done) | (simp [‹ls = true›, ‹c1 = false›]; done) | (simp [‹ls = true›, ‹(!c1) = true›]; done) | (simp [‹ls = true›, ‹c2 = false›]; done) | (simp [‹ls = true›, ‹(!c2) = true›]; done) | (simp [‹ls = false›, ‹m1 = true›]; done) | (simp [‹ls = false›, ‹m2 = true›]; done)); rw [E.out, D.out]; refine ((firstE_hit (by rw [Q2]; simp)).trans ?_).symm; rw [Q2]), then_ HW4.out (by assumption)⟩) | skip
              all_goals
                have IE3 := hid (show ifcE l k x = if ov then 6 else 0 by rw [IE2.out]; rw [BC.out, CD.out]; first | (simp [HZ.out, ‹a1 = true›, ‹a2 = true›, ‹a3 = true›, ‹b1 = false›, ‹ls = true›, ‹c1 = true›, ‹c2 = true›]; done) | (simp [HZ.out, ‹a1 = true›, ‹a2 = true›, ‹a3 = true›, ‹b1 = false›, ‹ls = true›, ‹c1 = true›, ‹(!c2) = false›]; done) | (simp [HZ.out, ‹a1 = true›, ‹a2 = true›, ‹a3 = true›, ‹b1 = false›, ‹ls = false›, ‹m1 = false›, ‹m2 = false›]; done) | (simp [HZ.out, ‹a1 = true›, ‹a2 = true›, ‹(!a3) = false›, ‹b1 = false›, ‹ls = true›, ‹c1 = true›, ‹c2 = true›]; done) | (simp [HZ.out, ‹a1 = true›, ‹a2 = true›, ‹(!a3) = false›, ‹b1 = false›, ‹ls = true›, ‹c1 = true›, ‹(!c2) = false›]; done) | (simp [HZ.out, ‹a1 = true›, ‹a2 = true›, ‹(!a3) = false›, ‹b1 = false›, ‹ls = false›, ‹m1 = false›, ‹m2 = false›]; done))
                go_loopg [6] k (fun gg s6 wr => ∃ j : Nat, j ≤ k ∧ k - j ≤ gg ∧ s6 = .int .i64 j ∧ Below w4.heap.size w4 wr ∧ Aside (ov = ((l.take k).drop j).any (fun y : Ifc => !decide (y.len = 0) && ovP (netP x) (netP y))))
                case atStart => exact ⟨0, Nat.zero_le _, by omega, rfl, by assumption, OV.out⟩
                case round =>
                  obtain ⟨j, hj, hgj, rfl, hwr3, V⟩ := hrel
                  by_cases hjk : j < k
                  · have hjki : (j : Int) < (k : Int) := by omega
                    have hjn : (j : Int) < (n : Int) := by omega
                    have hj0 : (0 : Int) ≤ (j : Int) := by omega
                    obtain ⟨y, hy⟩ := get_some (l := l) (k := j) (by have := N.out; omega)
                    have hcy := row_cells (f := eIfc) (z := 12) (fun _ => rfl) hc hy
                    have GR : Below wr.heap.size wr wr := Below.refl _ _
                    have uF1 := fun u : Later wr.heap.size wr => FY1 u.w (then_ hwr3 u.h)
                    have uF2 := fun u : Later wr.heap.size wr => FY2 u.w (then_ hwr3 u.h)
                    have uY1 : ∀ u : Later wr.heap.size wr, u.w.cell? ⟨b, off + j * zInterface + 1, none⟩ = some (.int .u32 (y.addr : Int)) := fun u => by rw [ZI.out]; exact ((then_ HW4.out (then_ hwr3 u.h)).cell (p := ⟨b, off + j * 12 + 1, none⟩) hb).trans (hcy 1 _ rfl)
                    have uY2 : ∀ u : Later wr.heap.size wr, u.w.cell? ⟨b, off + j * zInterface + 2, none⟩ = some (.int .i64 y.len) := fun u => by rw [ZI.out]; exact ((then_ HW4.out (then_ hwr3 u.h)).cell (p := ⟨b, off + j * 12 + 2, none⟩) hb).trans (hcy 2 _ rfl)
                    have e1 := fun wx => hNt x wx (RA.out x hm)
                    have e2 := fun wx => hNt y wx (RA.out y (get_mem hy))
                    have e3 := fun wx => hOv x y wx (RA.out x hm) (RA.out y (get_mem hy))
                    obtain ⟨PX, hPX⟩ : ∃ q, q = Ad.px (net x.addr x.len) ((cl x.len : Nat) : Int) := ⟨_, rfl⟩
                    obtain ⟨PY, hPY⟩ : ∃ q, q = Ad.px (net y.addr y.len) ((cl y.len : Nat) : Int) := ⟨_, rfl⟩
                    obtain ⟨o, ho⟩ : ∃ q, q = ovP (netP x) (netP y) := ⟨_, rfl⟩
                    have ho2 : ovlB (net x.addr x.len) ((cl x.len : Nat) : Int) (net y.addr y.len) ((cl y.len : Nat) : Int) = o := ho.symm
                    rw [← hPX] at e1 e3
                    rw [← hPY] at e2 e3
                    rw [ho2] at e3
                    have HO := hid ho
                    clear hcy hPX hPY ho2 ho
                    by_cases hyz : y.len = 0
                    · have hyzb : (y.len != 0) = false := by simpa using hyz
                      have V2 := hid (V.out.trans (any_next hy hjk (by rw [decide_eq_true hyz]; rfl)))
                      repeat' (first | go_skip | go_guarded | go_step | go_upon)
                      refine wp_region_base wr (by assumption) (by first | assumption | kernel_rfl) (by kernel_rfl) ?_
                      repeat (go_big_quiet_step (first | fail))
                      refine wpQuiet_nil ?_
                      rintro _ ⟨u, rfl⟩
                      have bu := u.h
                      repeat' (first | go_skip | go_guarded | go_step | go_upon)
                      go_roundg (k - (j + 1))
                      case measure => omega
                      case rel => exact ⟨j + 1, by omega, by omega, by go_num, then_ hwr3 (by assumption), V2.out⟩
                    · have hyzb : (y.len != 0) = true := by simpa using hyz
                      cases o
                      case true =>
                        have V2 := hid (V.out.trans (any_hit hy hjk (by rw [decide_eq_false hyz, ← HO.out]; rfl)))
                        have Q2 := hid (show ifcE l k x = 6 by rw [IE3.out, V2.out]; rfl)
                        repeat' (first | go_skip | go_guarded | go_step | go_upon)
                        refine wp_region_base wr (by assumption) (by first | assumption | kernel_rfl) (by kernel_rfl) ?_
                        repeat (go_big_quiet_step (first | (go_at_call 28; with_reducible exact later_of (Nat.le_refl _) (e1 _)) | (go_at_call 28; with_reducible exact later_of (Nat.le_refl _) (e2 _)) | (go_at_call 63; with_reducible exact later_of (Nat.le_refl _) (e3 _))))
                        refine wpQuiet_nil ?_
                        rintro _ ⟨u, rfl⟩
                        have bu := u.h
                        repeat' (first | go_skip | go_guarded | go_step | go_upon)
                        go_ret
                        exact ⟨ret_int (by rw [E.out, D.out]; refine ((firstE_hit (by rw [Q2.out]; simp)).trans ?_).symm; rw [Q2.out]), then_ HW4.out (then_ hwr3 (by assumption))⟩
                      case false =>
                        have V2 := hid (V.out.trans (any_next hy hjk (by rw [← HO.out]; simp)))
                        repeat' (first | go_skip | go_guarded | go_step | go_upon)
                        refine wp_region_base wr (by assumption) (by first | assumption | kernel_rfl) (by kernel_rfl) ?_
                        repeat (go_big_quiet_step (first | (go_at_call 28; with_reducible exact later_of (Nat.le_refl _) (e1 _)) | (go_at_call 28; with_reducible exact later_of (Nat.le_refl _) (e2 _)) | (go_at_call 63; with_reducible exact later_of (Nat.le_refl _) (e3 _))))
                        refine wpQuiet_nil ?_
                        rintro _ ⟨u, rfl⟩
                        have bu := u.h
                        repeat' (first | go_skip | go_guarded | go_step | go_upon)
                        go_roundg (k - (j + 1))
                        case measure => omega
                        case rel => exact ⟨j + 1, by omega, by omega, by go_num, then_ hwr3 (by assumption), V2.out⟩
                  · have hjki : ¬ (j : Int) < (k : Int) := by omega
                    have V2 := hid (V.out.trans (any_end (by omega)))
                    have Q2 := hid (show ifcE l k x = 0 by rw [IE3.out, V2.out]; rfl)
                    repeat' (first | go_skip | go_guarded | go_step | go_upon)
                    go_roundg (n - (k + 1))
                    case measure => omega
                    case rel => exact ⟨k + 1, by omega, by omega, by go_num, then_ HW4.out (by assumption), by show _ = _; rw [E.out, D.out]; exact firstE_next Q2.out⟩
    · have hlti : ¬ (k : Int) < (n : Int) := by omega
      repeat' (first | go_skip | go_guarded | go_step | go_upon)
      go_ret
      exact ⟨ret_int (by rw [E.out, drop_end (by have := N.out; omega)]; rfl), by assumption⟩
end Go.Proofs.Ytlhbfpapmolohaa.Mw
