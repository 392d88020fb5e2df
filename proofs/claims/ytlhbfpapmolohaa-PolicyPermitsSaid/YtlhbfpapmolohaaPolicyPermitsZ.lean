/-
  PolicyPermitsZ: PolicyPermitsW, PolicyPermitsL, joined.
-/
import Derived.Test.YtlhbfpapmolohaaPolT
import Derived.Test.YtlhbfpapmolohaaRows
import Derived.Test.YtlhbfpapmolohaaPolO
import Derived.WalkKit
import Derived.ProofKit
import Derived.OpenShut
import Derived.ShutString
import Derived.ChangeOld
import Derived.Below
import Derived.Lib.SmallJoins
import Derived.ChangeMaps5
/-
  THE WALK OF THE LAW PolicyPermits.
-/
namespace Go.Proofs.Ytlhbfpapmolohaa.Mw
set_option linter.unusedSimpArgs false
set_option linter.unusedVariables false
open Go.RowKit Kt Mm Mp Am

theorem str0 : (⟨#[]⟩ : ByteArray).toList.isEmpty = true := by rw [Sc.toList_nil _ rfl]; rfl

set_option maxHeartbeats 8000000 in
theorem walkPolicyPermits (r : Rtr) (s : ByteArray) (p : Pfx) (W : World) (hr : RtrIn W r) (hs : s.size ≤ maxLen) (ha : low p.addr) :
    Calls Try.prog 4 #[.agg (eRtr r).toArray, .string s, .agg (ePfx p).toArray] W fun e w' => e = .returned (.bool true) ∧ Below W.heap.size W w' := by
  have hSn := fun wx => plSane wx
  have hV : ∀ wx, Calls Try.prog 9 #[.agg #[.int .u32 (p.addr : Int), .int .i64 p.len]] wx fun e w' => e = .returned (.bool (vPf p)) ∧ Below wx.heap.size wx w' := fun wx => Ad.refValid p.addr p.len wx ha
  obtain ⟨X, hX⟩ : ∃ X, X = (eRtr r).toArray := ⟨_, rfl⟩
  obtain ⟨Y, hY⟩ : ∃ Y, Y = (ePfx p).toArray := ⟨_, rfl⟩
  obtain ⟨w2, hw2⟩ : ∃ w2, (W.alloc (.cells X 55)).alloc (.cells Y 27) = w2 := ⟨_, rfl⟩
  have hhX : w2.heap[W.heap.size]? = some (.cells X 55 (0, 0)) := by rw [← hw2, Below.heap_alloc _ _ _ (by simp), heap_new]
  have hhY : w2.heap[W.heap.size + 1]? = some (.cells Y 27 (0, 0)) := by rw [← hw2]; have h := heap_new (W.alloc (.cells X 55)) (.cells Y 27 (0, 0)); rwa [new_size] at h
  have KX : ∀ v : World, Below w2.heap.size w2 v → v.heap[W.heap.size]? = some (.cells X 55 (0, 0)) := fun v h => blk_keep hhX h
  have FY0 : ∀ v : World, Below w2.heap.size w2 v → v.cell? ⟨W.heap.size + 1, 0, none⟩ = some (.int .u32 (p.addr : Int)) := fun v h => box_at (blk_keep hhY h) (by rw [hY]; rfl)
  have FY1 : ∀ v : World, Below w2.heap.size w2 v → v.cell? ⟨W.heap.size + 1, 1, none⟩ = some (.int .i64 p.len) := fun v h => box_at (blk_keep hhY h) (by rw [hY]; rfl)
  have Gw2 : Below w2.heap.size w2 w2 := Below.refl _ _
  have Hw2 := hid (show Below W.heap.size W w2 by rw [← hw2]; exact al2 _ _ _)
  have hX' := hid hX
  have hY' := hid hY
  try rw [← hX]
  try rw [← hY]
  clear hX hY hhX hhY
  have hXs : X.size = 25 := by rw [hX'.out]; rfl
  have HR := hid (hr.keep Hw2.out)
  have HR0 := hid hr
  have hF := fun wx (h : Below w2.heap.size w2 wx) => fewC r wx (HR.out.keep h)
  have hPa := fun wx (h : Below w2.heap.size w2 wx) => partC r wx (HR.out.keep h)
  rw [← hX'.out] at hF hPa
  have hP1 := fun (t : ByteArray) wx (h : RtrIn wx (partR r)) => plPermits (partR r) t p wx h ha
  have hP2 := fun (t : ByteArray) wx (h : RtrIn wx (partR r)) => rfPermits (partR r) t p wx h ha
  have hP0 : ∀ wx, RtrIn wx (partR r) → Calls Try.prog 18 #[.agg (eRtr (partR r)).toArray, .string ⟨#[]⟩, .agg (ePfx p).toArray] wx fun e w' => e = .returned (.bool true) ∧ Below wx.heap.size wx w' := fun wx h => by
    have := plPermits (partR r) ⟨#[]⟩ p wx h ha
    rwa [pm_yes str0] at this
  simp only [ePfx] at hP0 hP1 hP2
  obtain ⟨Z, hZ⟩ : ∃ Z, Z = (eRtr (partR r)).toArray := ⟨_, rfl⟩
  have Z1 := hid (show Z.all (·.oneCell') = true by rw [hZ]; exact eRtr_one (part_in HR.out))
  have hZs : Z.size = 25 := by rw [hZ]; rfl
  have z3 : Z[3]? = some r.vLists := by rw [hZ]; rfl
  rw [← hZ] at hP0 hP1 hP2 hPa
  obtain ⟨vp, hvp⟩ : ∃ q, q = vPf p := ⟨_, rfl⟩
  rw [← hvp] at hV
  obtain ⟨aL, capL, hvL, hcapL, hcL⟩ := rows_open (z := 2) (by decide) hr.lists.row
  obtain ⟨l, hl⟩ : ∃ l, l = r.lists := ⟨_, rfl⟩
  have lenL := hr.lists.len
  rw [← hl] at hvL hcapL hcL lenL
  obtain ⟨n, hn⟩ : ∃ n, n = l.length := ⟨_, rfl⟩
  rw [← hn] at hvL hcapL hcL lenL
  rw [hvL] at z3
  have N := hid hn
  have HL := hid hcL
  have hss : (s.size : Int) ≤ 9223372036854775807 := by unfold maxLen at hs; omega
  have PI := hid (fun wx (h : Below w2.heap.size w2 wx) => part_in (HR.out.keep h))
  clear hcL hn hl hvL hZ hr ha hvp hs
  obtain ⟨P, hP⟩ : ∃ P, P = Try.prog := ⟨_, rfl⟩
  have HP := hid hP
  have mixed : P.follows .mixedOrders = true := by rw [hP]; kernel_rfl
  have FG : P.funcs[4]? = some Try.f4 := by rw [hP]; exact Try.func4
  obtain ⟨zRouter, hzRouter⟩ : ∃ z, z = 25 := ⟨_, rfl⟩
  have nzRouter : ¬ zRouter = 0 := by omega
  obtain ⟨zPrefixList, hzPrefixList⟩ : ∃ z, z = 2 := ⟨_, rfl⟩
  have nzPrefixList : ¬ zPrefixList = 0 := by omega
  have ty3 := Try.underlying3; have ag3 := Try.isAgg3; have sz3 := Try.sizeOf3; have ru3 := Try.runUnderlying3
  have ty4 := Try.underlying4; have ag4 := Try.isAgg4; have sz4 := Try.sizeOf4; have ru4 := Try.runUnderlying4
  have ty9 := Try.underlying9; have ag9 := Try.isAgg9; have sz9 := Try.sizeOf9; have ru9 := Try.runUnderlying9
  have ty24 := Try.underlying24; have ag24 := Try.isAgg24; have sz24 := Try.sizeOf24; have ru24 := Try.runUnderlying24
  rw [← hzPrefixList] at sz24
  have ty27 := Try.underlying27; have ag27 := Try.isAgg27; have sz27 := Try.sizeOf27; have ru27 := Try.runUnderlying27
  have ty37 := Try.underlying37; have ag37 := Try.isAgg37; have sz37 := Try.sizeOf37; have ru37 := Try.runUnderlying37
  have ty55 := Try.underlying55; have ag55 := Try.isAgg55; have sz55 := Try.sizeOf55; have ru55 := Try.runUnderlying55
  rw [← hzRouter] at sz55
  have en0 : ∀ args w, (callFunc 16 args).run Try.prog w = .ok (.enter 16 args) w := enters_of Try.func16 (by kernel_rfl) rfl
  have en1 : ∀ args w, (callFunc 17 args).run Try.prog w = .ok (.enter 17 args) w := enters_of Try.func17 (by kernel_rfl) rfl
  have en2 : ∀ args w, (callFunc 15 args).run Try.prog w = .ok (.enter 15 args) w := enters_of Try.func15 (by kernel_rfl) rfl
  have en3 : ∀ args w, (callFunc 9 args).run Try.prog w = .ok (.enter 9 args) w := enters_of Try.func9 (by kernel_rfl) rfl
  have en4 : ∀ args w, (callFunc 19 args).run Try.prog w = .ok (.enter 19 args) w := enters_of Try.func19 (by kernel_rfl) rfl
  have en5 : ∀ args w, (callFunc 18 args).run Try.prog w = .ok (.enter 18 args) w := enters_of Try.func18 (by kernel_rfl) rfl
  rw [← hP] at ty3 ag3 sz3 ru3 ty4 ag4 sz4 ru4 ty9 ag9 sz9 ru9 ty24 ag24 sz24 ru24 ty27 ag27 sz27 ru27 ty37 ag37 sz37 ru37 ty55 ag55 sz55 ru55 en0 en1 en2 en3 en4 en5 hSn hV hF hPa hP0 hP1 hP2 ⊢
  clear hP
  have KX2 := KX
  have LX : ∀ v : World, Below w2.heap.size w2 v → Sem.run P (loadCellsFrom ⟨W.heap.size, 0, none⟩ 0 zRouter #[]) v = .ok X v := fun v h => ld_box P (KX v h) (by rw [hzRouter]; exact hXs)
  have ZR := hid hzRouter
  have ZL := hid hzPrefixList
  have SZ : ∀ v, (sizeOf 55).run P v = .ok Z.size v := fun v => by rw [hZs, ← ZR.out]; exact sz55 v
  clear hzRouter hzPrefixList KX
  go_enter FG, Try.ntmps4
  repeat' ((fail_if_success (with_reducible show Hid _)); (first | (go_at_call 16; with_reducible refine (hF _ (by assumption)).mono ?_; rintro e wf ⟨⟨fb, rfl, hfb⟩, bf⟩; refine stopP ?_) | go_skip | go_big_skip | go_big_want | go_big_guard | go_step | go_upon))
  refine hid ?_
  dsimp only
  have bf2 := bf
  clear hfb hF
  cases fb
  case false =>
    repeat' (first | go_skip | go_big_skip | go_big_want | go_big_guard | go_step | go_upon)
    go_ret
    exact ⟨rfl, then_ Hw2.out bf⟩
  by_cases h40 : 40 < s.size
  · have h40i : (40 : Int) < (s.size : Int) := by omega
    repeat' (first | go_skip | go_big_skip | go_big_want | go_big_guard | go_step | go_upon)
    go_ret
    exact ⟨rfl, then_ Hw2.out bf⟩
  have h40i : ¬ (40 : Int) < (s.size : Int) := by omega
  cases vp
  case false =>
    repeat' (first | (go_at_call 9; with_reducible refine (hV _).mono ?_; rintro e w' ⟨rfl, b⟩; have b' := then_ (w := w2) (by assumption) b; clear b; try dsimp only) | go_skip | go_big_skip | go_big_want | go_big_guard | go_step | go_upon)
    go_ret
    exact ⟨rfl, then_ Hw2.out (by assumption)⟩
  repeat' ((fail_if_success (with_reducible show Hid _)); (first | (go_at_call 9; with_reducible refine (hV _).mono ?_; rintro e w' ⟨rfl, b⟩; have b' := then_ (w := w2) (by assumption) b; clear b; try dsimp only) | (go_at_call 17; with_reducible refine (hPa _ (by assumption)).mono ?_; rintro e wp ⟨rfl, bp⟩; refine stopP ?_) | go_skip | go_big_skip | go_big_want | go_big_guard | go_step | go_upon))
  refine hid ?_
  dsimp only
  have bp2 : Below w2.heap.size w2 wp := then_ (by assumption) bp
  have Kp := KX2 wp bp2
  clear hPa hV LX KX2 h40 h40i
  repeat' ((fail_if_success (with_reducible show Hid _)); (first | ((with_reducible show Oper.wp _ ⟨_, .store 55 _ _, _, _, _, _⟩ _ _ _ _); refine stopP ?_) | go_skip | go_guarded | go_step | go_upon))
  refine hid ?_
  refine wp_store_box (w := wp) 55 _ _ (by rfl) (g := W.heap.size) (cur := X) (X := Z) (by rfl) (by rfl) SZ Kp (by rw [hXs, hZs]) Z1.out ?_
  intro w4 h1 h2 h3
  have HW := hid ((then_ Hw2.out bp2).trans (h3 W.heap.size (Nat.le_refl _)))
  have s2 : w2.heap.size = W.heap.size + 2 := by rw [← hw2, new_size, new_size]
  have s4 : w2.heap.size ≤ w4.heap.size := Nat.le_trans bp2.size (h3 W.heap.size (Nat.le_refl _)).size
  have G4 : Below w4.heap.size w4 w4 := Below.refl _ _
  have LZ : ∀ v : World, Below w4.heap.size w4 v → Sem.run P (loadCellsFrom ⟨W.heap.size, 0, none⟩ 0 zRouter #[]) v = .ok Z v := fun v h => ld_box P (blk_keep h1 h) (by rw [ZR.out]; exact hZs)
  have FZ3 : ∀ v : World, Below w4.heap.size w4 v → v.cell? ⟨W.heap.size, 3, none⟩ = some (.slice aL n capL) := fun v h => box_at (blk_keep h1 h) z3
  have kY : ∀ j : Nat, ∀ q : Value, wp.cell? ⟨W.heap.size + 1, j, none⟩ = some q → ∀ v : World, Below w4.heap.size w4 v → v.cell? ⟨W.heap.size + 1, j, none⟩ = some q := fun j q hq v hv => by
    have e1 : w4.cell? ⟨W.heap.size + 1, j, none⟩ = some q := by
      rw [← hq]; unfold World.cell?; rw [h2 _ (by show W.heap.size + 1 ≠ W.heap.size; omega)]
    exact (hv.cell (p := ⟨W.heap.size + 1, j, none⟩) (by show W.heap.size + 1 < w4.heap.size; omega)).trans e1
  have FZ0 := kY 0 _ (FY0 wp bp2)
  have FZ1 := kY 1 _ (FY1 wp bp2)
  have PI4 := hid (fun wx (h : Below w4.heap.size w4 wx) => part_in (HR0.out.keep (then_ HW.out h)))
  have c0 := fun u : Later w4.heap.size w4 => hP0 u.w (PI4.out u.w u.h)
  have c1 := fun (t : ByteArray) wx (h : Below w4.heap.size w4 wx) => hP1 t wx (PI4.out wx h)
  have c2 := fun (t : ByteArray) wx (h : Below w4.heap.size w4 wx) => hP2 t wx (PI4.out wx h)
  clear h1 h2 h3 kY FY0 FY1 Kp hP0 hP1 hP2 hXs hZs z3 SZ bf bp bp2 bf2
  have uL := fun u : Later w4.heap.size w4 => LZ u.w u.h
  have u0 := fun u : Later w4.heap.size w4 => FZ0 u.w u.h
  have u1 := fun u : Later w4.heap.size w4 => FZ1 u.w u.h
  have d1 := fun u : Later w4.heap.size w4 => c1 s u.w u.h
  have d2 := fun u : Later w4.heap.size w4 => c2 s u.w u.h
  obtain ⟨o, ho⟩ : ∃ q, q = pmB (partR r).lists s p := ⟨_, rfl⟩
  rw [← ho] at d1 d2
  clear ho
  dsimp only [Act.put]
  repeat' (first | go_skip | go_guarded | go_step | go_upon)
  refine wp_region_base w4 (by assumption) (by first | assumption | kernel_rfl) (by kernel_rfl) ?_
  repeat (go_big_quiet_step (first | (go_at_call 18; with_reducible exact later_of (Nat.le_refl _) (c0 _)) | (go_at_call 18; with_reducible exact later_of (Nat.le_refl _) (d1 _)) | (go_at_call 19; with_reducible exact later_of (Nat.le_refl _) (d2 _))))
  refine wpQuiet_nil ?_
  rintro _ ⟨u, rfl⟩
  have bu := u.h
  clear c0 d1 d2 uL u0 u1
  repeat' (first | go_skip | go_guarded | go_step | go_upon)
  go_loopg [7] n (fun gg s7 wr => ∃ k : Nat, k ≤ n ∧ n - k ≤ gg ∧ s7 = .int .i64 k ∧ Below w4.heap.size w4 wr)
  case atStart => exact ⟨0, Nat.zero_le _, by omega, rfl, bu⟩
  case round =>
    obtain ⟨k, hk, hg, rfl, hwr⟩ := hrel
    have f3 := FZ3 wr hwr
    have GR : Below wr.heap.size wr wr := Below.refl _ _
    by_cases hlt : k < n
    · have hlti : (k : Int) < (n : Int) := by omega
      have hk0 : (0 : Int) ≤ (k : Int) := by omega
      obtain ⟨x, hx⟩ := get_some (l := l) (k := k) (by have := N.out; omega)
      obtain ⟨b, off, rfl, hb, hc⟩ := HL.out (by omega)
      have uN : ∀ u : Later wr.heap.size wr, u.w.cell? ⟨b, off + k * zPrefixList, none⟩ = some (.string x.name) := fun u => by
        rw [ZL.out]; exact ((then_ HW.out (then_ hwr u.h)).cell (p := ⟨b, off + k * 2, none⟩) hb).trans (row_cells (f := ePList) (z := 2) (fun _ => rfl) hc hx 0 _ rfl)
      have uL := fun u : Later wr.heap.size wr => LZ u.w (then_ hwr u.h)
      have u3 := fun u : Later wr.heap.size wr => FZ3 u.w (then_ hwr u.h)
      have u0 := fun u : Later wr.heap.size wr => FZ0 u.w (then_ hwr u.h)
      have u1 := fun u : Later wr.heap.size wr => FZ1 u.w (then_ hwr u.h)
      have d1 := fun u : Later wr.heap.size wr => c1 x.name u.w (then_ hwr u.h)
      have d2 := fun u : Later wr.heap.size wr => c2 x.name u.w (then_ hwr u.h)
      obtain ⟨o2, ho2⟩ : ∃ q, q = pmB (partR r).lists x.name p := ⟨_, rfl⟩
      rw [← ho2] at d1 d2
      clear ho2 hx hc
      repeat' (first | go_skip | go_guarded | go_step | go_upon)
      refine wp_region_base wr (by assumption) (by first | assumption | kernel_rfl) (by kernel_rfl) ?_
      repeat (go_big_quiet_step (first | (go_at_call 18; with_reducible exact later_of (Nat.le_refl _) (d1 _)) | (go_at_call 19; with_reducible exact later_of (Nat.le_refl _) (d2 _))))
      refine wpQuiet_nil ?_
      rintro _ ⟨u, rfl⟩
      have bu := u.h
      repeat' (first | go_skip | go_guarded | go_step | go_upon)
      go_roundg (n - (k + 1))
      case measure => omega
      case rel => exact ⟨k + 1, by omega, by omega, by go_num, then_ hwr (by assumption)⟩
    · have hlti : ¬ (k : Int) < (n : Int) := by omega
      repeat' (first | (go_at_call 15; with_reducible refine (hSn _).mono ?_; rintro e w' ⟨rfl, b⟩; have b' := then_ (w := wr) (by assumption) b; clear b; try dsimp only) | go_skip | go_guarded | go_step | go_upon)
      go_ret
      exact ⟨rfl, then_ HW.out (then_ hwr (by assumption))⟩
end Go.Proofs.Ytlhbfpapmolohaa.Mw

/-
  PolicyPermits: PolicyPermits is true for every router, name and prefix. No condition.
-/
namespace Go.Proofs.Ytlhbfpapmolohaa.policyPermits
open Go.ChangeShapes Go.WideShapes Go.ChangeAt Go.RowKit Go.Joins
open Go.ChangeMaps (open_string shut_string)
set_option linter.unusedSimpArgs false
set_option linter.unusedVariables false

theorem own : ownKnob Try.prog.godebug = none := by kernel_rfl
theorem laidOut : laidOutB Try.prog = true := by kernel_rfl

set_option maxRecDepth 100000 in
theorem lifted (os : Os) (started : os.Started) (H : Type) (enc : TypeId × Value → H) :
    ReturnsInHanded {} Try.checked os 4 .any (Rows.policyPermitsSpec.pre6 enc Try.prog Try.f4 Rows.policyPermitsRow.domain false) (Rows.policyPermitsSpec.post enc Try.prog Try.f4 false true false false) := by
  refine returnsInHanded_of_change (C := Try.checked) own started (by kernel_rfl) Try.func4
    (ChangeSpec.witness6 (enc := enc) (C := Try.checked) false ⟨#[], #[.agg #[.string ByteArray.empty, .int .i64 0, .slice none 0 0, .slice none 0 0, .slice none 0 0, .slice none 0 0, .slice none 0 0, .slice none 0 0, .bool false, .int .i64 0, .slice none 0 0, .slice none 0 0, .bool false, .int .i64 0, .string ByteArray.empty, .string ByteArray.empty, .slice none 0 0, .bool false, .int .i64 0, .int .i64 0, .slice none 0 0, .slice none 0 0, .slice none 0 0, .slice none 0 0, .slice none 0 0], .string ByteArray.empty, .agg #[.int .u32 0, .int .i64 0]], []⟩ 8 (by kernel_rfl) (by kernel_rfl) (by kernel_rfl) (by kernel_rfl)) ?_
  intro W base args ds gs before hval0 hW hcnd _
  have hval : ∀ (j : Nat) t v, Try.f4.params[j]? = some t → args[j]? = some v → Value.okWide Try.prog W .any base t v := hval0
  have hW' := hW
  obtain ⟨p, q, hA0, hV, rfl, hfz, hnd⟩ := hW
  have hA : DataW.TrodAll enc Try.prog W 0 (fun _ => true) true Try.f4.params.toList args.toList ds p := hA0
  rw [Try.params4] at hA hval
  obtain ⟨v0, vs0, d0, ds0, p0, q0, hargs, rfl, rfl, h0, r0⟩ := trodAll_cons hA
  obtain ⟨v1, vs1, d1, ds1, p1, q1, rfl, rfl, rfl, h1, r1⟩ := trodAll_cons r0
  obtain ⟨v2, vs2, d2, ds2, p2, q2, rfl, rfl, rfl, h2, r2⟩ := trodAll_cons r1
  obtain ⟨rfl, rfl, rfl⟩ := trodAll_nil r2
  obtain rfl : args = #[v0, v1, v2] := by cases args; simp_all
  obtain ⟨rfl, rfl⟩ := trodVars_none hV
  have k0 := h0
  have lt0 : ∀ x ∈ p0, x.block < W.heap.size := by obtain ⟨m, hm⟩ := k0; exact DataW.trod_lt m _ _ _ hm
  obtain ⟨q0, rfl, i0⟩ := Mo.opRtr (hval 0 55 v0 rfl rfl) h0
  obtain ⟨a1, rfl, rfl, rfl, w1⟩ := open_string Try.underlying9 (hval 1 9 v1 rfl rfl) h1
  have k2 := h2
  have lt2 : ∀ x ∈ p2, x.block < W.heap.size := by obtain ⟨m, hm⟩ := k2; exact DataW.trod_lt m _ _ _ hm
  obtain ⟨q2, rfl, i2⟩ := Mo.opPfx (hval 2 27 v2 rfl rfl) h2
  clear hA0 hval0
  refine (Mw.walkPolicyPermits q0 a1 q2 W i0 w1 i2).mono fun e W' ⟨he, bel⟩ => ?_
  subst he
  exact ⟨_, rfl, _, _, _, [], _, [], hW', trodAll_mk1 (shut_bool Try.underlying4 _), (trodAll_cons_mk (Below.trod laidOut (by kernel_rfl) (of_decide_eq_true (by kernel_rfl)) k0 bel lt0) (trodAll_cons_mk (shut_string Try.underlying9 w1) (trodAll_cons_mk (Below.trod laidOut (by kernel_rfl) (of_decide_eq_true (by kernel_rfl)) k2 bel lt2) trodAll_mk0))), rfl, bel.frame _, fun h => by cases h⟩

theorem over : Rows.policyPermitsRow.holds Try.pinned (OpenSpec.ofChange Rows.policyPermitsSpec) :=
  OpenClaim.holds_of_wide 4 Try.f4 rfl rfl rfl rfl rfl rfl rfl ⟨rfl, rfl, rfl, rfl, rfl⟩ rfl rfl rfl rfl rfl (by kernel_rfl) Try.func4 (by kernel_rfl)
    (of_decide_eq_true (by kernel_rfl)) (by unfold Func.isWrapper; first | (rw [if_pos (by decide +kernel)]; kernel_rfl) | (rw [if_neg (by decide +kernel)]; exact ⟨rfl, rfl⟩))
    (fun os started H enc _ => lifted os started H enc)

theorem proved : Rows.PolicyPermitsSaid := over
#print axioms proved
end Go.Proofs.Ytlhbfpapmolohaa.policyPermits
