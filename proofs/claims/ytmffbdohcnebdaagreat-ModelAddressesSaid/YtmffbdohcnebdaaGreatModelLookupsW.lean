/-
  THE WALK OF THE LAW ModelLookups.
-/
import Derived.Test.YtmffbdohcnebdaaGreatModSl
import Derived.Test.YtmffbdohcnebdaaGreatModSn
import Derived.Test.YtmffbdohcnebdaaGreatModR
namespace Go.Proofs.YtmffbdohcnebdaaGreat.Mw
set_option linter.unusedSimpArgs false
set_option linter.unusedVariables false
open Go.RowKit Kt Mm Mp

def zeroI : Array Value := #[.string ⟨#[]⟩, .int .u32 0, .int .i64 0, .int .i64 0, .bool false, .bool false, .int .i64 0, .int .i64 0, .bool false, .string ⟨#[]⟩, .string ⟨#[]⟩, .int .i64 0]
theorem ld_at {α : Type} {f : α → List Value} {z : Nat} (P : Program) (hz : ∀ x, (f x).length = z) {w : World} {v : Value} {l : List α} (h : IsRow f z w v l) {b off n cap : Nat} (hv : v = .slice (some ⟨b, off, none⟩) n cap) {k : Nat} {x : α} (hk : l[k]? = some x) :
    Sem.run P (loadCellsFrom ⟨b, off + k * z, none⟩ 0 z #[]) w = .ok (f x).toArray w := by
  obtain ⟨_, h2⟩ := h
  subst hv
  rcases h2 with ⟨h2, _⟩ | ⟨y, cap', hv, hnc, hc⟩
  · cases h2
  · cases hv
    exact ld_row P hz (fun j u hj => by rw [← add_lit]; exact hc j u hj) hk

set_option maxHeartbeats 16000000 in
set_option maxRecDepth 4000 in
theorem walkModelLookups (u : Value) (l : List Rtr) (s : ByteArray) (a : Nat) (W : World) (hn : NetIn W u l) (hs : s.size ≤ maxLen) (ha : low a) :
    Calls Tryz.prog 9 #[.agg #[u], .string s, .int .u32 (a : Int)] W fun e w' => e = .returned (.bool true) ∧ Below W.heap.size W w' := by
  have hSn := fun wx => saneC wx
  have hSl := fun wx (r : Rtr) (h : RtrIn wx r) => smallC r wx h
  have hR1 := fun wx (h : NetIn wx u l) => lkRtr #[u] u l s wx rfl h.row.row h.row.len
  have hR2 := fun wx (h : NetIn wx u l) => rkRtr #[u] u l s wx rfl h.row.row h.row.len
  obtain ⟨q0, hq0⟩ : ∃ q, q = ixB (fun x : Rtr => x.name.toList == s.toList) l := ⟨_, rfl⟩
  rw [← hq0] at hR1 hR2
  have hI1 := fun wx (r : Rtr) (t : ByteArray) (h : RtrIn wx r) => lkIfc (eRtr r).toArray r.vIfs r.ifs t wx rfl h.ifs.row h.ifs.len
  have hI2 := fun wx (r : Rtr) (t : ByteArray) (h : RtrIn wx r) => rkIfc (eRtr r).toArray r.vIfs r.ifs t wx rfl h.ifs.row h.ifs.len
  have hL1 := fun wx (r : Rtr) (t : ByteArray) (h : RtrIn wx r) => lkPList (eRtr r).toArray r.vLists r.lists t wx rfl h.lists.row h.lists.len
  have hL2 := fun wx (r : Rtr) (t : ByteArray) (h : RtrIn wx r) => rkPList (eRtr r).toArray r.vLists r.lists t wx rfl h.lists.row h.lists.len
  have hM1 := fun wx (r : Rtr) (t : ByteArray) (h : RtrIn wx r) => lkRMap (eRtr r).toArray r.vMaps r.maps t wx rfl h.maps.row h.maps.len
  have hM2 := fun wx (r : Rtr) (t : ByteArray) (h : RtrIn wx r) => rkRMap (eRtr r).toArray r.vMaps r.maps t wx rfl h.maps.row h.maps.len
  have hC1 := fun wx (r : Rtr) (t : ByteArray) (h : RtrIn wx r) => lkAcl (eRtr r).toArray r.vAcls r.acls t wx rfl h.acls.row h.acls.len
  have hC2 := fun wx (r : Rtr) (t : ByteArray) (h : RtrIn wx r) => rkAcl (eRtr r).toArray r.vAcls r.acls t wx rfl h.acls.row h.acls.len
  have hA1 := fun wx (r : Rtr) (t : Nat) (h : RtrIn wx r) => lkAdr (eRtr r).toArray r.vIfs r.ifs t wx rfl h.ifs.row h.ifs.len
  have hA2 := fun wx (r : Rtr) (t : Nat) (h : RtrIn wx r) => rkAdr (eRtr r).toArray r.vIfs r.ifs t wx rfl h.ifs.row h.ifs.len
  obtain ⟨ad, cap, hu, hcap, hcell⟩ := rows_open (z := 25) (by decide) hn.row.row
  obtain ⟨n, hnl⟩ : ∃ n, n = l.length := ⟨_, rfl⟩
  have hlen := hn.row.len
  rw [← hnl] at hu hcap hlen
  have N := hid hnl
  have hu' := hu
  rw [hu] at hR1 hR2 ⊢
  obtain ⟨w1, hw1⟩ : ∃ w1, W.alloc (.cells #[.slice ad n cap] 48) = w1 := ⟨_, rfl⟩
  have hhB : w1.heap[W.heap.size]? = some (.cells #[.slice ad n cap] 48 (0, 0)) := by rw [← hw1, heap_new]
  have HB := hid (show Below W.heap.size W w1 by rw [← hw1]; exact new_below _ _)
  have G1 : Below w1.heap.size w1 w1 := Below.refl _ _
  have FB : ∀ v : World, Below w1.heap.size w1 v → v.cell? ⟨W.heap.size, 0, none⟩ = some (.slice ad n cap) := fun v h => box_at (blk_keep hhB h) rfl
  have LB0 : ∀ v : World, Below w1.heap.size w1 v → Sem.run Tryz.prog (loadCellsFrom ⟨W.heap.size, 0, none⟩ 0 1 #[]) v = .ok #[.slice ad n cap] v := fun v h => ld_box _ (blk_keep hhB h) rfl
  have HN := hid (show NetIn W (.slice ad n cap) l by rw [← hu]; exact hn)
  have r1 := fun wx (h : Below w1.heap.size w1 wx) => hR1 wx (HN.out.keep (then_ HB.out h))
  have r2 := fun wx (h : Below w1.heap.size w1 wx) => hR2 wx (HN.out.keep (then_ HB.out h))
  have hss : (s.size : Int) ≤ 9223372036854775807 := by unfold maxLen at hs; omega
  clear hn hu hu' hnl hq0 hcell hR1 hR2 hs hhB
  obtain ⟨P, hP⟩ : ∃ P, P = Tryz.prog := ⟨_, rfl⟩
  have HP := hid hP
  have mixed : P.follows .mixedOrders = true := by rw [hP]; kernel_rfl
  have FG : P.funcs[9]? = some Tryz.f9 := by rw [hP]; exact Tryz.func9
  obtain ⟨zRouter, hzRouter⟩ : ∃ z, z = 25 := ⟨_, rfl⟩
  have nzRouter : ¬ zRouter = 0 := by omega
  obtain ⟨zInterface, hzInterface⟩ : ∃ z, z = 12 := ⟨_, rfl⟩
  have nzInterface : ¬ zInterface = 0 := by omega
  have ty3 := Tryz.underlying3; have ag3 := Tryz.isAgg3; have sz3 := Tryz.sizeOf3; have ru3 := Tryz.runUnderlying3
  have ty4 := Tryz.underlying4; have ag4 := Tryz.isAgg4; have sz4 := Tryz.sizeOf4; have ru4 := Tryz.runUnderlying4
  have ty9 := Tryz.underlying9; have ag9 := Tryz.isAgg9; have sz9 := Tryz.sizeOf9; have ru9 := Tryz.runUnderlying9
  have ty22 := Tryz.underlying22; have ag22 := Tryz.isAgg22; have sz22 := Tryz.sizeOf22; have ru22 := Tryz.runUnderlying22
  have ty41 := Tryz.underlying41; have ag41 := Tryz.isAgg41; have sz41 := Tryz.sizeOf41; have ru41 := Tryz.runUnderlying41
  rw [← hzRouter] at sz41
  have zeRouter := Tryz.zeroValue41
  have ty46 := Tryz.underlying46; have ag46 := Tryz.isAgg46; have sz46 := Tryz.sizeOf46; have ru46 := Tryz.runUnderlying46
  have ty48 := Tryz.underlying48; have ag48 := Tryz.isAgg48; have sz48 := Tryz.sizeOf48; have ru48 := Tryz.runUnderlying48
  have ty52 := Tryz.underlying52; have ag52 := Tryz.isAgg52; have sz52 := Tryz.sizeOf52; have ru52 := Tryz.runUnderlying52
  have ty54 := Tryz.underlying54; have ag54 := Tryz.isAgg54; have sz54 := Tryz.sizeOf54; have ru54 := Tryz.runUnderlying54
  rw [← hzInterface] at sz54
  have zeInterface := Tryz.zeroValue54
  have en0 : ∀ args w, (callFunc 29 args).run Tryz.prog w = .ok (.enter 29 args) w := enters_of Tryz.func29 (by kernel_rfl) rfl
  have en1 : ∀ args w, (callFunc 30 args).run Tryz.prog w = .ok (.enter 30 args) w := enters_of Tryz.func30 (by kernel_rfl) rfl
  have en2 : ∀ args w, (callFunc 23 args).run Tryz.prog w = .ok (.enter 23 args) w := enters_of Tryz.func23 (by kernel_rfl) rfl
  have en3 : ∀ args w, (callFunc 25 args).run Tryz.prog w = .ok (.enter 25 args) w := enters_of Tryz.func25 (by kernel_rfl) rfl
  have en4 : ∀ args w, (callFunc 27 args).run Tryz.prog w = .ok (.enter 27 args) w := enters_of Tryz.func27 (by kernel_rfl) rfl
  have en5 : ∀ args w, (callFunc 21 args).run Tryz.prog w = .ok (.enter 21 args) w := enters_of Tryz.func21 (by kernel_rfl) rfl
  have en6 : ∀ args w, (callFunc 11 args).run Tryz.prog w = .ok (.enter 11 args) w := enters_of Tryz.func11 (by kernel_rfl) rfl
  have en7 : ∀ args w, (callFunc 14 args).run Tryz.prog w = .ok (.enter 14 args) w := enters_of Tryz.func14 (by kernel_rfl) rfl
  have en8 : ∀ args w, (callFunc 17 args).run Tryz.prog w = .ok (.enter 17 args) w := enters_of Tryz.func17 (by kernel_rfl) rfl
  have en9 : ∀ args w, (callFunc 31 args).run Tryz.prog w = .ok (.enter 31 args) w := enters_of Tryz.func31 (by kernel_rfl) rfl
  have en10 : ∀ args w, (callFunc 24 args).run Tryz.prog w = .ok (.enter 24 args) w := enters_of Tryz.func24 (by kernel_rfl) rfl
  have en11 : ∀ args w, (callFunc 26 args).run Tryz.prog w = .ok (.enter 26 args) w := enters_of Tryz.func26 (by kernel_rfl) rfl
  have en12 : ∀ args w, (callFunc 28 args).run Tryz.prog w = .ok (.enter 28 args) w := enters_of Tryz.func28 (by kernel_rfl) rfl
  have en13 : ∀ args w, (callFunc 22 args).run Tryz.prog w = .ok (.enter 22 args) w := enters_of Tryz.func22 (by kernel_rfl) rfl
  rw [← hP] at ty3 ag3 sz3 ru3 ty4 ag4 sz4 ru4 ty9 ag9 sz9 ru9 ty22 ag22 sz22 ru22 ty41 ag41 sz41 ru41 zeRouter ty46 ag46 sz46 ru46 ty48 ag48 sz48 ru48 ty52 ag52 sz52 ru52 ty54 ag54 sz54 ru54 zeInterface en0 en1 en2 en3 en4 en5 en6 en7 en8 en9 en10 en11 en12 en13 hSn hSl r1 r2 hI1 hI2 hL1 hL2 hM1 hM2 hC1 hC2 hA1 hA2 LB0 ⊢
  clear hP
  have ZR := hid hzRouter
  have ZI := hid hzInterface
  clear hzRouter hzInterface
  have uFB := fun u : Later w1.heap.size w1 => FB u.w u.h
  have uLB0 := fun u : Later w1.heap.size w1 => LB0 u.w u.h
  by_cases h8 : 8 < n
  · have h8i : (8 : Int) < (n : Int) := by omega
    go_enter FG, Tryz.ntmps9
    repeat' (first | go_skip | go_guarded | go_step | go_upon)
    go_ret
    exact ⟨rfl, HB.out⟩
  have h8i : ¬ (8 : Int) < (n : Int) := by omega
  by_cases h40 : 40 < s.size
  · have h40i : (40 : Int) < (s.size : Int) := by omega
    go_enter FG, Tryz.ntmps9
    repeat' (first | go_skip | go_guarded | go_step | go_upon)
    go_ret
    exact ⟨rfl, HB.out⟩
  have h40i : ¬ (40 : Int) < (s.size : Int) := by omega
  go_enter FG, Tryz.ntmps9
  repeat' (first | go_skip | go_guarded | go_step | go_upon)
  refine wp_region_base w1 (by assumption) (by first | assumption | kernel_rfl) (by kernel_rfl) ?_
  repeat (go_big_quiet_step (first | (go_at_call 21; with_reducible exact later_of (Nat.le_refl _) (r1 _ (Later.h _))) | (go_at_call 22; with_reducible exact later_of (Nat.le_refl _) (r2 _ (Later.h _)))))
  refine wpQuiet_nil ?_
  rintro _ ⟨u, rfl⟩
  have bu := u.h
  repeat' (first | go_skip | go_guarded | go_step | go_upon)
  clear r1 r2 h8 h8i h40 h40i
  go_loopg [7] n (fun gg s7 wr => ∃ k : Nat, k ≤ n ∧ n - k ≤ gg ∧ s7 = .int .i64 k ∧ Below w1.heap.size w1 wr)
  case atStart => exact ⟨0, Nat.zero_le _, by omega, rfl, by assumption⟩
  case round =>
    obtain ⟨k, hk, hg, rfl, hwr⟩ := hrel
    have fb := FB wr hwr
    by_cases hlt : k < n
    · have hlti : (k : Int) < (n : Int) := by omega
      have hk0 : (0 : Int) ≤ (k : Int) := by omega
      obtain ⟨r, hx⟩ := get_some (l := l) (k := k) (by have := N.out; omega)
      have HR := (HN.out.each r (get_mem hx)).keep (then_ HB.out hwr)
      obtain ⟨b, off, cap', hv, -, -, -⟩ := row_addr (z := 25) (by decide) HN.out.row.row hx
      injection hv with e1 e2 e3
      subst e1
      clear e2 e3
      have LR : Sem.run P (loadCellsFrom ⟨b, off + k * zRouter, none⟩ 0 zRouter #[]) wr = .ok (eRtr r).toArray wr := by
        rw [ZR.out]; exact ld_at (f := eRtr) (z := 25) P (fun _ => rfl) (HN.out.keep (then_ HB.out hwr)).row.row rfl hx
      obtain ⟨X, hX⟩ : ∃ X, X = (eRtr r).toArray := ⟨_, rfl⟩
      have hXs : X.size = 25 := by rw [hX]; rfl
      have hX1 := hid (show X.all (·.oneCell') = true by rw [hX]; exact eRtr_one HR)
      have hX2 : X[2]? = some r.vIfs := by rw [hX]; rfl
      rw [← hX] at LR
      have HX := hid hX
      clear hx hX
      repeat' ((fail_if_success with_reducible show Hid _); (first | ((with_reducible show Oper.wp _ ⟨_, .store 41 _ _, _, _, _, _⟩ _ _ _ _); refine stopHere ?_) | go_skip | go_guarded | go_step | go_upon))
      refine wp_store_box (w := wr.alloc (.cells zeroR 41)) 41 _ _ (by rfl) (g := wr.heap.size) (cur := zeroR) (X := X) (by rfl) (by rfl) (by intro v; rw [hXs, ← ZR.out]; first | exact sz41 v | assumption) (heap_new _ _) (by rw [hXs]; rfl) hX1.out ?_
      intro w2 h1 h2 h3
      have HB2 := hid (show Below wr.heap.size wr w2 from (al1 wr _).trans (h3 _ (Nat.le_refl _)))
      have HR2 := hid (HR.keep HB2.out)
      have G2 : Below w2.heap.size w2 w2 := Below.refl _ _
      have LX : ∀ v : World, Below w2.heap.size w2 v → Sem.run P (loadCellsFrom ⟨wr.heap.size, 0, none⟩ 0 zRouter #[]) v = .ok X v := fun v h => ld_box P (blk_keep h1 h) (by rw [ZR.out]; exact hXs)
      obtain ⟨a2, c2, hv2, hc2, -⟩ := rows_open (z := 12) (by decide) HR2.out.ifs.row
      obtain ⟨m, hm⟩ : ∃ m, m = r.ifs.length := ⟨_, rfl⟩
      rw [← hm] at hv2 hc2
      have M := hid hm
      have FX2 : ∀ v : World, Below w2.heap.size w2 v → v.cell? ⟨wr.heap.size, 2, none⟩ = some (.slice a2 m c2) := fun v h => box_at (blk_keep h1 h) (by rw [hX2, hv2])
      have V2 := hid hv2
      have hlm := HR2.out.ifs.len
      rw [← hm] at hlm
      have cS := fun wx (h : Below w2.heap.size w2 wx) => hSl wx r (HR2.out.keep h)
      obtain ⟨sb, hsb⟩ : ∃ b, b = smallB r := ⟨_, rfl⟩
      rw [← hsb, ← HX.out] at cS
      clear hsb
      have dI1 := fun wx (h : Below w2.heap.size w2 wx) => hI1 wx r s (HR2.out.keep h)
      have dI2 := fun wx (h : Below w2.heap.size w2 wx) => hI2 wx r s (HR2.out.keep h)
      obtain ⟨qI, hqI⟩ : ∃ q, q = ixB (fun x : Ifc => x.name.toList == s.toList) r.ifs := ⟨_, rfl⟩
      rw [← hqI, ← HX.out] at dI1 dI2
      clear hqI
      have dL1 := fun wx (h : Below w2.heap.size w2 wx) => hL1 wx r s (HR2.out.keep h)
      have dL2 := fun wx (h : Below w2.heap.size w2 wx) => hL2 wx r s (HR2.out.keep h)
      obtain ⟨qL, hqL⟩ : ∃ q, q = ixB (fun x : PList => x.name.toList == s.toList) r.lists := ⟨_, rfl⟩
      rw [← hqL, ← HX.out] at dL1 dL2
      clear hqL
      have dM1 := fun wx (h : Below w2.heap.size w2 wx) => hM1 wx r s (HR2.out.keep h)
      have dM2 := fun wx (h : Below w2.heap.size w2 wx) => hM2 wx r s (HR2.out.keep h)
      obtain ⟨qM, hqM⟩ : ∃ q, q = ixB (fun x : RMap => x.name.toList == s.toList) r.maps := ⟨_, rfl⟩
      rw [← hqM, ← HX.out] at dM1 dM2
      clear hqM
      have dC1 := fun wx (h : Below w2.heap.size w2 wx) => hC1 wx r s (HR2.out.keep h)
      have dC2 := fun wx (h : Below w2.heap.size w2 wx) => hC2 wx r s (HR2.out.keep h)
      obtain ⟨qC, hqC⟩ : ∃ q, q = ixB (fun x : Acl => x.name.toList == s.toList) r.acls := ⟨_, rfl⟩
      rw [← hqC, ← HX.out] at dC1 dC2
      clear hqC
      have dA1 := fun wx (h : Below w2.heap.size w2 wx) => hA1 wx r a (HR2.out.keep h)
      have dA2 := fun wx (h : Below w2.heap.size w2 wx) => hA2 wx r a (HR2.out.keep h)
      obtain ⟨qA, hqA⟩ : ∃ q, q = adIx r.ifs a := ⟨_, rfl⟩
      rw [← hqA, ← HX.out] at dA1 dA2
      clear hqA
      have HW2 := hid (then_ (show Below w1.heap.size w1 wr from hwr) HB2.out)
      clear h1 h2 h3 HR hX2 hv2 hm LR hXs fb
      have uFX2 := fun u : Later w2.heap.size w2 => FX2 u.w u.h
      have uLX := fun u : Later w2.heap.size w2 => LX u.w u.h
      cases sb
      case false =>
        repeat' (first | (go_at_call 11; with_reducible refine (cS _ (by assumption)).mono ?_; rintro e w' ⟨rfl, b⟩; have b' := then_ (w := w2) (by assumption) b; clear b; try dsimp only) | go_skip | go_guarded | go_step | go_upon)
        go_ret
        exact ⟨rfl, then_ HB.out (then_ HW2.out (by assumption))⟩
      case true =>
        repeat' (first | (go_at_call 11; with_reducible refine (cS _ (by assumption)).mono ?_; rintro e w' ⟨rfl, b⟩; have b' := then_ (w := w2) (by assumption) b; clear b; try dsimp only) | go_skip | go_guarded | go_step | go_upon)
        refine wp_region_base w2 (by assumption) (by first | assumption | kernel_rfl) (by kernel_rfl) ?_
        repeat (go_big_quiet_step (first | (go_at_call 23; with_reducible exact later_of (Nat.le_refl _) (dI1 _ (Later.h _))) | (go_at_call 24; with_reducible exact later_of (Nat.le_refl _) (dI2 _ (Later.h _))) | (go_at_call 25; with_reducible exact later_of (Nat.le_refl _) (dL1 _ (Later.h _))) | (go_at_call 26; with_reducible exact later_of (Nat.le_refl _) (dL2 _ (Later.h _))) | (go_at_call 27; with_reducible exact later_of (Nat.le_refl _) (dM1 _ (Later.h _))) | (go_at_call 28; with_reducible exact later_of (Nat.le_refl _) (dM2 _ (Later.h _))) | (go_at_call 29; with_reducible exact later_of (Nat.le_refl _) (dC1 _ (Later.h _))) | (go_at_call 17; with_reducible exact later_of (Nat.le_refl _) (dC2 _ (Later.h _))) | (go_at_call 30; with_reducible exact later_of (Nat.le_refl _) (dA1 _ (Later.h _))) | (go_at_call 31; with_reducible exact later_of (Nat.le_refl _) (dA2 _ (Later.h _)))))
        refine wpQuiet_nil ?_
        rintro _ ⟨u, rfl⟩
        have bu := u.h
        clear cS dI1 dI2 dL1 dL2 dM1 dM2 dC1 dC2 dA1 dA2
        repeat' (first | go_skip | go_guarded | go_step | go_upon)
        go_loopg [9] m (fun gg s9 wr => ∃ j : Nat, j ≤ m ∧ m - j ≤ gg ∧ s9 = .int .i64 j ∧ Below w2.heap.size w2 wr)
        case atStart => exact ⟨0, Nat.zero_le _, by omega, rfl, by assumption⟩
        case round =>
          obtain ⟨j, hj, hgj, rfl, hwr2⟩ := hrel
          have fx := FX2 wr hwr2
          by_cases hjm : j < m
          · have hjmi : (j : Int) < (m : Int) := by omega
            have hj0 : (0 : Int) ≤ (j : Int) := by omega
            obtain ⟨x, hx⟩ := get_some (l := r.ifs) (k := j) (by have := M.out; omega)
            have hlow := hid (HR2.out.ifsA x (get_mem hx))
            obtain ⟨b2, off2, cap2, hv, -, -, -⟩ := row_addr (z := 12) (by decide) HR2.out.ifs.row hx
            rw [V2.out] at hv
            injection hv with e1 e2 e3
            subst e1
            clear e2 e3
            have LI : Sem.run P (loadCellsFrom ⟨b2, off2 + j * zInterface, none⟩ 0 zInterface #[]) wr = .ok (eIfc x).toArray wr := by
              rw [ZI.out]; exact ld_at (f := eIfc) (z := 12) P (fun _ => rfl) (HR2.out.keep hwr2).ifs.row V2.out hx
            obtain ⟨Y, hY⟩ : ∃ Y, Y = (eIfc x).toArray := ⟨_, rfl⟩
            have hYs : Y.size = 12 := by rw [hY]; rfl
            have hY1 := hid (show Y.all (·.oneCell') = true by rw [hY]; simp [eIfc, one_str, one_int, one_bool])
            have hY2 : Y[0]? = some (.string x.name) := by rw [hY]; rfl
            have hY3 : Y[1]? = some (.int .u32 (x.addr : Int)) := by rw [hY]; rfl
            rw [← hY] at LI
            clear hx hY
            repeat' ((fail_if_success with_reducible show Hid _); (first | ((with_reducible show Oper.wp _ ⟨_, .store 54 _ _, _, _, _, _⟩ _ _ _ _); refine stopHere ?_) | go_skip | go_guarded | go_step | go_upon))
            refine wp_store_box (w := wr.alloc (.cells zeroI 54)) 54 _ _ (by rfl) (g := wr.heap.size) (cur := zeroI) (X := Y) (by rfl) (by rfl) (by intro v; rw [hYs, ← ZI.out]; first | exact sz54 v | assumption) (heap_new _ _) (by rw [hYs]; rfl) hY1.out ?_
            intro w4 h1 h2 h3
            have HB4 := hid (show Below wr.heap.size wr w4 from (al1 wr _).trans (h3 _ (Nat.le_refl _)))
            have HW4 := hid (then_ (show Below w2.heap.size w2 wr from hwr2) HB4.out)
            have G4 : Below w4.heap.size w4 w4 := Below.refl _ _
            have FY0 : ∀ v : World, Below w4.heap.size w4 v → v.cell? ⟨wr.heap.size, 0, none⟩ = some (.string x.name) := fun v h => box_at (blk_keep h1 h) hY2
            have FY1 : ∀ v : World, Below w4.heap.size w4 v → v.cell? ⟨wr.heap.size, 1, none⟩ = some (.int .u32 (x.addr : Int)) := fun v h => box_at (blk_keep h1 h) hY3
            have LX4 := fun (v : World) (h : Below w4.heap.size w4 v) => LX v (then_ HW4.out h)
            have dI1 := fun wx (h : Below w4.heap.size w4 wx) => hI1 wx r x.name (HR2.out.keep (then_ HW4.out h))
            have dI2 := fun wx (h : Below w4.heap.size w4 wx) => hI2 wx r x.name (HR2.out.keep (then_ HW4.out h))
            obtain ⟨qI, hqI⟩ : ∃ q, q = ixB (fun y : Ifc => y.name.toList == x.name.toList) r.ifs := ⟨_, rfl⟩
            rw [← hqI, ← HX.out] at dI1 dI2
            clear hqI
            have dA1 := fun wx (h : Below w4.heap.size w4 wx) => hA1 wx r x.addr (HR2.out.keep (then_ HW4.out h))
            have dA2 := fun wx (h : Below w4.heap.size w4 wx) => hA2 wx r x.addr (HR2.out.keep (then_ HW4.out h))
            obtain ⟨qA, hqA⟩ : ∃ q, q = adIx r.ifs x.addr := ⟨_, rfl⟩
            rw [← hqA, ← HX.out] at dA1 dA2
            clear hqA h1 h2 h3 LI hYs hY2 hY3
            have uFY0 := fun u : Later w4.heap.size w4 => FY0 u.w u.h
            have uFY1 := fun u : Later w4.heap.size w4 => FY1 u.w u.h
            have uLX4 := fun u : Later w4.heap.size w4 => LX4 u.w u.h
            repeat' (first | go_skip | go_guarded | go_step | go_upon)
            try simp only [Act.put]
            refine wp_region_base w4 (by assumption) (by first | assumption | kernel_rfl) (by kernel_rfl) ?_
            repeat (go_big_quiet_step (first | (go_at_call 23; with_reducible exact later_of (Nat.le_refl _) (dI1 _ (Later.h _))) | (go_at_call 24; with_reducible exact later_of (Nat.le_refl _) (dI2 _ (Later.h _))) | (go_at_call 30; with_reducible exact later_of (Nat.le_refl _) (dA1 _ (Later.h _))) | (go_at_call 31; with_reducible exact later_of (Nat.le_refl _) (dA2 _ (Later.h _)))))
            refine wpQuiet_nil ?_
            rintro _ ⟨u, rfl⟩
            have bu := u.h
            clear dI1 dI2 dA1 dA2
            repeat' (first | go_skip | go_guarded | go_step | go_upon)
            go_roundg (m - (j + 1))
            case measure => omega
            case rel => exact ⟨j + 1, by omega, by omega, by go_num, then_ HW4.out (by assumption)⟩
          · have hjmi : ¬ (j : Int) < (m : Int) := by omega
            repeat' (first | go_skip | go_guarded | go_step | go_upon)
            go_roundg (n - (k + 1))
            case measure => omega
            case rel => exact ⟨k + 1, by omega, by omega, by go_num, then_ HW2.out (by assumption)⟩
    · have hlti : ¬ (k : Int) < (n : Int) := by omega
      repeat' (first | (go_at_call 14; with_reducible refine (hSn _).mono ?_; rintro e w' ⟨rfl, b⟩; have b' := then_ (w := w1) (by assumption) b; clear b; try dsimp only) | go_skip | go_guarded | go_step | go_upon)
      go_ret
      exact ⟨rfl, then_ HB.out (by assumption)⟩
end Go.Proofs.YtmffbdohcnebdaaGreat.Mw
