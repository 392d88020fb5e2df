/-
  THE CONTRACT OF model.Same.
-/
import Derived.Test.YtlhbfpapmolohaaGreatModO
namespace Go.Proofs.YtlhbfpapmolohaaGreat.Mw
set_option linter.unusedSimpArgs false
set_option linter.unusedVariables false
open Go.RowKit Kt Mm Mp

theorem part_of {α : Type} {e : α → List Value} {r : Rtr} {o n : Nat} {x : α} (h : ((eRtr r).drop o).take n = e x) (j : Nat) (v : Value) (hj : (e x)[j]? = some v) : (eRtr r).toArray[o + j]? = some v := by
  rw [← h, List.getElem?_take] at hj
  split at hj
  · rw [List.getElem?_drop] at hj; simpa using hj
  · cases hj


set_option maxHeartbeats 8000000 in
theorem sameRC (a b : Rtr) (w : World) (ha : RtrIn w a) (hb : RtrIn w b) :
    Calls Tryz.prog 15 #[.agg (eRtr a).toArray, .agg (eRtr b).toArray] w fun e w' => e = .returned (.bool (sameR a b)) ∧ Below w.heap.size w w' := by
  obtain ⟨X, hX⟩ : ∃ X, X = (eRtr a).toArray := ⟨_, rfl⟩
  obtain ⟨Y, hY⟩ : ∃ Y, Y = (eRtr b).toArray := ⟨_, rfl⟩
  obtain ⟨w2, hw2⟩ : ∃ w2, (w.alloc (.cells X 41)).alloc (.cells Y 41) = w2 := ⟨_, rfl⟩
  have hhX : w2.heap[w.heap.size]? = some (.cells X 41 (0, 0)) := by rw [← hw2, Below.heap_alloc _ _ _ (by simp), heap_new]
  have hhY : w2.heap[w.heap.size + 1]? = some (.cells Y 41 (0, 0)) := by rw [← hw2]; have h := heap_new (w.alloc (.cells X 41)) (.cells Y 41 (0, 0)); rwa [new_size] at h
  have FX0 : ∀ v : World, Below w2.heap.size w2 v → v.cell? ⟨w.heap.size, 0, none⟩ = some (.string a.name) := fun v h => box_at (blk_keep hhX h) (by rw [hX]; rfl)
  have FY0 : ∀ v : World, Below w2.heap.size w2 v → v.cell? ⟨w.heap.size + 1, 0, none⟩ = some (.string b.name) := fun v h => box_at (blk_keep hhY h) (by rw [hY]; rfl)
  have FX1 : ∀ v : World, Below w2.heap.size w2 v → v.cell? ⟨w.heap.size, 1, none⟩ = some (.int .i64 a.asn) := fun v h => box_at (blk_keep hhX h) (by rw [hX]; rfl)
  have FY1 : ∀ v : World, Below w2.heap.size w2 v → v.cell? ⟨w.heap.size + 1, 1, none⟩ = some (.int .i64 b.asn) := fun v h => box_at (blk_keep hhY h) (by rw [hY]; rfl)
  have FX2 : ∀ v : World, Below w2.heap.size w2 v → v.cell? ⟨w.heap.size, 2, none⟩ = some (a.vIfs) := fun v h => box_at (blk_keep hhX h) (by rw [hX]; rfl)
  have FY2 : ∀ v : World, Below w2.heap.size w2 v → v.cell? ⟨w.heap.size + 1, 2, none⟩ = some (b.vIfs) := fun v h => box_at (blk_keep hhY h) (by rw [hY]; rfl)
  have FX6 : ∀ v : World, Below w2.heap.size w2 v → v.cell? ⟨w.heap.size, 6, none⟩ = some (a.vNat) := fun v h => box_at (blk_keep hhX h) (by rw [hX]; rfl)
  have FY6 : ∀ v : World, Below w2.heap.size w2 v → v.cell? ⟨w.heap.size + 1, 6, none⟩ = some (b.vNat) := fun v h => box_at (blk_keep hhY h) (by rw [hY]; rfl)
  have FX7 : ∀ v : World, Below w2.heap.size w2 v → v.cell? ⟨w.heap.size, 7, none⟩ = some (a.vSts) := fun v h => box_at (blk_keep hhX h) (by rw [hX]; rfl)
  have FY7 : ∀ v : World, Below w2.heap.size w2 v → v.cell? ⟨w.heap.size + 1, 7, none⟩ = some (b.vSts) := fun v h => box_at (blk_keep hhY h) (by rw [hY]; rfl)
  have FX3 : ∀ v : World, Below w2.heap.size w2 v → v.cell? ⟨w.heap.size, 3, none⟩ = some (a.vLists) := fun v h => box_at (blk_keep hhX h) (by rw [hX]; rfl)
  have FY3 : ∀ v : World, Below w2.heap.size w2 v → v.cell? ⟨w.heap.size + 1, 3, none⟩ = some (b.vLists) := fun v h => box_at (blk_keep hhY h) (by rw [hY]; rfl)
  have FX4 : ∀ v : World, Below w2.heap.size w2 v → v.cell? ⟨w.heap.size, 4, none⟩ = some (a.vMaps) := fun v h => box_at (blk_keep hhX h) (by rw [hX]; rfl)
  have FY4 : ∀ v : World, Below w2.heap.size w2 v → v.cell? ⟨w.heap.size + 1, 4, none⟩ = some (b.vMaps) := fun v h => box_at (blk_keep hhY h) (by rw [hY]; rfl)
  have FX5 : ∀ v : World, Below w2.heap.size w2 v → v.cell? ⟨w.heap.size, 5, none⟩ = some (a.vAcls) := fun v h => box_at (blk_keep hhX h) (by rw [hX]; rfl)
  have FY5 : ∀ v : World, Below w2.heap.size w2 v → v.cell? ⟨w.heap.size + 1, 5, none⟩ = some (b.vAcls) := fun v h => box_at (blk_keep hhY h) (by rw [hY]; rfl)
  have KX : ∀ v : World, Below w2.heap.size w2 v → v.heap[w.heap.size]? = some (.cells X 41 (0, 0)) := fun v h => blk_keep hhX h
  have KY : ∀ v : World, Below w2.heap.size w2 v → v.heap[w.heap.size + 1]? = some (.cells Y 41 (0, 0)) := fun v h => blk_keep hhY h
  have Gw2 : Below w2.heap.size w2 w2 := Below.refl _ _
  have Hw2 := hid (show Below w.heap.size w w2 by rw [← hw2]; exact al2 _ _ _)
  have hX' := hid hX
  have hY' := hid hY
  try rw [← hX]
  try rw [← hY]
  clear hX hY hhX hhY
  have R := hid (show sameR a b = (decide (a.name = b.name) && decide (a.asn = b.asn) && decide (a.ifs = b.ifs) && eqBy samePl a.lists b.lists && eqBy sameMp a.maps b.maps && eqBy sameAc a.acls b.acls && decide (a.nat = b.nat) && decide (a.sts = b.sts) && sameLs a b && sameDv a b && samePv a b) from rfl)
  have hc2 := fun wx (h : Below w2.heap.size w2 wx) => eqIfc a.vIfs b.vIfs a.ifs b.ifs wx (rows_keep ha.ifs.row (then_ Hw2.out h)) ha.ifs.len (rows_keep hb.ifs.row (then_ Hw2.out h)) hb.ifs.len
  obtain ⟨o2, ho2⟩ : ∃ o, o = decide (a.ifs = b.ifs) := ⟨_, rfl⟩
  rw [← ho2] at hc2 R
  obtain ⟨va2, hva2⟩ : ∃ v, v = a.vIfs := ⟨_, rfl⟩
  obtain ⟨vb2, hvb2⟩ : ∃ v, v = b.vIfs := ⟨_, rfl⟩
  rw [← hva2] at FX2 hc2
  rw [← hvb2] at FY2 hc2
  have hc6 := fun wx (h : Below w2.heap.size w2 wx) => eqTran a.vNat b.vNat a.nat b.nat wx (rows_keep ha.nat.row (then_ Hw2.out h)) ha.nat.len (rows_keep hb.nat.row (then_ Hw2.out h)) hb.nat.len
  obtain ⟨o6, ho6⟩ : ∃ o, o = decide (a.nat = b.nat) := ⟨_, rfl⟩
  rw [← ho6] at hc6 R
  obtain ⟨va6, hva6⟩ : ∃ v, v = a.vNat := ⟨_, rfl⟩
  obtain ⟨vb6, hvb6⟩ : ∃ v, v = b.vNat := ⟨_, rfl⟩
  rw [← hva6] at FX6 hc6
  rw [← hvb6] at FY6 hc6
  have hc7 := fun wx (h : Below w2.heap.size w2 wx) => eqStc a.vSts b.vSts a.sts b.sts wx (rows_keep ha.sts.row (then_ Hw2.out h)) ha.sts.len (rows_keep hb.sts.row (then_ Hw2.out h)) hb.sts.len
  obtain ⟨o7, ho7⟩ : ∃ o, o = decide (a.sts = b.sts) := ⟨_, rfl⟩
  rw [← ho7] at hc7 R
  obtain ⟨va7, hva7⟩ : ∃ v, v = a.vSts := ⟨_, rfl⟩
  obtain ⟨vb7, hvb7⟩ : ∃ v, v = b.vSts := ⟨_, rfl⟩
  rw [← hva7] at FX7 hc7
  rw [← hvb7] at FY7 hc7
  have hc3 := fun wx (h : Below w2.heap.size w2 wx) => eqfPList a.vLists b.vLists a.lists b.lists samePl 52 #[] (enters_of Tryz.func52 (by kernel_rfl) rfl) wx (rows_keep ha.lists.row (then_ Hw2.out h)) ha.lists.len (rows_keep hb.lists.row (then_ Hw2.out h)) hb.lists.len (fun x hx => ePList_one (ha.listsR x hx)) (fun x hx => ePList_one (hb.listsR x hx)) (fun W x y hx hy hbw => by have q := smPl x y W ((ha.listsR x hx).keep (then_ (then_ Hw2.out h) hbw)) ((hb.listsR y hy).keep (then_ (then_ Hw2.out h) hbw)); simpa using q)
  obtain ⟨o3, ho3⟩ : ∃ o, o = eqBy samePl a.lists b.lists := ⟨_, rfl⟩
  rw [← ho3] at hc3 R
  obtain ⟨va3, hva3⟩ : ∃ v, v = a.vLists := ⟨_, rfl⟩
  obtain ⟨vb3, hvb3⟩ : ∃ v, v = b.vLists := ⟨_, rfl⟩
  rw [← hva3] at FX3 hc3
  rw [← hvb3] at FY3 hc3
  have hc4 := fun wx (h : Below w2.heap.size w2 wx) => eqfRMap a.vMaps b.vMaps a.maps b.maps sameMp 54 #[] (enters_of Tryz.func54 (by kernel_rfl) rfl) wx (rows_keep ha.maps.row (then_ Hw2.out h)) ha.maps.len (rows_keep hb.maps.row (then_ Hw2.out h)) hb.maps.len (fun x hx => eRMap_one (ha.mapsR x hx)) (fun x hx => eRMap_one (hb.mapsR x hx)) (fun W x y hx hy hbw => by have q := smMp x y W ((ha.mapsR x hx).keep (then_ (then_ Hw2.out h) hbw)) ((hb.mapsR y hy).keep (then_ (then_ Hw2.out h) hbw)); simpa using q)
  obtain ⟨o4, ho4⟩ : ∃ o, o = eqBy sameMp a.maps b.maps := ⟨_, rfl⟩
  rw [← ho4] at hc4 R
  obtain ⟨va4, hva4⟩ : ∃ v, v = a.vMaps := ⟨_, rfl⟩
  obtain ⟨vb4, hvb4⟩ : ∃ v, v = b.vMaps := ⟨_, rfl⟩
  rw [← hva4] at FX4 hc4
  rw [← hvb4] at FY4 hc4
  have hc5 := fun wx (h : Below w2.heap.size w2 wx) => eqfAcl a.vAcls b.vAcls a.acls b.acls sameAc 56 #[] (enters_of Tryz.func56 (by kernel_rfl) rfl) wx (rows_keep ha.acls.row (then_ Hw2.out h)) ha.acls.len (rows_keep hb.acls.row (then_ Hw2.out h)) hb.acls.len (fun x hx => eAcl_one (ha.aclsR x hx)) (fun x hx => eAcl_one (hb.aclsR x hx)) (fun W x y hx hy hbw => by have q := smAc x y W ((ha.aclsR x hx).keep (then_ (then_ Hw2.out h) hbw)) ((hb.aclsR y hy).keep (then_ (then_ Hw2.out h) hbw)); simpa using q)
  obtain ⟨o5, ho5⟩ : ∃ o, o = eqBy sameAc a.acls b.acls := ⟨_, rfl⟩
  rw [← ho5] at hc5 R
  obtain ⟨va5, hva5⟩ : ∃ v, v = a.vAcls := ⟨_, rfl⟩
  obtain ⟨vb5, hvb5⟩ : ∃ v, v = b.vAcls := ⟨_, rfl⟩
  rw [← hva5] at FX5 hc5
  rw [← hvb5] at FY5 hc5
  have hc8 := fun wx (h : Below w2.heap.size w2 wx) => smLS a b wx (ha.keep (then_ Hw2.out h)) (hb.keep (then_ Hw2.out h))
  obtain ⟨o8, ho8⟩ : ∃ o, o = sameLs a b := ⟨_, rfl⟩
  rw [← ho8] at hc8 R
  obtain ⟨A8, hA8⟩ : ∃ A, A = (eLS a).toArray := ⟨_, rfl⟩
  obtain ⟨B8, hB8⟩ : ∃ B, B = (eLS b).toArray := ⟨_, rfl⟩
  rw [← hA8, ← hB8] at hc8
  have hc12 := fun wx (h : Below w2.heap.size w2 wx) => smDV a b wx (ha.keep (then_ Hw2.out h)) (hb.keep (then_ Hw2.out h))
  obtain ⟨o12, ho12⟩ : ∃ o, o = sameDv a b := ⟨_, rfl⟩
  rw [← ho12] at hc12 R
  obtain ⟨A12, hA12⟩ : ∃ A, A = (eDV a).toArray := ⟨_, rfl⟩
  obtain ⟨B12, hB12⟩ : ∃ B, B = (eDV b).toArray := ⟨_, rfl⟩
  rw [← hA12, ← hB12] at hc12
  have hc17 := fun wx (h : Below w2.heap.size w2 wx) => smPV a b wx (ha.keep (then_ Hw2.out h)) (hb.keep (then_ Hw2.out h))
  obtain ⟨o17, ho17⟩ : ∃ o, o = samePv a b := ⟨_, rfl⟩
  rw [← ho17] at hc17 R
  obtain ⟨A17, hA17⟩ : ∃ A, A = (ePV a).toArray := ⟨_, rfl⟩
  obtain ⟨B17, hB17⟩ : ∃ B, B = (ePV b).toArray := ⟨_, rfl⟩
  rw [← hA17, ← hB17] at hc17
  have hs0 := strE a.name b.name
  have hs1 := intE a.asn b.asn
  obtain ⟨n0, hn0⟩ : ∃ n, n = decide (a.name = b.name) := ⟨_, rfl⟩
  rw [← hn0] at hs0 R
  obtain ⟨n1, hn1⟩ : ∃ n, n = decide (a.asn = b.asn) := ⟨_, rfl⟩
  rw [← hn1] at hs1 R
  obtain ⟨P, hP⟩ : ∃ P, P = Tryz.prog := ⟨_, rfl⟩
  have HP := hid hP
  have mixed : P.follows .mixedOrders = true := by rw [hP]; kernel_rfl
  have FG : P.funcs[15]? = some Tryz.f15 := by rw [hP]; exact Tryz.func15
  obtain ⟨zLinkState, hzLinkState⟩ : ∃ z, z = 4 := ⟨_, rfl⟩
  have nzLinkState : ¬ zLinkState = 0 := by omega
  obtain ⟨zDistanceVector, hzDistanceVector⟩ : ∃ z, z = 5 := ⟨_, rfl⟩
  have nzDistanceVector : ¬ zDistanceVector = 0 := by omega
  obtain ⟨zPathVector, hzPathVector⟩ : ∃ z, z = 8 := ⟨_, rfl⟩
  have nzPathVector : ¬ zPathVector = 0 := by omega
  have ty3 := Tryz.underlying3; have ag3 := Tryz.isAgg3; have sz3 := Tryz.sizeOf3; have ru3 := Tryz.runUnderlying3
  have ty9 := Tryz.underlying9; have ag9 := Tryz.isAgg9; have sz9 := Tryz.sizeOf9; have ru9 := Tryz.runUnderlying9
  have ty22 := Tryz.underlying22; have ag22 := Tryz.isAgg22; have sz22 := Tryz.sizeOf22; have ru22 := Tryz.runUnderlying22
  have ty23 := Tryz.underlying23; have ag23 := Tryz.isAgg23; have sz23 := Tryz.sizeOf23; have ru23 := Tryz.runUnderlying23
  have ty24 := Tryz.underlying24; have ag24 := Tryz.isAgg24; have sz24 := Tryz.sizeOf24; have ru24 := Tryz.runUnderlying24
  have ty25 := Tryz.underlying25; have ag25 := Tryz.isAgg25; have sz25 := Tryz.sizeOf25; have ru25 := Tryz.runUnderlying25
  have ty26 := Tryz.underlying26; have ag26 := Tryz.isAgg26; have sz26 := Tryz.sizeOf26; have ru26 := Tryz.runUnderlying26
  have ty27 := Tryz.underlying27; have ag27 := Tryz.isAgg27; have sz27 := Tryz.sizeOf27; have ru27 := Tryz.runUnderlying27
  have ty31 := Tryz.underlying31; have ag31 := Tryz.isAgg31; have sz31 := Tryz.sizeOf31; have ru31 := Tryz.runUnderlying31
  rw [← hzLinkState] at sz31
  have ty33 := Tryz.underlying33; have ag33 := Tryz.isAgg33; have sz33 := Tryz.sizeOf33; have ru33 := Tryz.runUnderlying33
  rw [← hzDistanceVector] at sz33
  have ty39 := Tryz.underlying39; have ag39 := Tryz.isAgg39; have sz39 := Tryz.sizeOf39; have ru39 := Tryz.runUnderlying39
  rw [← hzPathVector] at sz39
  have ty41 := Tryz.underlying41; have ag41 := Tryz.isAgg41; have sz41 := Tryz.sizeOf41; have ru41 := Tryz.runUnderlying41
  have ty98 := Tryz.underlying88; have ag98 := Tryz.isAgg88; have sz98 := Tryz.sizeOf88; have ru98 := Tryz.runUnderlying88
  have ty100 := Tryz.underlying90; have ag100 := Tryz.isAgg90; have sz100 := Tryz.sizeOf90; have ru100 := Tryz.runUnderlying90
  have ty102 := Tryz.underlying92; have ag102 := Tryz.isAgg92; have sz102 := Tryz.sizeOf92; have ru102 := Tryz.runUnderlying92
  have en0 : ∀ args w, (callFunc 60 args).run Tryz.prog w = .ok (.enter 60 args) w := enters_of Tryz.func60 (by kernel_rfl) rfl
  have en1 : ∀ args w, (callFunc 59 args).run Tryz.prog w = .ok (.enter 59 args) w := enters_of Tryz.func59 (by kernel_rfl) rfl
  have en2 : ∀ args w, (callFunc 61 args).run Tryz.prog w = .ok (.enter 61 args) w := enters_of Tryz.func61 (by kernel_rfl) rfl
  have en3 : ∀ args w, (callFunc 55 args).run Tryz.prog w = .ok (.enter 55 args) w := enters_of Tryz.func55 (by kernel_rfl) rfl
  have en4 : ∀ args w, (callFunc 51 args).run Tryz.prog w = .ok (.enter 51 args) w := enters_of Tryz.func51 (by kernel_rfl) rfl
  have en5 : ∀ args w, (callFunc 53 args).run Tryz.prog w = .ok (.enter 53 args) w := enters_of Tryz.func53 (by kernel_rfl) rfl
  have en6 : ∀ args w, (callFunc 50 args).run Tryz.prog w = .ok (.enter 50 args) w := enters_of Tryz.func50 (by kernel_rfl) rfl
  have en7 : ∀ args w, (callFunc 58 args).run Tryz.prog w = .ok (.enter 58 args) w := enters_of Tryz.func58 (by kernel_rfl) rfl
  have en8 : ∀ args w, (callFunc 57 args).run Tryz.prog w = .ok (.enter 57 args) w := enters_of Tryz.func57 (by kernel_rfl) rfl
  rw [← hP] at ty3 ag3 sz3 ru3 ty9 ag9 sz9 ru9 ty22 ag22 sz22 ru22 ty23 ag23 sz23 ru23 ty24 ag24 sz24 ru24 ty25 ag25 sz25 ru25 ty26 ag26 sz26 ru26 ty27 ag27 sz27 ru27 ty31 ag31 sz31 ru31 ty33 ag33 sz33 ru33 ty39 ag39 sz39 ru39 ty41 ag41 sz41 ru41 ty98 ag98 sz98 ru98 ty100 ag100 sz100 ru100 ty102 ag102 sz102 ru102 en0 en1 en2 en3 en4 en5 en6 en7 en8 hc2 hc6 hc7 hc3 hc4 hc5 hc8 hc12 hc17 ⊢
  clear hP
  have PA8 : ∀ v : World, Below w2.heap.size w2 v → Sem.run P (loadCellsFrom ⟨w.heap.size, 8, none⟩ 0 zLinkState #[]) v = .ok A8 v := fun v h => by
    rw [hA8, hzLinkState]; exact ld_part P (KX v h) rfl (fun j u hj => by rw [hX'.out]; exact part_of (e := eLS) (x := a) (n := 4) rfl j u hj)
  have PB8 : ∀ v : World, Below w2.heap.size w2 v → Sem.run P (loadCellsFrom ⟨w.heap.size + 1, 8, none⟩ 0 zLinkState #[]) v = .ok B8 v := fun v h => by
    rw [hB8, hzLinkState]; exact ld_part P (KY v h) rfl (fun j u hj => by rw [hY'.out]; exact part_of (e := eLS) (x := b) (n := 4) rfl j u hj)
  have PA12 : ∀ v : World, Below w2.heap.size w2 v → Sem.run P (loadCellsFrom ⟨w.heap.size, 12, none⟩ 0 zDistanceVector #[]) v = .ok A12 v := fun v h => by
    rw [hA12, hzDistanceVector]; exact ld_part P (KX v h) rfl (fun j u hj => by rw [hX'.out]; exact part_of (e := eDV) (x := a) (n := 5) rfl j u hj)
  have PB12 : ∀ v : World, Below w2.heap.size w2 v → Sem.run P (loadCellsFrom ⟨w.heap.size + 1, 12, none⟩ 0 zDistanceVector #[]) v = .ok B12 v := fun v h => by
    rw [hB12, hzDistanceVector]; exact ld_part P (KY v h) rfl (fun j u hj => by rw [hY'.out]; exact part_of (e := eDV) (x := b) (n := 5) rfl j u hj)
  have PA17 : ∀ v : World, Below w2.heap.size w2 v → Sem.run P (loadCellsFrom ⟨w.heap.size, 17, none⟩ 0 zPathVector #[]) v = .ok A17 v := fun v h => by
    rw [hA17, hzPathVector]; exact ld_part P (KX v h) rfl (fun j u hj => by rw [hX'.out]; exact part_of (e := ePV) (x := a) (n := 8) rfl j u hj)
  have PB17 : ∀ v : World, Below w2.heap.size w2 v → Sem.run P (loadCellsFrom ⟨w.heap.size + 1, 17, none⟩ 0 zPathVector #[]) v = .ok B17 v := fun v h => by
    rw [hB17, hzPathVector]; exact ld_part P (KY v h) rfl (fun j u hj => by rw [hY'.out]; exact part_of (e := ePV) (x := b) (n := 8) rfl j u hj)
  clear ha hb KX KY ho2 ho6 ho7 ho3 ho4 ho5 ho8 ho12 ho17 hva2 hvb2 hva6 hvb6 hva7 hvb7 hva3 hvb3 hva4 hvb4 hva5 hvb5 hn0 hn1 hA8 hB8 hA12 hB12 hA17 hB17 hzLinkState hzDistanceVector hzPathVector
  cases n0
  case false =>
    go_enter FG, Tryz.ntmps15
    repeat' (first | (go_at_call 50; with_reducible refine (hc2 _ (by assumption)).mono ?_; rintro e w' ⟨rfl, b⟩; have b' := then_ (w := w2) (by assumption) b; clear b; try dsimp only) | (go_at_call 57; with_reducible refine (hc6 _ (by assumption)).mono ?_; rintro e w' ⟨rfl, b⟩; have b' := then_ (w := w2) (by assumption) b; clear b; try dsimp only) | (go_at_call 58; with_reducible refine (hc7 _ (by assumption)).mono ?_; rintro e w' ⟨rfl, b⟩; have b' := then_ (w := w2) (by assumption) b; clear b; try dsimp only) | (go_at_call 51; with_reducible refine (hc3 _ (by assumption)).mono ?_; rintro e w' ⟨rfl, b⟩; have b' := then_ (w := w2) (by assumption) b; clear b; try dsimp only) | (go_at_call 53; with_reducible refine (hc4 _ (by assumption)).mono ?_; rintro e w' ⟨rfl, b⟩; have b' := then_ (w := w2) (by assumption) b; clear b; try dsimp only) | (go_at_call 55; with_reducible refine (hc5 _ (by assumption)).mono ?_; rintro e w' ⟨rfl, b⟩; have b' := then_ (w := w2) (by assumption) b; clear b; try dsimp only) | (go_at_call 59; with_reducible refine (hc8 _ (by assumption)).mono ?_; rintro e w' ⟨rfl, b⟩; have b' := then_ (w := w2) (by assumption) b; clear b; try dsimp only) | (go_at_call 60; with_reducible refine (hc12 _ (by assumption)).mono ?_; rintro e w' ⟨rfl, b⟩; have b' := then_ (w := w2) (by assumption) b; clear b; try dsimp only) | (go_at_call 61; with_reducible refine (hc17 _ (by assumption)).mono ?_; rintro e w' ⟨rfl, b⟩; have b' := then_ (w := w2) (by assumption) b; clear b; try dsimp only) | go_skip | go_guarded | go_step | go_upon)
    all_goals go_ret
    all_goals exact ⟨ret_bool (by rw [R.out]; simp_all), then_ Hw2.out (by assumption)⟩
  case true =>
    cases n1
    case false =>
      go_enter FG, Tryz.ntmps15
      repeat' (first | (go_at_call 50; with_reducible refine (hc2 _ (by assumption)).mono ?_; rintro e w' ⟨rfl, b⟩; have b' := then_ (w := w2) (by assumption) b; clear b; try dsimp only) | (go_at_call 57; with_reducible refine (hc6 _ (by assumption)).mono ?_; rintro e w' ⟨rfl, b⟩; have b' := then_ (w := w2) (by assumption) b; clear b; try dsimp only) | (go_at_call 58; with_reducible refine (hc7 _ (by assumption)).mono ?_; rintro e w' ⟨rfl, b⟩; have b' := then_ (w := w2) (by assumption) b; clear b; try dsimp only) | (go_at_call 51; with_reducible refine (hc3 _ (by assumption)).mono ?_; rintro e w' ⟨rfl, b⟩; have b' := then_ (w := w2) (by assumption) b; clear b; try dsimp only) | (go_at_call 53; with_reducible refine (hc4 _ (by assumption)).mono ?_; rintro e w' ⟨rfl, b⟩; have b' := then_ (w := w2) (by assumption) b; clear b; try dsimp only) | (go_at_call 55; with_reducible refine (hc5 _ (by assumption)).mono ?_; rintro e w' ⟨rfl, b⟩; have b' := then_ (w := w2) (by assumption) b; clear b; try dsimp only) | (go_at_call 59; with_reducible refine (hc8 _ (by assumption)).mono ?_; rintro e w' ⟨rfl, b⟩; have b' := then_ (w := w2) (by assumption) b; clear b; try dsimp only) | (go_at_call 60; with_reducible refine (hc12 _ (by assumption)).mono ?_; rintro e w' ⟨rfl, b⟩; have b' := then_ (w := w2) (by assumption) b; clear b; try dsimp only) | (go_at_call 61; with_reducible refine (hc17 _ (by assumption)).mono ?_; rintro e w' ⟨rfl, b⟩; have b' := then_ (w := w2) (by assumption) b; clear b; try dsimp only) | go_skip | go_guarded | go_step | go_upon)
      all_goals go_ret
      all_goals exact ⟨ret_bool (by rw [R.out]; simp_all), then_ Hw2.out (by assumption)⟩
    case true =>
      go_enter FG, Tryz.ntmps15
      repeat' (first | (go_at_call 50; with_reducible refine (hc2 _ (by assumption)).mono ?_; rintro e w' ⟨rfl, b⟩; have b' := then_ (w := w2) (by assumption) b; clear b; try dsimp only) | (go_at_call 57; with_reducible refine (hc6 _ (by assumption)).mono ?_; rintro e w' ⟨rfl, b⟩; have b' := then_ (w := w2) (by assumption) b; clear b; try dsimp only) | (go_at_call 58; with_reducible refine (hc7 _ (by assumption)).mono ?_; rintro e w' ⟨rfl, b⟩; have b' := then_ (w := w2) (by assumption) b; clear b; try dsimp only) | (go_at_call 51; with_reducible refine (hc3 _ (by assumption)).mono ?_; rintro e w' ⟨rfl, b⟩; have b' := then_ (w := w2) (by assumption) b; clear b; try dsimp only) | (go_at_call 53; with_reducible refine (hc4 _ (by assumption)).mono ?_; rintro e w' ⟨rfl, b⟩; have b' := then_ (w := w2) (by assumption) b; clear b; try dsimp only) | (go_at_call 55; with_reducible refine (hc5 _ (by assumption)).mono ?_; rintro e w' ⟨rfl, b⟩; have b' := then_ (w := w2) (by assumption) b; clear b; try dsimp only) | (go_at_call 59; with_reducible refine (hc8 _ (by assumption)).mono ?_; rintro e w' ⟨rfl, b⟩; have b' := then_ (w := w2) (by assumption) b; clear b; try dsimp only) | (go_at_call 60; with_reducible refine (hc12 _ (by assumption)).mono ?_; rintro e w' ⟨rfl, b⟩; have b' := then_ (w := w2) (by assumption) b; clear b; try dsimp only) | (go_at_call 61; with_reducible refine (hc17 _ (by assumption)).mono ?_; rintro e w' ⟨rfl, b⟩; have b' := then_ (w := w2) (by assumption) b; clear b; try dsimp only) | go_skip | go_guarded | go_step | go_upon)
      all_goals go_ret
      all_goals exact ⟨ret_bool (by rw [R.out]; simp_all), then_ Hw2.out (by assumption)⟩
end Go.Proofs.YtlhbfpapmolohaaGreat.Mw
