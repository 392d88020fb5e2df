/-
  THE CONTRACT OF netverifylaw6.sane.
-/
import Derived.Test.YtlhbfpapmolohaaPolH
namespace Go.Proofs.Ytlhbfpapmolohaa.Mw
set_option linter.unusedSimpArgs false
set_option linter.unusedVariables false
open Go.RowKit Kt Mm Mp Am

def bs (l : List UInt8) : ByteArray := ⟨l.toArray⟩

def sl (b n : Nat) : Value := .slice (some ⟨b, 0, none⟩) n n

def noS' : Value := .slice none 0 0

def zeroR : Array Value := #[.string ⟨#[]⟩, .int .i64 0, .slice none 0 0, .slice none 0 0, .slice none 0 0, .slice none 0 0, .slice none 0 0, .slice none 0 0, .bool false, .int .i64 0, .slice none 0 0, .slice none 0 0, .bool false, .int .i64 0, .string ⟨#[]⟩, .string ⟨#[]⟩, .slice none 0 0, .bool false, .int .i64 0, .int .i64 0, .slice none 0 0, .slice none 0 0, .slice none 0 0, .slice none 0 0, .slice none 0 0]

theorem row_blk {α : Type} {f : α → List Value} {z : Nat} (hz : ∀ x, (f x).length = z) {w : World} {b : Nat} {l : List α} {T : TypeId} {n : Nat} (h : w.heap[b]? = some (.cells (fl f l).toArray T (0, 0))) (hn : n = l.length) (hs : Nat.ble l.length 2 = true) : InRow f z w (sl b n) l := by
  subst hn
  have hs := Nat.le_of_ble_eq_true hs
  refine ⟨rows_at (by rw [fl_len hz]) (Nat.le_refl _) (fun j u hj => ?_), by omega⟩
  rw [Nat.zero_add, blk_cell h, List.getElem?_toArray]
  exact hj

theorem noS_in {α : Type} {f : α → List Value} {z : Nat} {w : World} : InRow f z w noS' ([] : List α) := ⟨rows_nil, by simp⟩

theorem all1 {α : Type} {p : α → Prop} {a : α} (h : p a) : ∀ x ∈ [a], p x := fun x hx => (List.mem_singleton.1 hx).symm ▸ h

/-- The check's rule, clause, router and route; the router's lists in the blocks from n on. -/
def sRule : PRule := ⟨true, ⟨167772160, 8⟩, 16, 24⟩
def sCla : Cla := ⟨true, bs [112], 7, 3, -1, -1, 2⟩
def sRtr (n : Nat) : Rtr :=
  { name := bs [114], asn := 0
    vIfs := noS', ifs := [], vLists := sl (n + 1) 1, lists := [⟨bs [112], sl n 1, [sRule]⟩]
    vMaps := sl (n + 3) 1, maps := [⟨bs [109], sl (n + 2) 1, [sCla]⟩]
    vAcls := noS', acls := [], vNat := noS', nat := [], vSts := noS', sts := []
    lsOn := false, lsAdmin := 0, vRngs := noS', rngs := [], vLsr := noS', lsr := []
    dvOn := false, dvAdmin := 0, dvIn := bs [], dvOut := bs [], vDvr := noS', dvr := []
    pvOn := false, ext := 0, intl := 0, vNbrs := noS', nbrs := [], vNets := noS', nets := []
    vAggs := noS', aggs := [], vCnds := noS', cnds := [], vPvr := noS', pvr := [] }
def sRte : Rte := { zeroRte with pfx := ⟨167837696, 16⟩, tag := 7, metric := 9 }
theorem sRte_in (w : World) : RteIn w sRte := ⟨by unfold low; decide, ⟨rows_nil, by simp [sRte, zeroRte]⟩, by unfold low; decide, by unfold low; decide, ⟨rows_nil, by simp [sRte, zeroRte]⟩, by intro y hy; cases hy⟩
theorem s_in (n : Nat) (w : World) (h0 : w.heap[n]? = some (.cells (fl ePRule [sRule]).toArray 31 (0, 0))) (h1 : w.heap[n + 1]? = some (.cells (fl ePList (sRtr n).lists).toArray 24 (0, 0)))
    (h2 : w.heap[n + 2]? = some (.cells (fl eCla [sCla]).toArray 80 (0, 0))) (h3 : w.heap[n + 3]? = some (.cells (fl eRMap (sRtr n).maps).toArray 65 (0, 0))) : RtrIn w (sRtr n) where
  name := by show (1 : Nat) ≤ maxLen; decide
  ifs := noS_in
  ifsN := by intro x hx; cases hx
  ifsA := by intro x hx; cases hx
  lists := row_blk (f := ePList) (z := 2) (l := (sRtr n).lists) (fun _ => rfl) h1 rfl rfl
  listsN := all1 (show (1 : Nat) ≤ maxLen by decide)
  listsR := all1 (row_blk (f := ePRule) (z := 5) (l := [sRule]) (fun _ => rfl) h0 rfl rfl)
  listsA := all1 (all1 (by unfold low; decide))
  maps := row_blk (f := eRMap) (z := 2) (l := (sRtr n).maps) (fun _ => rfl) h3 rfl rfl
  mapsN := all1 (show (1 : Nat) ≤ maxLen by decide)
  mapsR := all1 (row_blk (f := eCla) (z := 7) (l := [sCla]) (fun _ => rfl) h2 rfl rfl)
  acls := noS_in
  aclsN := by intro x hx; cases hx
  aclsR := by intro x hx; cases hx
  aclsA := by intro x hx; cases hx
  nat := noS_in
  natA := by intro x hx; cases hx
  sts := noS_in
  stsA := by intro x hx; cases hx
  rngs := noS_in
  rngsA := by intro x hx; cases hx
  lsr := noS_in
  dvr := noS_in
  nbrs := noS_in
  nbrsA := by intro x hx; cases hx
  nets := noS_in
  netsA := by intro x hx; cases hx
  aggs := noS_in
  aggsA := by intro x hx; cases hx
  cnds := noS_in
  cndsA := by intro x hx; cases hx
  pvr := noS_in
theorem s_app (n : Nat) : appO (sRtr n).lists (sRtr n).maps (bs [109]) sRte = some (setC sRte sCla) := by kernel_rfl
theorem s_none (n : Nat) : appO (sRtr n).lists (sRtr n).maps (bs [110, 111, 110, 101]) sRte = none := by kernel_rfl
theorem s_perm (n : Nat) : pmB (sRtr n).lists (bs [112]) ⟨167837696, 16⟩ = true := by kernel_rfl
theorem s_deny (n : Nat) : pmB (sRtr n).lists (bs [112]) ⟨167772160, 8⟩ = false := by kernel_rfl
theorem s_prep (n : Nat) : prepI (sRtr n).lists (sRtr n).maps (bs [109]) sRte.pfx sRte.tag = 2 := by kernel_rfl
/-- The check's router lies in w as the value X. -/
def SAt (w : World) (X : Array Value) : Prop := ∃ n, X = (eRtr (sRtr n)).toArray ∧ RtrIn w (sRtr n)
theorem SAt.keep {w w' : World} {X : Array Value} (h : SAt w X) (b : Below w.heap.size w w') : SAt w' X := by
  obtain ⟨n, h1, h2⟩ := h
  exact ⟨n, h1, h2.keep b⟩
theorem SAt.size {w : World} {X : Array Value} (h : SAt w X) : X.size = 25 := by
  obtain ⟨n, rfl, _⟩ := h
  rfl
theorem SAt.one {w : World} {X : Array Value} (h : SAt w X) : X.all (·.oneCell') = true := by
  obtain ⟨n, rfl, h2⟩ := h
  exact eRtr_one h2
theorem sApp {w : World} {X : Array Value} (h : SAt w X) : Calls Try.prog 20 #[.agg X, .string ⟨#[109]⟩, .agg (eRte sRte).toArray] w fun e w' => ∃ Y, e = .returned (.tuple #[.agg Y, .bool true]) ∧ Hid (Y.size = 14 ∧ Y.all (·.oneCell') = true ∧ Y[5]? = some (.int .i64 3) ∧ Y[7]? = some (.int .i64 7)) ∧ Below w.heap.size w w' := by
  obtain ⟨n, rfl, h2⟩ := h
  refine (plApply (sRtr n) (bs [109]) sRte w h2 (sRte_in w) (by decide) (by decide)).mono fun e w' h => ?_
  rw [s_app] at h
  obtain ⟨y, he, hl, hi, hb⟩ := h
  refine ⟨(eRte y).toArray, he, hid ⟨rfl, eRte_one hi, ?_, ?_⟩, hb⟩
  · show some (Value.int .i64 y.metric) = _
    rw [← hl.metric]; rfl
  · show some (Value.int .i64 y.tag) = _
    rw [← hl.tag]; rfl
theorem sNone {w : World} {X : Array Value} (h : SAt w X) : Calls Try.prog 20 #[.agg X, .string ⟨#[110, 111, 110, 101]⟩, .agg (eRte sRte).toArray] w fun e w' => ∃ Y, e = .returned (.tuple #[.agg Y, .bool false]) ∧ Hid (Y.size = 14 ∧ Y.all (·.oneCell') = true) ∧ Below w.heap.size w w' := by
  obtain ⟨n, rfl, h2⟩ := h
  refine (plApply (sRtr n) (bs [110, 111, 110, 101]) sRte w h2 (sRte_in w) (by decide) (by decide)).mono fun e w' h => ?_
  rw [s_none] at h
  obtain ⟨y, he, hl, hi, hb⟩ := h
  exact ⟨(eRte y).toArray, he, hid ⟨rfl, eRte_one hi⟩, hb⟩
theorem sYes {w : World} {X : Array Value} (h : SAt w X) : Calls Try.prog 18 #[.agg X, .string ⟨#[112]⟩, .agg #[.int .u32 167837696, .int .i64 16]] w fun e w' => e = .returned (.bool true) ∧ Below w.heap.size w w' := by
  obtain ⟨n, rfl, h2⟩ := h
  have := plPermits (sRtr n) (bs [112]) ⟨167837696, 16⟩ w h2 (by unfold low; decide)
  rwa [s_perm] at this
theorem sNo {w : World} {X : Array Value} (h : SAt w X) : Calls Try.prog 18 #[.agg X, .string ⟨#[112]⟩, .agg #[.int .u32 167772160, .int .i64 8]] w fun e w' => e = .returned (.bool false) ∧ Below w.heap.size w w' := by
  obtain ⟨n, rfl, h2⟩ := h
  have := plPermits (sRtr n) (bs [112]) ⟨167772160, 8⟩ w h2 (by unfold low; decide)
  rwa [s_deny] at this
theorem sPrep {w : World} {X : Array Value} (h : SAt w X) : Calls Try.prog 25 #[.agg X, .string ⟨#[109]⟩, .agg (eRte sRte).toArray] w fun e w' => e = .returned (.int .i64 2) ∧ Below w.heap.size w w' := by
  obtain ⟨n, rfl, h2⟩ := h
  have := plPrepend (sRtr n) (bs [109]) sRte w h2 (by unfold low; decide)
  rwa [s_prep] at this
/-- The four blocks of the check. -/
def sLay (w : World) : World := (((w.alloc (.cells (fl ePRule [sRule]).toArray 31)).alloc (.cells (fl ePList (sRtr w.heap.size).lists).toArray 24)).alloc (.cells (fl eCla [sCla]).toArray 80)).alloc (.cells (fl eRMap (sRtr w.heap.size).maps).toArray 65)
theorem sLay_size (w : World) : (sLay w).heap.size = w.heap.size + 4 := by unfold sLay; rw [new_size, new_size, new_size, new_size]
theorem sLay_below (w : World) : Below w.heap.size w (sLay w) := then_ (al3 w _ _ _) (al1 _ _)
theorem sLay_at (w : World) : SAt (sLay w) (eRtr (sRtr w.heap.size)).toArray := by
  refine ⟨_, rfl, s_in _ _ ?_ ?_ ?_ ?_⟩
  · exact blk_keep (heap_new _ _) (al3 _ _ _ _)
  · have h := heap_new (w.alloc (.cells (fl ePRule [sRule]).toArray 31)) (.cells (fl ePList (sRtr w.heap.size).lists).toArray 24 (0, 0))
    rw [new_size] at h
    exact blk_keep h (al2 _ _ _)
  · have h := heap_new ((w.alloc (.cells (fl ePRule [sRule]).toArray 31)).alloc (.cells (fl ePList (sRtr w.heap.size).lists).toArray 24)) (.cells (fl eCla [sCla]).toArray 80 (0, 0))
    rw [new_size, new_size] at h
    exact blk_keep h (al1 _ _)
  · have h := heap_new (((w.alloc (.cells (fl ePRule [sRule]).toArray 31)).alloc (.cells (fl ePList (sRtr w.heap.size).lists).toArray 24)).alloc (.cells (fl eCla [sCla]).toArray 80)) (.cells (fl eRMap (sRtr w.heap.size).maps).toArray 65 (0, 0))
    rw [new_size, new_size, new_size] at h
    exact h

set_option maxHeartbeats 8000000 in
set_option maxRecDepth 4000 in
theorem plSane (w : World) : Calls Try.prog 15 #[] w fun e w' => e = .returned (.bool true) ∧ Below w.heap.size w w' := by
  have hA := fun wx X (h : SAt wx X) => sApp h
  have hN := fun wx X (h : SAt wx X) => sNone h
  have hY := fun wx X (h : SAt wx X) => sYes h
  have hO := fun wx X (h : SAt wx X) => sNo h
  have hR := fun wx X (h : SAt wx X) => sPrep h
  obtain ⟨P, hP⟩ : ∃ P, P = Try.prog := ⟨_, rfl⟩
  have HP := hid hP
  have mixed : P.follows .mixedOrders = true := by rw [hP]; kernel_rfl
  have FG : P.funcs[15]? = some Try.f15 := by rw [hP]; exact Try.func15
  obtain ⟨zRouter, hzRouter⟩ : ∃ z, z = 25 := ⟨_, rfl⟩
  have nzRouter : ¬ zRouter = 0 := by omega
  obtain ⟨zRoute, hzRoute⟩ : ∃ z, z = 14 := ⟨_, rfl⟩
  have nzRoute : ¬ zRoute = 0 := by omega
  have ty3 := Try.underlying3; have ag3 := Try.isAgg3; have sz3 := Try.sizeOf3; have ru3 := Try.runUnderlying3
  have ty4 := Try.underlying4; have ag4 := Try.isAgg4; have sz4 := Try.sizeOf4; have ru4 := Try.runUnderlying4
  have ty9 := Try.underlying9; have ag9 := Try.isAgg9; have sz9 := Try.sizeOf9; have ru9 := Try.runUnderlying9
  have ty22 := Try.underlying22; have ag22 := Try.isAgg22; have sz22 := Try.sizeOf22; have ru22 := Try.runUnderlying22
  have zeSPrefixRule := Try.zeroValue22
  have ty24 := Try.underlying24; have ag24 := Try.isAgg24; have sz24 := Try.sizeOf24; have ru24 := Try.runUnderlying24
  have zePrefixList := Try.zeroValue24
  have ty27 := Try.underlying27; have ag27 := Try.isAgg27; have sz27 := Try.sizeOf27; have ru27 := Try.runUnderlying27
  have zePrefix := Try.zeroValue27
  have ty31 := Try.underlying31; have ag31 := Try.isAgg31; have sz31 := Try.sizeOf31; have ru31 := Try.runUnderlying31
  have zePrefixRule := Try.zeroValue31
  have ty37 := Try.underlying37; have ag37 := Try.isAgg37; have sz37 := Try.sizeOf37; have ru37 := Try.runUnderlying37
  have zeSPrefixList := Try.zeroValue37
  have ty38 := Try.underlying38; have ag38 := Try.isAgg38; have sz38 := Try.sizeOf38; have ru38 := Try.runUnderlying38
  have zeSRouteMap := Try.zeroValue38
  have ty55 := Try.underlying55; have ag55 := Try.isAgg55; have sz55 := Try.sizeOf55; have ru55 := Try.runUnderlying55
  rw [← hzRouter] at sz55
  have zeRouter := Try.zeroValue55
  have ty62 := Try.underlying62; have ag62 := Try.isAgg62; have sz62 := Try.sizeOf62; have ru62 := Try.runUnderlying62
  rw [← hzRoute] at sz62
  have zeRoute := Try.zeroValue62
  have ty63 := Try.underlying63; have ag63 := Try.isAgg63; have sz63 := Try.sizeOf63; have ru63 := Try.runUnderlying63
  have zeSClause := Try.zeroValue63
  have ty65 := Try.underlying65; have ag65 := Try.isAgg65; have sz65 := Try.sizeOf65; have ru65 := Try.runUnderlying65
  have zeRouteMap := Try.zeroValue65
  have ty80 := Try.underlying80; have ag80 := Try.isAgg80; have sz80 := Try.sizeOf80; have ru80 := Try.runUnderlying80
  have zeClause := Try.zeroValue80
  have en0 : ∀ args w, (callFunc 20 args).run Try.prog w = .ok (.enter 20 args) w := enters_of Try.func20 (by kernel_rfl) rfl
  have en1 : ∀ args w, (callFunc 18 args).run Try.prog w = .ok (.enter 18 args) w := enters_of Try.func18 (by kernel_rfl) rfl
  have en2 : ∀ args w, (callFunc 25 args).run Try.prog w = .ok (.enter 25 args) w := enters_of Try.func25 (by kernel_rfl) rfl
  rw [← hP] at ty3 ag3 sz3 ru3 ty4 ag4 sz4 ru4 ty9 ag9 sz9 ru9 ty22 ag22 sz22 ru22 zeSPrefixRule ty24 ag24 sz24 ru24 zePrefixList ty27 ag27 sz27 ru27 zePrefix ty31 ag31 sz31 ru31 zePrefixRule ty37 ag37 sz37 ru37 zeSPrefixList ty38 ag38 sz38 ru38 zeSRouteMap ty55 ag55 sz55 ru55 zeRouter ty62 ag62 sz62 ru62 zeRoute ty63 ag63 sz63 ru63 zeSClause ty65 ag65 sz65 ru65 zeRouteMap ty80 ag80 sz80 ru80 zeClause en0 en1 en2 hA hN hY hO hR ⊢
  clear hP
  have zz0 : ∀ v, (sizeOf 36).run P v = .ok 1 v := fun v => by rw [HP.out]; exact Try.sizeOf36 v
  have zz1 : ∀ v, (sizeOf 37).run P v = .ok 1 v := fun v => by rw [HP.out]; exact Try.sizeOf37 v
  have zz2 : ∀ v, (sizeOf 38).run P v = .ok 1 v := fun v => by rw [HP.out]; exact Try.sizeOf38 v
  have zz3 : ∀ v, (sizeOf 39).run P v = .ok 1 v := fun v => by rw [HP.out]; exact Try.sizeOf39 v
  have zz4 : ∀ v, (sizeOf 40).run P v = .ok 1 v := fun v => by rw [HP.out]; exact Try.sizeOf40 v
  have zz5 : ∀ v, (sizeOf 41).run P v = .ok 1 v := fun v => by rw [HP.out]; exact Try.sizeOf41 v
  have zz6 : ∀ v, (sizeOf 45).run P v = .ok 4 v := fun v => by rw [HP.out]; exact Try.sizeOf45 v
  have zz7 : ∀ v, (sizeOf 47).run P v = .ok 5 v := fun v => by rw [HP.out]; exact Try.sizeOf47 v
  have zz8 : ∀ v, (sizeOf 53).run P v = .ok 8 v := fun v => by rw [HP.out]; exact Try.sizeOf53 v
  have zz9 : ∀ v, (sizeOf 27).run P v = .ok 2 v := fun v => by rw [HP.out]; exact Try.sizeOf27 v
  have zz10 : ∀ v, (sizeOf 59).run P v = .ok 1 v := fun v => by rw [HP.out]; exact Try.sizeOf59 v
  have zz11 : ∀ v, (sizeOf 25).run P v = .ok 1 v := fun v => by rw [HP.out]; exact Try.sizeOf25 v
  have zz12 : ∀ v, (sizeOf 60).run P v = .ok 1 v := fun v => by rw [HP.out]; exact Try.sizeOf60 v
  have zz13 : ∀ v, (sizeOf 22).run P v = .ok 1 v := fun v => by rw [HP.out]; exact Try.sizeOf22 v
  have zz14 : ∀ v, (sizeOf 63).run P v = .ok 1 v := fun v => by rw [HP.out]; exact Try.sizeOf63 v
  have zz15 : ∀ v, (sizeOf 31).run P v = .ok 5 v := fun v => by rw [HP.out]; exact Try.sizeOf31 v
  have zz16 : ∀ v, (sizeOf 24).run P v = .ok 2 v := fun v => by rw [HP.out]; exact Try.sizeOf24 v
  have zz17 : ∀ v, (sizeOf 80).run P v = .ok 7 v := fun v => by rw [HP.out]; exact Try.sizeOf80 v
  have zz18 : ∀ v, (sizeOf 65).run P v = .ok 2 v := fun v => by rw [HP.out]; exact Try.sizeOf65 v
  have ZR := hid hzRouter
  have ZT := hid hzRoute
  clear hzRouter hzRoute
  go_enter FG, Try.ntmps15
  repeat' ((fail_if_success (with_reducible show Hid _)); (first | ((with_reducible show Oper.wp _ ⟨_, .store 55 _ _, _, _, _, _⟩ _ _ _ _); refine stopP ?_) | go_skip | go_guarded | go_step | go_upon))
  refine hid ?_
  obtain ⟨X, hX⟩ : ∃ X, X = (eRtr (sRtr w.heap.size)).toArray := ⟨_, rfl⟩
  have SL := hid (show SAt (sLay w) X by rw [hX]; exact sLay_at w)
  have BL := hid (sLay_below w)
  have NL := hid (show ((sLay w).alloc (.cells zeroR 55)).heap[w.heap.size + 1 + 1 + 1 + 1]? = some (.cells zeroR 55 (0, 0)) by
    have h := heap_new (sLay w) (.cells zeroR 55 (0, 0))
    rw [sLay_size] at h
    exact h)
  have SLs := hid (sLay_size w)
  obtain ⟨WL, hWL⟩ : ∃ W, W = sLay w := ⟨_, rfl⟩
  refine wp_store_box (w := (sLay w).alloc (.cells zeroR 55)) 55 _ _ (by rfl) (g := w.heap.size + 1 + 1 + 1 + 1) (cur := zeroR) (X := (eRtr (sRtr w.heap.size)).toArray) (by rfl) (by rfl) (by intro v; rw [show (eRtr (sRtr w.heap.size)).toArray.size = 25 from rfl, ← ZR.out]; exact sz55 v) NL.out rfl (by rw [← hX]; exact SL.out.one) ?_
  rw [← hX, ← hWL]
  rw [← hWL] at SL BL SLs
  intro w4 h1 h2 h3
  have gl := hid (show w.heap.size + 1 + 1 + 1 + 1 = WL.heap.size by rw [SLs.out])
  rw [show w.heap.size + 1 + 1 + 1 + 1 = WL.heap.size from gl.out] at h1 h2 h3 ⊢
  have B4 := hid (show Below WL.heap.size WL w4 from (al1 WL _).trans (h3 _ (Nat.le_refl _)))
  have S4 := hid (SL.out.keep B4.out)
  have X4 := hid h1
  have LX : ∀ v : World, Below w4.heap.size w4 v → Sem.run P (loadCellsFrom ⟨WL.heap.size, 0, none⟩ 0 zRouter #[]) v = .ok X v := fun v h => ld_box P (blk_keep h1 h) (by rw [ZR.out]; exact SL.out.size)
  clear hX hWL h1 h2 h3 NL SL
  repeat' ((fail_if_success (with_reducible show Hid _)); (first | ((with_reducible show Oper.wp _ ⟨_, .store 62 _ _, _, _, _, _⟩ _ _ _ _); refine stopP ?_) | go_skip | go_guarded | go_step | go_upon))
  refine hid ?_
  refine wp_store_box (w := w4.alloc (.cells zeroRt 62)) 62 _ _ (by rfl) (g := w4.heap.size) (cur := zeroRt) (X := (eRte sRte).toArray) (by rfl) (by rfl) (by intro v; rw [show (eRte sRte).toArray.size = 14 from rfl, ← ZT.out]; exact sz62 v) (heap_new _ _) rfl (eRte_one (sRte_in w)) ?_
  obtain ⟨Y, hY⟩ : ∃ Y, Y = (eRte sRte).toArray := ⟨_, rfl⟩
  rw [← hY] at hA hN hR ⊢
  intro w5 h1 h2 h3
  have B5 := hid (show Below w4.heap.size w4 w5 from (al1 w4 _).trans (h3 _ (Nat.le_refl _)))
  have G5 : Below w5.heap.size w5 w5 := Below.refl _ _
  have S5 := hid (S4.out.keep B5.out)
  have LX5 := fun (v : World) (h : Below w5.heap.size w5 v) => LX v (then_ B5.out h)
  have LY5 : ∀ v : World, Below w5.heap.size w5 v → Sem.run P (loadCellsFrom ⟨w4.heap.size, 0, none⟩ 0 zRoute #[]) v = .ok Y v := fun v h => ld_box P (blk_keep h1 h) (by rw [ZT.out, hY]; rfl)
  have FP0 : ∀ v : World, Below w5.heap.size w5 v → v.cell? ⟨w4.heap.size, 0, none⟩ = some (.int .u32 167837696) := fun v h => box_at (blk_keep h1 h) (by rw [hY]; rfl)
  have FP1 : ∀ v : World, Below w5.heap.size w5 v → v.cell? ⟨w4.heap.size, 1, none⟩ = some (.int .i64 16) := fun v h => box_at (blk_keep h1 h) (by rw [hY]; rfl)
  clear h1 h2 h3 LX hY
  repeat' ((fail_if_success (with_reducible show Hid _)); (first | ((with_reducible show Oper.wp _ ⟨_, .store 62 _ _, _, _, _, _⟩ _ _ _ _); refine stopP ?_) | (go_at_call 20; with_reducible refine (hA _ _ (S5.out.keep (by assumption))).mono ?_; rintro e w6 ⟨Z, rfl, hZ, bZ⟩; try dsimp only) | go_skip | go_guarded | go_step | go_upon))
  refine hid ?_
  have hZs : Z.size = 14 := hZ.out.1
  have Z5 := hZ.out.2.2.1
  have Z7 := hZ.out.2.2.2
  have BZ := hid bZ
  refine wp_store_box (w := w6.alloc (.cells zeroRt 62)) 62 _ _ (by rfl) (g := w6.heap.size) (cur := zeroRt) (X := Z) (by rfl) (by rfl) (by intro v; rw [hZs, ← ZT.out]; exact sz62 v) (heap_new _ _) (by rw [hZs]; rfl) hZ.out.2.1 ?_
  intro w7 h1 h2 h3
  have B7 := hid (show Below w5.heap.size w5 w7 from then_ BZ.out ((al1 w6 _).trans (h3 _ (Nat.le_refl _))))
  have G7 : Below w7.heap.size w7 w7 := Below.refl _ _
  have S7 := hid (S5.out.keep B7.out)
  have LX7 := fun (v : World) (h : Below w7.heap.size w7 v) => LX5 v (then_ B7.out h)
  have LY7 := fun (v : World) (h : Below w7.heap.size w7 v) => LY5 v (then_ B7.out h)
  have FP07 := fun (v : World) (h : Below w7.heap.size w7 v) => FP0 v (then_ B7.out h)
  have FP17 := fun (v : World) (h : Below w7.heap.size w7 v) => FP1 v (then_ B7.out h)
  have FZ5 : ∀ v : World, Below w7.heap.size w7 v → v.cell? ⟨w6.heap.size, 5, none⟩ = some (.int .i64 3) := fun v h => box_at (blk_keep h1 h) Z5
  have FZ7 : ∀ v : World, Below w7.heap.size w7 v → v.cell? ⟨w6.heap.size, 7, none⟩ = some (.int .i64 7) := fun v h => box_at (blk_keep h1 h) Z7
  clear h1 h2 h3 LX5 LY5 FP0 FP1 hZ hZs Z5 Z7 bZ hA
  repeat' ((fail_if_success (with_reducible show Hid _)); (first | ((with_reducible show Oper.wp _ ⟨_, .store 62 _ _, _, _, _, _⟩ _ _ _ _); refine stopP ?_) | (go_at_call 20; with_reducible refine (hN _ _ (S7.out.keep (by assumption))).mono ?_; rintro e w8 ⟨Z2, rfl, hZ, bZ⟩; try dsimp only) | go_skip | go_guarded | go_step | go_upon))
  refine hid ?_
  have hZs : Z2.size = 14 := hZ.out.1
  have BZ8 := hid bZ
  refine wp_store_box (w := w8.alloc (.cells zeroRt 62)) 62 _ _ (by rfl) (g := w8.heap.size) (cur := zeroRt) (X := Z2) (by rfl) (by rfl) (by intro v; rw [hZs, ← ZT.out]; exact sz62 v) (heap_new _ _) (by rw [hZs]; rfl) hZ.out.2 ?_
  intro w9 h1 h2 h3
  have B9 := hid (show Below w7.heap.size w7 w9 from then_ BZ8.out ((al1 w8 _).trans (h3 _ (Nat.le_refl _))))
  have G9 : Below w9.heap.size w9 w9 := Below.refl _ _
  have S9 := hid (S7.out.keep B9.out)
  have LX9 := fun (v : World) (h : Below w9.heap.size w9 v) => LX7 v (then_ B9.out h)
  have LY9 := fun (v : World) (h : Below w9.heap.size w9 v) => LY7 v (then_ B9.out h)
  have FP09 := fun (v : World) (h : Below w9.heap.size w9 v) => FP07 v (then_ B9.out h)
  have FP19 := fun (v : World) (h : Below w9.heap.size w9 v) => FP17 v (then_ B9.out h)
  have FZ59 := fun (v : World) (h : Below w9.heap.size w9 v) => FZ5 v (then_ B9.out h)
  have FZ79 := fun (v : World) (h : Below w9.heap.size w9 v) => FZ7 v (then_ B9.out h)
  have HF := hid (show Below w.heap.size w w9 from then_ BL.out (then_ B4.out (then_ B5.out (then_ B7.out B9.out))))
  have cY := fun wx (h : Below w9.heap.size w9 wx) => hY wx X (S9.out.keep h)
  have cO := fun wx (h : Below w9.heap.size w9 wx) => hO wx X (S9.out.keep h)
  have cR := fun wx (h : Below w9.heap.size w9 wx) => hR wx X (S9.out.keep h)
  clear h1 h2 h3 LX7 LY7 FP07 FP17 FZ5 FZ7 hZ hZs bZ hN hY hO hR
  repeat' (first | (go_at_call 18; with_reducible refine (cY _ (by assumption)).mono ?_; rintro e w' ⟨rfl, b⟩; have b' := then_ (w := w9) (by assumption) b; clear b; try dsimp only) | (go_at_call 18; with_reducible refine (cO _ (by assumption)).mono ?_; rintro e w' ⟨rfl, b⟩; have b' := then_ (w := w9) (by assumption) b; clear b; try dsimp only) | (go_at_call 25; with_reducible refine (cR _ (by assumption)).mono ?_; rintro e w' ⟨rfl, b⟩; have b' := then_ (w := w9) (by assumption) b; clear b; try dsimp only) | go_skip | go_guarded | go_step | go_upon)
  go_ret
  exact ⟨rfl, then_ HF.out (by assumption)⟩
end Go.Proofs.Ytlhbfpapmolohaa.Mw
