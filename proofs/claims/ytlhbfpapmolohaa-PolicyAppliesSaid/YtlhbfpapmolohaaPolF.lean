/-
  THE CONTRACTS OF policy.permitting, policy.Prepend.
-/
import Derived.Test.YtlhbfpapmolohaaPolE
namespace Go.Proofs.Ytlhbfpapmolohaa.Kt
open Go.RowKit Mm
/-- Two results, the first in a block of its own. -/
theorem result_box2 {P : Program} {fn : Func} {R : Ending → World → Prop} {a : Act} {w : World} {s u : Nat} {t : TypeId} {b : Nat} {A : Array Value} (hf : fn.results = #[.cell s t, .tmp u]) (hp : a.tmps.getD s undef = .pointer (some ⟨b, 0, none⟩))
    (hag : ∀ w, (isAgg t).run P w = .ok true w) (hsz : ∀ w, (sizeOf t).run P w = .ok A.size w) (hb : w.heap[b]? = some (.cells A t (0, 0))) (hd : a.defers = []) (hR : R (.returned (.tuple #[.agg A, a.tmps.getD u undef])) w) : bodyPost P fn R .ret a w := by
  have hl := ld_box P hb (k := A.size) rfl
  refine bodyPost_ret ?_ hd hR
  have hp' : (a.tmps[s]?).getD undef = .pointer (some ⟨b, 0, none⟩) := by rw [← hp]; simp [Array.getD_eq_getD_getElem?]
  simp [results, hf, hp', asAddr, loadVar, hag, hsz, loadCells, hl, Result.andThen, Array.getD_eq_getD_getElem?]
end Go.Proofs.Ytlhbfpapmolohaa.Kt
namespace Go.Proofs.Ytlhbfpapmolohaa.Mw
set_option linter.unusedSimpArgs false
set_option linter.unusedVariables false
open Go.RowKit Kt Mm Mp Am

def zeroCla : Cla := ⟨false, ⟨#[]⟩, 0, 0, 0, 0, 0⟩
def permV (o : Option Cla) : Value := .tuple #[.agg (eCla (o.getD zeroCla)).toArray, .bool o.isSome]
theorem perm_none {ls : List PList} {ms : List RMap} {s : ByteArray} {p : Pfx} {t : Int} (h : (clsOf ms s).find? (cmB ls p t) = none) : permC ls ms s p t = none := by unfold permC; rw [h]
theorem perm_some {ls : List PList} {ms : List RMap} {s : ByteArray} {p : Pfx} {t : Int} {c : Cla} (h : (clsOf ms s).find? (cmB ls p t) = some c) : permC ls ms s p t = if c.permit then some c else none := by unfold permC; rw [h]
theorem cla_one (c : Cla) : (eCla c).toArray.all (·.oneCell') = true := by simp [eCla, one_str, one_int, one_bool]

set_option maxHeartbeats 8000000 in
theorem plPermitting (r : Rtr) (s : ByteArray) (x : Rte) (w : World) (hr : RtrIn w r) (ha : low x.pfx.addr) :
    Calls Try.prog 37 #[.agg (eRtr r).toArray, .string s, .agg (eRte x).toArray] w fun e w' => e = .returned (permV (permC r.lists r.maps s x.pfx x.tag)) ∧ Below w.heap.size w w' := by
  obtain ⟨X, hX⟩ : ∃ X, X = (eRtr r).toArray := ⟨_, rfl⟩
  obtain ⟨Y, hY⟩ : ∃ Y, Y = (eRte x).toArray := ⟨_, rfl⟩
  obtain ⟨w2, hw2⟩ : ∃ w2, (w.alloc (.cells X 55)).alloc (.cells Y 62) = w2 := ⟨_, rfl⟩
  have hhX : w2.heap[w.heap.size]? = some (.cells X 55 (0, 0)) := by rw [← hw2, Below.heap_alloc _ _ _ (by simp), heap_new]
  have hhY : w2.heap[w.heap.size + 1]? = some (.cells Y 62 (0, 0)) := by rw [← hw2]; have h := heap_new (w.alloc (.cells X 55)) (.cells Y 62 (0, 0)); rwa [new_size] at h
  have KX : ∀ v : World, Below w2.heap.size w2 v → v.heap[w.heap.size]? = some (.cells X 55 (0, 0)) := fun v h => blk_keep hhX h
  have KY : ∀ v : World, Below w2.heap.size w2 v → v.heap[w.heap.size + 1]? = some (.cells Y 62 (0, 0)) := fun v h => blk_keep hhY h
  have Gw2 : Below w2.heap.size w2 w2 := Below.refl _ _
  have Hw2 := hid (show Below w.heap.size w w2 by rw [← hw2]; exact al2 _ _ _)
  have hX' := hid hX
  have hY' := hid hY
  try rw [← hX]
  try rw [← hY]
  clear hX hY hhX hhY
  have hXs : X.size = 25 := by rw [hX'.out]; rfl
  have hYs : Y.size = 14 := by rw [hY'.out]; rfl
  obtain ⟨w3, hw3⟩ : ∃ w3, w2.alloc (.cells #[.bool false, .string ⟨#[]⟩, .int .i64 0, .int .i64 0, .int .i64 0, .int .i64 0, .int .i64 0] 80) = w3 := ⟨_, rfl⟩
  have hh3 : w3.heap[w2.heap.size]? = some (.cells zeroCl 80 (0, 0)) := by rw [← hw3]; exact heap_new _ _
  have H3 := hid (show Below w2.heap.size w2 w3 by rw [← hw3]; exact new_below _ _)
  have s2 : w2.heap.size = w.heap.size + 2 := by rw [← hw2, new_size, new_size]
  have G3 : Below w3.heap.size w3 w3 := Below.refl _ _
  have K3 : ∀ v : World, Below w3.heap.size w3 v → v.heap[w.heap.size + 2]? = some (.cells zeroCl 80 (0, 0)) := fun v h => by rw [← s2]; exact blk_keep hh3 h
  have hI := fun wx (h : Below w3.heap.size w3 wx) => plClause r s x wx (hr.keep (then_ Hw2.out (then_ H3.out h))) ha
  have hC := fun wx (h : Below w3.heap.size w3 wx) => plClauses r s wx (hr.keep (then_ Hw2.out (then_ H3.out h)))
  rw [← hX'.out] at hI hC
  rw [← hY'.out] at hI
  have hin := cls_in (hr.keep (then_ Hw2.out H3.out)) s
  obtain ⟨l, hl⟩ : ∃ l, l = clsOf r.maps s := ⟨_, rfl⟩
  obtain ⟨a, cap, hv, hcap, hcell⟩ := rows_open (z := 7) (by decide) hin.row
  have hlen := hin.len
  rw [hv] at hC
  rw [← hl] at hC hcap hcell hlen
  obtain ⟨n, hn⟩ : ∃ n, n = l.length := ⟨_, rfl⟩
  rw [← hn] at hcap hcell hlen hC
  have N := hid hn
  have HC := hid hcell
  have BX : ∀ v : World, Below w3.heap.size w3 v → v.heap[w.heap.size]? = some (.cells X 55 (0, 0)) := fun v h => KX v (then_ H3.out h)
  have BY : ∀ v : World, Below w3.heap.size w3 v → v.heap[w.heap.size + 1]? = some (.cells Y 62 (0, 0)) := fun v h => KY v (then_ H3.out h)
  clear hcell hn hr hv hin ha hh3 KX KY
  obtain ⟨P, hP⟩ : ∃ P, P = Try.prog := ⟨_, rfl⟩
  have HP := hid hP
  have mixed : P.follows .mixedOrders = true := by rw [hP]; kernel_rfl
  have FG : P.funcs[37]? = some Try.f37 := by rw [hP]; exact Try.func37
  obtain ⟨zRouter, hzRouter⟩ : ∃ z, z = 25 := ⟨_, rfl⟩
  have nzRouter : ¬ zRouter = 0 := by omega
  obtain ⟨zClause, hzClause⟩ : ∃ z, z = 7 := ⟨_, rfl⟩
  have nzClause : ¬ zClause = 0 := by omega
  obtain ⟨zRoute, hzRoute⟩ : ∃ z, z = 14 := ⟨_, rfl⟩
  have nzRoute : ¬ zRoute = 0 := by omega
  have ty3 := Try.underlying3; have ag3 := Try.isAgg3; have sz3 := Try.sizeOf3; have ru3 := Try.runUnderlying3
  have ty4 := Try.underlying4; have ag4 := Try.isAgg4; have sz4 := Try.sizeOf4; have ru4 := Try.runUnderlying4
  have ty9 := Try.underlying9; have ag9 := Try.isAgg9; have sz9 := Try.sizeOf9; have ru9 := Try.runUnderlying9
  have ty55 := Try.underlying55; have ag55 := Try.isAgg55; have sz55 := Try.sizeOf55; have ru55 := Try.runUnderlying55
  rw [← hzRouter] at sz55
  have ty62 := Try.underlying62; have ag62 := Try.isAgg62; have sz62 := Try.sizeOf62; have ru62 := Try.runUnderlying62
  rw [← hzRoute] at sz62
  have ty63 := Try.underlying63; have ag63 := Try.isAgg63; have sz63 := Try.sizeOf63; have ru63 := Try.runUnderlying63
  have ty80 := Try.underlying80; have ag80 := Try.isAgg80; have sz80 := Try.sizeOf80; have ru80 := Try.runUnderlying80
  rw [← hzClause] at sz80
  have zeClause := Try.zeroValue80
  have en0 : ∀ args w, (callFunc 22 args).run Try.prog w = .ok (.enter 22 args) w := enters_of Try.func22 (by kernel_rfl) rfl
  have en1 : ∀ args w, (callFunc 40 args).run Try.prog w = .ok (.enter 40 args) w := enters_of Try.func40 (by kernel_rfl) rfl
  rw [← hP] at ty3 ag3 sz3 ru3 ty4 ag4 sz4 ru4 ty9 ag9 sz9 ru9 ty55 ag55 sz55 ru55 ty62 ag62 sz62 ru62 ty63 ag63 sz63 ru63 ty80 ag80 sz80 ru80 zeClause en0 en1 hI hC ⊢
  clear hP
  have LX : ∀ v : World, Below w3.heap.size w3 v → Sem.run P (loadCellsFrom ⟨w.heap.size, 0, none⟩ 0 zRouter #[]) v = .ok X v := fun v h => ld_box P (BX v h) (by rw [hzRouter]; exact hXs)
  have LY : ∀ v : World, Below w3.heap.size w3 v → Sem.run P (loadCellsFrom ⟨w.heap.size + 1, 0, none⟩ 0 zRoute #[]) v = .ok Y v := fun v h => ld_box P (BY v h) (by rw [hzRoute]; exact hYs)
  have ZC := hid hzClause
  clear hzRouter hzClause hzRoute BX BY hXs hYs
  have SZ : ∀ {Z : Array Value}, Z.size = 7 → ∀ v, (sizeOf 80).run P v = .ok Z.size v := fun h v => by rw [h, ← ZC.out]; exact sz80 v
  go_enter FG, Try.ntmps37
  rcases ix_find (p := cmB r.lists x.pfx x.tag) l with ⟨hi, hf⟩ | ⟨j, c, hi, hc0, hf, -, hj⟩
  · have hi2 : clI r.lists r.maps s x.pfx x.tag = -1 := by unfold clI; rw [← hl]; exact hi
    have R := hid (show permC r.lists r.maps s x.pfx x.tag = none from perm_none (by rw [← hl]; exact hf))
    rw [hi2] at hI
    clear hi hi2 hf hl hC
    repeat' ((fail_if_success (with_reducible show Hid _)); (first | ((with_reducible show Oper.wp _ ⟨_, .store 80 _ _, _, _, _, _⟩ _ _ _ _); refine stopP ?_) | (go_at_call 22; with_reducible refine (hI _ (by assumption)).mono ?_; rintro e w' ⟨rfl, b⟩; have b' := then_ (w := w3) (by assumption) b; clear b; try dsimp only) | go_skip | go_guarded | go_step | go_upon))
    refine hid ?_
    refine wp_store_box (w := w') 80 _ _ (by rfl) (g := (w.heap.size + 2)) (cur := zeroCl) (X := zeroCl) (by rfl) (by rfl) (SZ rfl) (K3 w' b') (rfl) (cla_one zeroCla) ?_
    intro w5 h1 h2 h3
    have R2 := hid (show permV (permC r.lists r.maps s x.pfx x.tag) = permV none by rw [R.out])
    have Q := hid (show Below w2.heap.size w2 w5 from (then_ H3.out b').trans (h3 w2.heap.size (Nat.le_of_eq s2)))
    clear h2 h3 LX LY hI b' K3
    repeat' (first | go_skip | go_guarded | go_step | go_upon)
    (try simp only [Exit.inBlock, Exit.then])
    exact result_box2 (A := zeroCl) (fn := Try.f37) (t := 80) (b := w.heap.size + 2) rfl rfl ag80 (SZ rfl) h1 rfl ⟨by rw [R2.out]; rfl, then_ Hw2.out Q.out⟩
  · have hi2 : clI r.lists r.maps s x.pfx x.tag = (j : Int) := by unfold clI; rw [← hl]; exact hi
    have R := hid (show permC r.lists r.maps s x.pfx x.tag = if c.permit then some c else none from perm_some (by rw [← hl]; exact hf))
    rw [hi2] at hI
    have hji : (j : Int) < (n : Int) := by have := N.out; omega
    have hj0 : (0 : Int) ≤ (j : Int) := by omega
    have hjn : ((j : Int) == -1) = false := by first | (simp; done) | (simp; omega)
    obtain ⟨b, off, rfl, hb, hc⟩ := HC.out (by omega)
    have LV0 : ∀ v : World, Below w3.heap.size w3 v → Sem.run P (loadCellsFrom ⟨b, off + j * zClause, none⟩ 0 zClause #[]) v = .ok (eCla c).toArray v := fun v h => by
      rw [ZC.out]; exact ld_row (f := eCla) (z := 7) P (fun _ => rfl) (fun i u hi => (h.cell (p := ⟨b, off + i, none⟩) hb).trans (hc i u hi)) hc0
    obtain ⟨V, hV⟩ : ∃ V, V = (eCla c).toArray := ⟨_, rfl⟩
    have hVs : V.size = 7 := by rw [hV]; rfl
    have hV1 := hid (show V.all (·.oneCell') = true by rw [hV]; exact cla_one c)
    obtain ⟨pp, hpp⟩ : ∃ q, q = c.permit := ⟨_, rfl⟩
    have y0 : V[0]? = some (.bool pp) := by rw [hV, hpp]; rfl
    have RV := hid hV
    rw [← hV] at LV0
    have R2 := hid (show permV (permC r.lists r.maps s x.pfx x.tag) = if pp then .tuple #[.agg V, .bool true] else permV none by rw [R.out, hpp, hV]; cases c.permit <;> rfl)
    clear hi hi2 hf hl hc0 hc hV hpp hj
    repeat' ((fail_if_success (with_reducible show Hid _)); (first | ((with_reducible show Oper.wp _ ⟨_, .store 80 _ _, _, _, _, _⟩ _ _ _ _); refine stopP ?_) | (go_at_call 22; with_reducible refine (hI _ (by assumption)).mono ?_; rintro e w' ⟨rfl, b⟩; have b' := then_ (w := w3) (by assumption) b; clear b; try dsimp only) | (go_at_call 40; with_reducible refine (hC _ (by assumption)).mono ?_; rintro e w' ⟨rfl, b⟩; have b' := then_ (w := w3) (by assumption) b; clear b; try dsimp only) | go_skip | go_guarded | go_step | go_upon))
    refine hid ?_
    refine wp_store_box (w := w'.alloc (.cells zeroCl 80)) 80 _ _ (by rfl) (g := w'.heap.size) (cur := zeroCl) (X := V) (by rfl) (by rfl) (by intro v; rw [hVs, ← ZC.out]; first | exact sz80 v | assumption) (heap_new _ _) (by rw [hVs]; rfl) hV1.out ?_
    intro w4 h1 h2 h3
    have HB4 := hid (show Below w'.heap.size w' w4 from (al1 w' _).trans (h3 _ (Nat.le_refl _)))
    have HW4 := hid (then_ (show Below w3.heap.size w3 w' from b') HB4.out)
    have G4 : Below w4.heap.size w4 w4 := Below.refl _ _
    have FV0 : ∀ v : World, Below w4.heap.size w4 v → v.cell? ⟨w'.heap.size, 0, none⟩ = some (.bool pp) := fun v h => box_at (blk_keep h1 h) y0
    have LV : ∀ v : World, Below w4.heap.size w4 v → Sem.run P (loadCellsFrom ⟨w'.heap.size, 0, none⟩ 0 zClause #[]) v = .ok V v := fun v h => ld_box P (blk_keep h1 h) (by rw [ZC.out]; exact hVs)
    obtain ⟨g, hgb⟩ : ∃ g, g = w'.heap.size := ⟨_, rfl⟩
    rw [← hgb] at FV0 LV ⊢
    clear h1 h2 h3 hVs hgb
    have K4 := K3 w4 HW4.out
    clear LV0 LX LY hI hC K3 y0
    cases pp
    case false =>
      repeat' ((fail_if_success (with_reducible show Hid _)); (first | ((with_reducible show Oper.wp _ ⟨_, .store 80 _ _, _, _, _, _⟩ _ _ _ _); refine stopP ?_) | go_skip | go_guarded | go_step | go_upon))
      refine hid ?_
      refine wp_store_box (w := w4) 80 _ _ (by rfl) (g := (w.heap.size + 2)) (cur := zeroCl) (X := zeroCl) (by rfl) (by rfl) (SZ rfl) (K4) (rfl) (cla_one zeroCla) ?_
      intro w5 h1 h2 h3
      have Q := hid (show Below w2.heap.size w2 w5 from (then_ H3.out HW4.out).trans (h3 w2.heap.size (Nat.le_of_eq s2)))
      clear h2 h3 K4
      repeat' (first | go_skip | go_guarded | go_step | go_upon)
      (try simp only [Exit.inBlock, Exit.then])
      exact result_box2 (A := zeroCl) (fn := Try.f37) (t := 80) (b := w.heap.size + 2) rfl rfl ag80 (SZ rfl) h1 rfl ⟨by rw [R2.out]; rfl, then_ Hw2.out Q.out⟩
    case true =>
      repeat' ((fail_if_success (with_reducible show Hid _)); (first | ((with_reducible show Oper.wp _ ⟨_, .store 80 _ _, _, _, _, _⟩ _ _ _ _); refine stopP ?_) | go_skip | go_guarded | go_step | go_upon))
      refine hid ?_
      refine wp_store_box (w := w4) 80 _ _ (by rfl) (g := (w.heap.size + 2)) (cur := zeroCl) (X := V) (by rfl) (by rfl) (SZ (by rw [RV.out]; rfl)) (K4) (by rw [RV.out]; rfl) (hV1.out) ?_
      intro w5 h1 h2 h3
      have Q := hid (show Below w2.heap.size w2 w5 from (then_ H3.out HW4.out).trans (h3 w2.heap.size (Nat.le_of_eq s2)))
      clear h2 h3 K4
      repeat' (first | go_skip | go_guarded | go_step | go_upon)
      (try simp only [Exit.inBlock, Exit.then])
      exact result_box2 (A := V) (fn := Try.f37) (t := 80) (b := w.heap.size + 2) rfl rfl ag80 (SZ (by rw [RV.out]; rfl)) h1 rfl ⟨by rw [R2.out]; rfl, then_ Hw2.out Q.out⟩
end Go.Proofs.Ytlhbfpapmolohaa.Mw
