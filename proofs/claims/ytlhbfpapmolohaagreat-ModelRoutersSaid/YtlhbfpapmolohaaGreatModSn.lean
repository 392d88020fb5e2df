/-
  THE CONTRACT OF netverifylaw5.sane.
-/
import Derived.Test.YtlhbfpapmolohaaGreatModSa
import Derived.Test.YtlhbfpapmolohaaGreatModSm
import Derived.Test.YtlhbfpapmolohaaGreatModL
import Derived.Deep.RegionHeld3
namespace Go.Proofs.YtlhbfpapmolohaaGreat.Mw
set_option linter.unusedSimpArgs false
set_option linter.unusedVariables false
open Go.RowKit Kt Mm Mp

/-- The program, as a name that only the kernel lays open. -/
noncomputable def PP : Program := Tryz.prog

def badAt (n : Nat) : Rtr := { sampleAt n with name := bs [49, 114] }
theorem bad_e (n : Nat) : rtrE (badAt n) = 3 := by kernel_rfl
theorem same_ss (n m : Nat) : sameR (sampleAt n) (sampleAt m) = true := by kernel_rfl
theorem same_sb (n m : Nat) : sameR (sampleAt n) (badAt m) = false := by kernel_rfl
theorem if_s (n : Nat) : ixB (fun x : Ifc => x.name.toList == (bs [101, 49]).toList) (sampleAt n).ifs = 1 := by kernel_rfl
theorem ad_s (n : Nat) : adIx (sampleAt n).ifs 167772417 = 1 := by kernel_rfl
theorem bad_in {n : Nat} {w : World} (h : RtrIn w (sampleAt n)) : RtrIn w (badAt n) := { h with name := by show (2 : Nat) ≤ maxLen; decide }

/-- A sample router lies in w as the value X. -/
def SamAt (w : World) (X : Array Value) : Prop := ∃ n, X = (eRtr (sampleAt n)).toArray ∧ RtrIn w (sampleAt n)
def BadAt (w : World) (X : Array Value) : Prop := ∃ n, X = (eRtr (badAt n)).toArray ∧ RtrIn w (badAt n)
theorem SamAt.keep {w w' : World} {X : Array Value} (h : SamAt w X) (b : Below w.heap.size w w') : SamAt w' X := by
  obtain ⟨n, h1, h2⟩ := h
  exact ⟨n, h1, h2.keep b⟩
theorem BadAt.keep {w w' : World} {X : Array Value} (h : BadAt w X) (b : Below w.heap.size w w') : BadAt w' X := by
  obtain ⟨n, h1, h2⟩ := h
  exact ⟨n, h1, h2.keep b⟩
theorem SamAt.bad {w : World} {X : Array Value} (h : SamAt w X) : BadAt w (X.setIfInBounds 0 (.string (bs [49, 114]))) := by
  obtain ⟨n, rfl, h2⟩ := h
  exact ⟨n, rfl, bad_in h2⟩
theorem SamAt.size {w : World} {X : Array Value} (h : SamAt w X) : X.size = 25 := by
  obtain ⟨n, rfl, _⟩ := h
  rfl
theorem SamAt.one {w : World} {X : Array Value} (h : SamAt w X) : X.all (·.oneCell') = true := by
  obtain ⟨n, rfl, h2⟩ := h
  exact eRtr_one h2
theorem BadAt.size {w : World} {X : Array Value} (h : BadAt w X) : X.size = 25 := by
  obtain ⟨n, rfl, _⟩ := h
  rfl

theorem sampleX (w : World) : Calls Tryz.prog 40 #[] w fun e w' => ∃ X, e = .returned (.agg X) ∧ Hid (SamAt w' X) ∧ Below w.heap.size w w' :=
  (sampleC w).mono fun e w' ⟨h1, h2, h3⟩ => ⟨_, h1, hid ⟨_, rfl, h2⟩, h3⟩
theorem chkS {w : World} {X : Array Value} (h : SamAt w X) : Calls Tryz.prog 8 #[.agg X] w fun e w' => e = .returned (.int .i64 0) ∧ Below w.heap.size w w' := by
  obtain ⟨n, rfl, h2⟩ := h
  have := checkR _ w h2
  rwa [sample_ok] at this
theorem chkB {w : World} {X : Array Value} (h : BadAt w X) : Calls Tryz.prog 8 #[.agg X] w fun e w' => e = .returned (.int .i64 3) ∧ Below w.heap.size w w' := by
  obtain ⟨n, rfl, h2⟩ := h
  have := checkR _ w h2
  rwa [bad_e] at this
theorem smS {w : World} {X Y : Array Value} (h : SamAt w X) (k : SamAt w Y) : Calls Tryz.prog 15 #[.agg X, .agg Y] w fun e w' => e = .returned (.bool true) ∧ Below w.heap.size w w' := by
  obtain ⟨n, rfl, h2⟩ := h
  obtain ⟨m, rfl, k2⟩ := k
  have := sameRC _ _ w h2 k2
  rwa [same_ss] at this
theorem smB {w : World} {X Y : Array Value} (h : SamAt w X) (k : BadAt w Y) : Calls Tryz.prog 15 #[.agg X, .agg Y] w fun e w' => e = .returned (.bool false) ∧ Below w.heap.size w w' := by
  obtain ⟨n, rfl, h2⟩ := h
  obtain ⟨m, rfl, k2⟩ := k
  have := sameRC _ _ w h2 k2
  rwa [same_sb] at this
theorem ifS {w : World} {X : Array Value} (h : SamAt w X) : Calls Tryz.prog 41 #[.agg X, .string ⟨#[101, 49]⟩] w fun e w' => e = .returned (.int .i64 1) ∧ Below w.heap.size w w' := by
  obtain ⟨n, rfl, h2⟩ := h
  have := lkIfc (eRtr (sampleAt n)).toArray _ _ (bs [101, 49]) w rfl h2.ifs.row h2.ifs.len
  rwa [if_s] at this
theorem adS {w : World} {X : Array Value} (h : SamAt w X) : Calls Tryz.prog 42 #[.agg X, .int .u32 167772417] w fun e w' => e = .returned (.int .i64 1) ∧ Below w.heap.size w w' := by
  obtain ⟨n, rfl, h2⟩ := h
  have := lkAdr (eRtr (sampleAt n)).toArray _ _ 167772417 w rfl h2.ifs.row h2.ifs.len
  rw [ad_s] at this
  exact this

set_option maxHeartbeats 8000000 in
set_option maxRecDepth 4000 in
theorem saneC (w : World) : Calls Tryz.prog 10 #[] w fun e w' => e = .returned (.bool true) ∧ Below w.heap.size w w' := by
  have hSm := fun wx => sampleX wx
  have hCk := fun wx X (h : SamAt wx X) => chkS h
  have hCb := fun wx X (h : BadAt wx X) => chkB h
  have hSS := fun wx X Y (h : SamAt wx X) (k : SamAt wx Y) => smS h k
  have hSB := fun wx X Y (h : SamAt wx X) (k : BadAt wx Y) => smB h k
  have hIf := fun wx X (h : SamAt wx X) => ifS h
  have hAd := fun wx X (h : SamAt wx X) => adS h
  have hP : PP = Tryz.prog := rfl
  have HP := hid hP
  have mixed : PP.follows .mixedOrders = true := by rw [hP]; kernel_rfl
  have FG : PP.funcs[10]? = some Tryz.f10 := by rw [hP]; exact Tryz.func10
  obtain ⟨zRouter, hzRouter⟩ : ∃ z, z = 25 := ⟨_, rfl⟩
  have nzRouter : ¬ zRouter = 0 := by omega
  have ty3 := Tryz.underlying3; have ag3 := Tryz.isAgg3; have sz3 := Tryz.sizeOf3; have ru3 := Tryz.runUnderlying3
  have ty4 := Tryz.underlying4; have ag4 := Tryz.isAgg4; have sz4 := Tryz.sizeOf4; have ru4 := Tryz.runUnderlying4
  have ty9 := Tryz.underlying9; have ag9 := Tryz.isAgg9; have sz9 := Tryz.sizeOf9; have ru9 := Tryz.runUnderlying9
  have ty41 := Tryz.underlying41; have ag41 := Tryz.isAgg41; have sz41 := Tryz.sizeOf41; have ru41 := Tryz.runUnderlying41
  rw [← hzRouter] at sz41
  have zeRouter := Tryz.zeroValue41
  have ty43 := Tryz.underlying43; have ag43 := Tryz.isAgg43; have sz43 := Tryz.sizeOf43; have ru43 := Tryz.runUnderlying43
  have ty52 := Tryz.underlying51; have ag52 := Tryz.isAgg51; have sz52 := Tryz.sizeOf51; have ru52 := Tryz.runUnderlying51
  have en0 : ∀ args w, (callFunc 42 args).run Tryz.prog w = .ok (.enter 42 args) w := enters_of Tryz.func42 (by kernel_rfl) rfl
  have en1 : ∀ args w, (callFunc 8 args).run Tryz.prog w = .ok (.enter 8 args) w := enters_of Tryz.func8 (by kernel_rfl) rfl
  have en2 : ∀ args w, (callFunc 41 args).run Tryz.prog w = .ok (.enter 41 args) w := enters_of Tryz.func41 (by kernel_rfl) rfl
  have en3 : ∀ args w, (callFunc 15 args).run Tryz.prog w = .ok (.enter 15 args) w := enters_of Tryz.func15 (by kernel_rfl) rfl
  have en4 : ∀ args w, (callFunc 40 args).run Tryz.prog w = .ok (.enter 40 args) w := enters_of Tryz.func40 (by kernel_rfl) rfl
  rw [← hP] at ty3 ag3 sz3 ru3 ty4 ag4 sz4 ru4 ty9 ag9 sz9 ru9 ty41 ag41 sz41 ru41 zeRouter ty43 ag43 sz43 ru43 ty52 ag52 sz52 ru52 en0 en1 en2 en3 en4 hSm hCk hCb hSS hSB hIf hAd ⊢
  clear hP
  have HZ := hid hzRouter
  clear hzRouter
  have SZ : ∀ {X : Array Value}, X.size = 25 → ∀ v, (sizeOf 41).run PP v = .ok X.size v := fun h v => by rw [HP.out, h]; exact Tryz.sizeOf41 v
  go_enter FG, Tryz.ntmps10
  repeat' (first | (with_reducible show Oper.wp _ ⟨_, .store 41 _ _, _, _, _, _⟩ _ _ _ _; have hstop : True := trivial; refine stopHere ?_) | (go_at_call 40; refine (hSm _).mono ?_; rintro e w1 ⟨X, rfl, hX, bX⟩; dsimp only) | go_skip | go_guarded | go_step | go_upon)
  have BX := hid bX
  clear bX
  refine wp_store_box (w := w1.alloc (.cells zeroR 41)) 41 _ _ (by rfl) (g := w1.heap.size) (cur := zeroR) (X := X) (by rfl) (by rfl) (SZ hX.out.size) (heap_new _ _) (by rw [hX.out.size]; rfl) hX.out.one ?_
  intro w2 h1 h2 h3
  have B2 := hid (show Below w1.heap.size w1 w2 from (al1 w1 _).trans (h3 _ (Nat.le_refl _)))
  have X2 := hid (hX.out.keep B2.out)
  have K2 := hid h1
  have L2 : Sem.run PP (loadCellsFrom ⟨w1.heap.size, 0, none⟩ 0 zRouter #[]) w2 = .ok X w2 := ld_box PP h1 (by rw [HZ.out]; exact hX.out.size)
  clear h1 h2 h3
  repeat' (first | (with_reducible show Oper.wp _ ⟨_, .store 41 _ _, _, _, _, _⟩ _ _ _ _; have hstop : True := trivial; refine stopHere ?_) | go_skip | go_guarded | go_step | go_upon)
  refine wp_store_box (w := w2.alloc (.cells zeroR 41)) 41 _ _ (by rfl) (g := w2.heap.size) (cur := zeroR) (X := X) (by rfl) (by rfl) (SZ hX.out.size) (heap_new _ _) (by rw [hX.out.size]; rfl) hX.out.one ?_
  intro w3 h1 h2 h3
  have B3 := hid (show Below w2.heap.size w2 w3 from (al1 w2 _).trans (h3 _ (Nat.le_refl _)))
  have K3 := hid h1
  have c3 : w3.cell? ⟨w2.heap.size, 0, none⟩ = some (.string (bs [114, 49])) := box_at h1 (by obtain ⟨n, rfl, _⟩ := hX.out; rfl)
  have f3 : w3.frozen? ⟨w2.heap.size, 0, none⟩ = false := blk_frozen h1 0
  clear h1 h2 h3 L2
  repeat' (first | go_skip | go_guarded | go_step | go_upon)
  obtain ⟨w4, hw4⟩ : ∃ v, v = w3.setCell ⟨w2.heap.size, 0, none⟩ (.string ⟨#[49, 114]⟩) := ⟨_, rfl⟩
  rw [← hw4]
  have h12 := blk_lt K2.out
  have B4 := hid (show Below w1.heap.size w1 w4 by rw [hw4]; exact (B2.out.trans (B3.out.mono (Nat.le_of_lt h12))).setCell (Nat.le_of_lt h12) _)
  obtain ⟨Y, hY⟩ : ∃ Y, Y = X.setIfInBounds 0 (.string (bs [49, 114])) := ⟨_, rfl⟩
  have S4 := hid (hX.out.keep B4.out)
  have T4 := hid (show BadAt w4 Y by rw [hY]; exact S4.out.bad)
  have hXs := hX.out.size
  have K4 : w4.heap[w1.heap.size]? = some (.cells X 41 (0, 0)) := by
    rw [hw4, Go.heap_setCell_other _ _ _ _ (Nat.ne_of_lt h12)]; exact blk_keep K2.out B3.out
  have J4 : w4.heap[w2.heap.size]? = some (.cells Y 41 (0, 0)) := by
    rw [hw4, hY]; exact Go.heap_setCell_same _ _ _ _ _ _ K3.out
  have LX : ∀ v : World, Below w4.heap.size w4 v → Sem.run PP (loadCellsFrom ⟨w1.heap.size, 0, none⟩ 0 zRouter #[]) v = .ok X v := fun v h => ld_box PP (blk_keep K4 h) (by rw [HZ.out]; exact hXs)
  have LY : ∀ v : World, Below w4.heap.size w4 v → Sem.run PP (loadCellsFrom ⟨w2.heap.size, 0, none⟩ 0 zRouter #[]) v = .ok Y v := fun v h => ld_box PP (blk_keep J4 h) (by rw [HZ.out]; exact T4.out.size)
  have G4 : Below w4.heap.size w4 w4 := Below.refl _ _
  have BB := hid (then_ BX.out B4.out)
  clear hw4 h12 K4 J4 hY hXs K2 K3 B2 B3 X2 c3 f3 hX
  go_region_held3 (fun v => Below w4.heap.size w4 v) ((first | assumption | go_grown)) (first
    | (go_at_call 8; with_reducible refine (hCk _ X (S4.out.keep (by assumption))).mono ?_; rintro e w' ⟨rfl, b⟩; have b' := then_ (w := w4) (by assumption) b; clear b)
    | (go_at_call 8; with_reducible refine (hCb _ Y (T4.out.keep (by assumption))).mono ?_; rintro e w' ⟨rfl, b⟩; have b' := then_ (w := w4) (by assumption) b; clear b)
    | (go_at_call 40; refine (hSm _).mono ?_; rintro e w' ⟨Z, rfl, hZ, b⟩; have b' := then_ (w := w4) (by assumption) b; clear b)
    | (go_at_call 15; with_reducible refine (hSS _ X Z (S4.out.keep (by assumption)) hZ.out).mono ?_; rintro e w' ⟨rfl, b⟩; have b' := then_ (w := w4) (by assumption) b; clear b)
    | (go_at_call 15; with_reducible refine (hSB _ X Y (S4.out.keep (by assumption)) (T4.out.keep (by assumption))).mono ?_; rintro e w' ⟨rfl, b⟩; have b' := then_ (w := w4) (by assumption) b; clear b)
    | (go_at_call 41; with_reducible refine (hIf _ X (S4.out.keep (by assumption))).mono ?_; rintro e w' ⟨rfl, b⟩; have b' := then_ (w := w4) (by assumption) b; clear b)
    | (go_at_call 42; with_reducible refine (hAd _ X (S4.out.keep (by assumption))).mono ?_; rintro e w' ⟨rfl, b⟩; have b' := then_ (w := w4) (by assumption) b; clear b)
    | fail)
  repeat' (first | go_skip | go_guarded | go_step | go_upon)
  go_ret
  exact ⟨rfl, then_ BB.out (by assumption)⟩
end Go.Proofs.YtlhbfpapmolohaaGreat.Mw
