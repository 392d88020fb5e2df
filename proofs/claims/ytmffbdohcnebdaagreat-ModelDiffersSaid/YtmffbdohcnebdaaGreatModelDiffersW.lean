/-
  THE WALK OF THE LAW ModelDiffers.
-/
import Derived.Test.YtmffbdohcnebdaaGreatModelLookupsW
import Derived.Test.YtmffbdohcnebdaaGreatModAp
namespace Go.Proofs.YtmffbdohcnebdaaGreat.Mw
set_option linter.unusedSimpArgs false
set_option linter.unusedVariables false
open Go.RowKit Kt Mm Mp

theorem eqBy_len {α : Type} {p : α → α → Bool} : ∀ {l m : List α}, eqBy p l m = true → l.length = m.length
  | [], [], _ => rfl
  | [], _ :: _, h => by simp [eqBy] at h
  | _ :: _, [], h => by simp [eqBy] at h
  | x :: l, y :: m, h => by
    simp only [eqBy, Bool.and_eq_true] at h
    simp [eqBy_len h.2]
theorem eqBy_no {α : Type} {p : α → α → Bool} {l m : List α} (h : l.length ≠ m.length) : eqBy p l m = false := by
  cases e : eqBy p l m with
  | false => rfl
  | true => exact absurd (eqBy_len e) h
/-- Two routers of which a part differs. -/
def Apart (a b : Rtr) : Prop := a.asn ≠ b.asn ∨ a.ifs.length ≠ b.ifs.length ∨ a.maps.length ≠ b.maps.length ∨ a.acls.length ≠ b.acls.length ∨ a.lsOn ≠ b.lsOn ∨ a.lsr.length ≠ b.lsr.length ∨ a.dvOut ≠ b.dvOut ∨ a.aggs.length ≠ b.aggs.length
theorem Apart.symm {a b : Rtr} (h : Apart a b) : Apart b a := by
  unfold Apart at *
  rcases h with h | h | h | h | h | h | h | h
  · exact .inl (Ne.symm h)
  · exact .inr (.inl (Ne.symm h))
  · exact .inr (.inr (.inl (Ne.symm h)))
  · exact .inr (.inr (.inr (.inl (Ne.symm h))))
  · exact .inr (.inr (.inr (.inr (.inl (Ne.symm h)))))
  · exact .inr (.inr (.inr (.inr (.inr (.inl (Ne.symm h))))))
  · exact .inr (.inr (.inr (.inr (.inr (.inr (.inl (Ne.symm h)))))))
  · exact .inr (.inr (.inr (.inr (.inr (.inr (.inr (Ne.symm h)))))))
theorem Apart.no {a b : Rtr} (h : Apart a b) : sameR a b = false := by
  have hl : ∀ {α : Type} [DecidableEq α] {l m : List α}, l.length ≠ m.length → decide (l = m) = false := fun h => decide_eq_false (fun e => h (by rw [e]))
  unfold Apart at h
  unfold sameR sameLs sameDv samePv
  rcases h with h | h | h | h | h | h | h | h
  · simp [h]
  · simp [hl h]
  · simp [eqBy_no h]
  · simp [eqBy_no h]
  · simp [h]
  · simp [hl h]
  · simp [h]
  · simp [hl h]
/-- A router that lies in a block of its own, as the second of the two that the law compares. -/
structure Other (w : World) (r : Rtr) (g : Nat) (Y : Array Value) : Prop where
  ex : ∃ b, Y = (eRtr b).toArray ∧ RtrIn w b ∧ Apart r b
  at_ : w.heap[g]? = some (.cells Y 41 (0, 0))
theorem xor1_ne (x : Int) : bits .xor .i64 x 1 ≠ x := fun h => by
  unfold bits at h
  simp only [] at h
  rw [IntKind.wrap_i64] at h
  have hm : (BitVec.ofInt IntKind.i64.bits x ^^^ BitVec.ofInt IntKind.i64.bits 1).toNat < 18446744073709551616 := (BitVec.ofInt 64 x ^^^ BitVec.ofInt 64 1).isLt
  have hx : (BitVec.ofInt 64 x).toNat = (x % 18446744073709551616).toNat := BitVec.toNat_ofInt x
  have e : (BitVec.ofInt 64 x ^^^ BitVec.ofInt 64 1).toNat = (BitVec.ofInt 64 x).toNat := by
    have h' : ((BitVec.ofInt 64 x ^^^ BitVec.ofInt 64 1).toNat : Int) = x % 18446744073709551616 := by
      have hd : (BitVec.ofInt IntKind.i64.bits x ^^^ BitVec.ofInt IntKind.i64.bits 1).toNat = (BitVec.ofInt 64 x ^^^ BitVec.ofInt 64 1).toNat := rfl
      rw [hd] at h hm
      omega
    rw [hx]; omega
  have e2 := BitVec.eq_of_toNat_eq e
  have e3 := congrArg (fun z : BitVec 64 => z.getLsbD 0) e2
  simp at e3
def zIfc : Ifc := ⟨⟨#[]⟩, 0, 0, 0, false, false, 0, 0, false, ⟨#[]⟩, ⟨#[]⟩, 0⟩
def zAgg : Aggr := ⟨⟨0, 0⟩, false⟩
def zAcl : Acl := ⟨⟨#[]⟩, .slice none 0 0, []⟩
def zMap : RMap := ⟨⟨#[]⟩, .slice none 0 0, []⟩
def zRed : Red := ⟨0, 0, 0, ⟨#[]⟩, 0⟩
theorem sz0 : sz ⟨#[]⟩ := by show (0 : Nat) ≤ maxLen; exact Nat.zero_le _
theorem low0 : low 0 := by unfold low; decide
theorem inNil {α : Type} {f : α → List Value} {z : Nat} {w : World} : InRow f z w (.slice none 0 0) ([] : List α) := ⟨rows_nil, by simp⟩
theorem mem_snoc {α : Type} {p : α → Prop} {l : List α} {z : α} (h : ∀ x ∈ l, p x) (hz : p z) : ∀ x ∈ l ++ [z], p x := fun x hx => by
  rcases List.mem_append.1 hx with hx | hx
  · exact h x hx
  · rw [List.mem_singleton.1 hx]; exact hz
theorem mem_cons_ {α : Type} {p : α → Prop} {l : List α} {z : α} (h : ∀ x ∈ l, p x) (hz : p z) : ∀ x ∈ [z] ++ l, p x := fun x hx => by
  rcases List.mem_append.1 hx with hx | hx
  · rw [List.mem_singleton.1 hx]; exact hz
  · exact h x hx
theorem infIfc : (Tryz.prog.info? 54).map (fun i => (i.zero, i.size, i.bytes)) = some (some (.agg (eIfc zIfc).toArray), 12, 112) := by kernel_rfl
theorem infAgg : (Tryz.prog.info? 64).map (fun i => (i.zero, i.size, i.bytes)) = some (some (.agg (eAggr zAgg).toArray), 3, 24) := by kernel_rfl
theorem infAcl : (Tryz.prog.info? 67).map (fun i => (i.zero, i.size, i.bytes)) = some (some (.agg (eAcl zAcl).toArray), 2, 40) := by kernel_rfl
theorem infMap : (Tryz.prog.info? 70).map (fun i => (i.zero, i.size, i.bytes)) = some (some (.agg (eRMap zMap).toArray), 2, 40) := by kernel_rfl
theorem infRed : (Tryz.prog.info? 72).map (fun i => (i.zero, i.size, i.bytes)) = some (some (.agg (eRed zRed).toArray), 5, 48) := by kernel_rfl

theorem own_slice' {w : World} {B e z n : Nat} {v : Value} {xs : List Value} (h : w.ownsRow B e z v n xs) : ∃ a l c, v = .slice a l c := by
  obtain ⟨_, h2⟩ := h
  rcases h2 with ⟨h2, _⟩ | ⟨k, cap, cur, rfl, _⟩
  · exact ⟨_, _, _, h2⟩
  · exact ⟨_, _, _, rfl⟩
theorem fl_all {α : Type} {f : α → List Value} {l : List α} (h : ∀ x ∈ l, (f x).toArray.all (·.oneCell') = true) : ∀ u ∈ fl f l, u.oneCell' = true := fun u hu => by
  unfold fl at hu
  obtain ⟨x, hx, hu⟩ := List.mem_flatMap.1 hu
  have := Array.all_eq_true'.1 (h x hx) u (by simpa using hu)
  exact this
theorem one_of {l : List Value} (h : l.toArray.all (·.oneCell') = true) : ∀ u ∈ l, u.oneCell' = true := fun u hu => by
  have := Array.all_eq_true'.1 h u (by simpa using hu)
  exact this
theorem row_snoc {α : Type} {f : α → List Value} {z : Nat} {w : World} {v : Value} {l : List α} {x : α} (h : Mm.Rows w z v (0 + l.length + 1) ([] ++ fl f l ++ f x)) (hl : l.length ≤ 1000) : InRow f z w v (l ++ [x]) :=
  ⟨n_row (n := 0 + l.length + 1) (by rw [fl_append, fl_one]; simpa using h) (by simp), by simp; omega⟩
theorem row_cons {α : Type} {f : α → List Value} {z : Nat} {w : World} {v : Value} {l : List α} {x : α} (h : Mm.Rows w z v (1 + l.length) (f x ++ fl f l)) (hl : l.length ≤ 1000) : InRow f z w v ([x] ++ l) :=
  ⟨n_row (n := 1 + l.length) (by rw [fl_append, fl_one]; exact h) (by simp; omega), by simp; omega⟩
theorem small_len {r : Rtr} (h : true = smallB r) : r.ifs.length ≤ 12 ∧ r.maps.length ≤ 12 ∧ r.acls.length ≤ 12 ∧ r.lsr.length ≤ 8 ∧ r.aggs.length ≤ 12 ∧ r.sts.length ≤ 20 ∧ r.nets.length ≤ 12 := by
  have h := h.symm
  unfold smallB small0 at h
  simp at h
  omega

set_option maxHeartbeats 16000000 in
set_option maxRecDepth 4000 in
theorem walkModelDiffers (r : Rtr) (kk : Int) (W : World) (hr : RtrIn W r) (hD : r.dvOut.size + 1 ≤ 9223372036854775807) :
    Calls Tryz.prog 8 #[.agg (eRtr r).toArray, .int .i64 kk] W fun e w' => e = .returned (.bool true) ∧ Below W.heap.size W w' := by
  have hSn := fun wx => saneC wx
  have hSl := fun wx (h : RtrIn wx r) => smallC r wx h
  have hSm := fun wx (x y : Rtr) (h : RtrIn wx x) (k : RtrIn wx y) => sameRC x y wx h k
  obtain ⟨iI, hiI, hI0, hI1, hI2⟩ := infoOf infIfc
  obtain ⟨iG, hiG, hG0, hG1, hG2⟩ := infoOf infAgg
  obtain ⟨iA, hiA, hA0, hA1, hA2⟩ := infoOf infAcl
  obtain ⟨iM, hiM, hM0, hM1, hM2⟩ := infoOf infMap
  obtain ⟨iR, hiR, hR0, hR1, hR2⟩ := infoOf infRed
  have su := Tryz.sizeOf52
  have st := Tryz.sizeOf9
  have si := Tryz.sizeOf3
  have sl := Tryz.sizeOf4
  have sc := Tryz.sizeOf68
  have sr := Tryz.sizeOf65
  have sp := Tryz.sizeOf57
  obtain ⟨X, hX⟩ : ∃ X, X = (eRtr r).toArray := ⟨_, rfl⟩
  rw [← hX]
  rw [← hX] at hSl
  obtain ⟨w1, hw1⟩ : ∃ w1, W.alloc (.cells X 41) = w1 := ⟨_, rfl⟩
  have hhX : w1.heap[W.heap.size]? = some (.cells X 41 (0, 0)) := by rw [← hw1, heap_new]
  have HB := hid (show Below W.heap.size W w1 by rw [← hw1]; exact new_below _ _)
  have G1 : Below w1.heap.size w1 w1 := Below.refl _ _
  have HX := hid hX
  have hXs : X.size = 25 := by rw [hX]; rfl
  have hX1 := hid (show X.all (·.oneCell') = true by rw [hX]; exact eRtr_one hr)
  have g1 : X[1]? = some (.int .i64 r.asn) := by rw [hX]; rfl
  have g2 : X[2]? = some (r.vIfs) := by rw [hX]; rfl
  have g4 : X[4]? = some (r.vMaps) := by rw [hX]; rfl
  have g5 : X[5]? = some (r.vAcls) := by rw [hX]; rfl
  have g8 : X[8]? = some (.bool r.lsOn) := by rw [hX]; rfl
  have g11 : X[11]? = some (r.vLsr) := by rw [hX]; rfl
  have g15 : X[15]? = some (.string r.dvOut) := by rw [hX]; rfl
  have g22 : X[22]? = some (r.vAggs) := by rw [hX]; rfl
  have FX2 : ∀ v : World, Below w1.heap.size w1 v → v.cell? ⟨W.heap.size, 2, none⟩ = some (r.vIfs) := fun v h => box_at (blk_keep hhX h) g2
  have FX4 : ∀ v : World, Below w1.heap.size w1 v → v.cell? ⟨W.heap.size, 4, none⟩ = some (r.vMaps) := fun v h => box_at (blk_keep hhX h) g4
  have FX5 : ∀ v : World, Below w1.heap.size w1 v → v.cell? ⟨W.heap.size, 5, none⟩ = some (r.vAcls) := fun v h => box_at (blk_keep hhX h) g5
  have FX11 : ∀ v : World, Below w1.heap.size w1 v → v.cell? ⟨W.heap.size, 11, none⟩ = some (r.vLsr) := fun v h => box_at (blk_keep hhX h) g11
  have FX22 : ∀ v : World, Below w1.heap.size w1 v → v.cell? ⟨W.heap.size, 22, none⟩ = some (r.vAggs) := fun v h => box_at (blk_keep hhX h) g22
  have cS := fun wx (h : Below w1.heap.size w1 wx) => hSl wx (hr.keep (then_ HB.out h))
  obtain ⟨sb, hsb⟩ : ∃ b, b = smallB r := ⟨_, rfl⟩
  rw [← hsb] at cS
  have SB := hid hsb
  have KX := hid hhX
  have HR := hid hr
  have GG := hid (And.intro g1 (And.intro g8 g15))
  have GX2 := hid g2
  have GX4 := hid g4
  have GX5 := hid g5
  have GX11 := hid g11
  have GX22 := hid g22
  clear hX hsb hSl hhX g1 g2 g4 g5 g8 g11 g15 g22 hr
  obtain ⟨P, hP⟩ : ∃ P, P = Tryz.prog := ⟨_, rfl⟩
  have HP := hid hP
  have mixed : P.follows .mixedOrders = true := by rw [hP]; kernel_rfl
  have FG : P.funcs[8]? = some Tryz.f8 := by rw [hP]; exact Tryz.func8
  obtain ⟨zRouter, hzRouter⟩ : ∃ z, z = 25 := ⟨_, rfl⟩
  have nzRouter : ¬ zRouter = 0 := by omega
  have ty3 := Tryz.underlying3; have ag3 := Tryz.isAgg3; have sz3 := Tryz.sizeOf3; have ru3 := Tryz.runUnderlying3
  have ty4 := Tryz.underlying4; have ag4 := Tryz.isAgg4; have sz4 := Tryz.sizeOf4; have ru4 := Tryz.runUnderlying4
  have ty9 := Tryz.underlying9; have ag9 := Tryz.isAgg9; have sz9 := Tryz.sizeOf9; have ru9 := Tryz.runUnderlying9
  have ty22 := Tryz.underlying22; have ag22 := Tryz.isAgg22; have sz22 := Tryz.sizeOf22; have ru22 := Tryz.runUnderlying22
  have zeSInterface := Tryz.zeroValue22
  have ty24 := Tryz.underlying24; have ag24 := Tryz.isAgg24; have sz24 := Tryz.sizeOf24; have ru24 := Tryz.runUnderlying24
  have zeSRouteMap := Tryz.zeroValue24
  have ty25 := Tryz.underlying25; have ag25 := Tryz.isAgg25; have sz25 := Tryz.sizeOf25; have ru25 := Tryz.runUnderlying25
  have zeSACL := Tryz.zeroValue25
  have ty29 := Tryz.underlying29; have ag29 := Tryz.isAgg29; have sz29 := Tryz.sizeOf29; have ru29 := Tryz.runUnderlying29
  have zeSRedist := Tryz.zeroValue29
  have ty31 := Tryz.underlying31; have ag31 := Tryz.isAgg31; have sz31 := Tryz.sizeOf31; have ru31 := Tryz.runUnderlying31
  have ty33 := Tryz.underlying33; have ag33 := Tryz.isAgg33; have sz33 := Tryz.sizeOf33; have ru33 := Tryz.runUnderlying33
  have ty36 := Tryz.underlying36; have ag36 := Tryz.isAgg36; have sz36 := Tryz.sizeOf36; have ru36 := Tryz.runUnderlying36
  have zeSAggregate := Tryz.zeroValue36
  have ty39 := Tryz.underlying39; have ag39 := Tryz.isAgg39; have sz39 := Tryz.sizeOf39; have ru39 := Tryz.runUnderlying39
  have ty41 := Tryz.underlying41; have ag41 := Tryz.isAgg41; have sz41 := Tryz.sizeOf41; have ru41 := Tryz.runUnderlying41
  rw [← hzRouter] at sz41
  have zeRouter := Tryz.zeroValue41
  have ty54 := Tryz.underlying54; have ag54 := Tryz.isAgg54; have sz54 := Tryz.sizeOf54; have ru54 := Tryz.runUnderlying54
  have zeInterface := Tryz.zeroValue54
  have ty64 := Tryz.underlying64; have ag64 := Tryz.isAgg64; have sz64 := Tryz.sizeOf64; have ru64 := Tryz.runUnderlying64
  have zeAggregate := Tryz.zeroValue64
  have ty67 := Tryz.underlying67; have ag67 := Tryz.isAgg67; have sz67 := Tryz.sizeOf67; have ru67 := Tryz.runUnderlying67
  have zeACL := Tryz.zeroValue67
  have ty70 := Tryz.underlying70; have ag70 := Tryz.isAgg70; have sz70 := Tryz.sizeOf70; have ru70 := Tryz.runUnderlying70
  have zeRouteMap := Tryz.zeroValue70
  have ty72 := Tryz.underlying72; have ag72 := Tryz.isAgg72; have sz72 := Tryz.sizeOf72; have ru72 := Tryz.runUnderlying72
  have zeRedist := Tryz.zeroValue72
  have en0 : ∀ args w, (callFunc 19 args).run Tryz.prog w = .ok (.enter 19 args) w := enters_of Tryz.func19 (by kernel_rfl) rfl
  have en1 : ∀ args w, (callFunc 11 args).run Tryz.prog w = .ok (.enter 11 args) w := enters_of Tryz.func11 (by kernel_rfl) rfl
  have en2 : ∀ args w, (callFunc 14 args).run Tryz.prog w = .ok (.enter 14 args) w := enters_of Tryz.func14 (by kernel_rfl) rfl
  rw [← hP] at ty3 ag3 sz3 ru3 ty4 ag4 sz4 ru4 ty9 ag9 sz9 ru9 ty22 ag22 sz22 ru22 zeSInterface ty24 ag24 sz24 ru24 zeSRouteMap ty25 ag25 sz25 ru25 zeSACL ty29 ag29 sz29 ru29 zeSRedist ty31 ag31 sz31 ru31 ty33 ag33 sz33 ru33 ty36 ag36 sz36 ru36 zeSAggregate ty39 ag39 sz39 ru39 ty41 ag41 sz41 ru41 zeRouter ty54 ag54 sz54 ru54 zeInterface ty64 ag64 sz64 ru64 zeAggregate ty67 ag67 sz67 ru67 zeACL ty70 ag70 sz70 ru70 zeRouteMap ty72 ag72 sz72 ru72 zeRedist en0 en1 en2 hSn hSm cS hiI hiG hiA hiM hiR su st si sl sc sr sp ⊢
  clear hP
  have ZR := hid hzRouter
  clear hzRouter
  have LX : ∀ v : World, Below w1.heap.size w1 v → Sem.run P (loadCellsFrom ⟨W.heap.size, 0, none⟩ 0 zRouter #[]) v = .ok X v := fun v h => ld_box P (blk_keep KX.out h) (by rw [ZR.out]; exact hXs)
  cases sb
  case false =>
    go_enter FG, Tryz.ntmps8
    repeat' (first | (go_at_call 11; with_reducible refine (cS _ (by assumption)).mono ?_; rintro e w' ⟨rfl, b⟩; have b' := then_ (w := w1) (by assumption) b; clear b; try dsimp only) | go_skip | go_guarded | go_step | go_upon)
    go_ret
    exact ⟨rfl, then_ HB.out (by assumption)⟩
  have BL := hid (small_len SB.out)
  go_enter FG, Tryz.ntmps8
  repeat' ((fail_if_success with_reducible show Hid _); (first | ((with_reducible show Oper.wp _ ⟨_, .store 41 _ _, _, _, _, _⟩ _ _ _ _); refine stopHere ?_) | (go_at_call 11; with_reducible refine (cS _ (by assumption)).mono ?_; rintro e w2 ⟨rfl, b2⟩; have hw2 := then_ (w := w1) (by assumption) b2; clear b2; try dsimp only) | go_skip | go_guarded | go_step | go_upon))
  refine hid ?_
  refine wp_store_box (w := w2.alloc (.cells zeroR 41)) 41 _ _ (by rfl) (g := w2.heap.size) (cur := zeroR) (X := X) (by rfl) (by rfl) (by intro v; rw [hXs, ← ZR.out]; first | exact sz41 v | assumption) (heap_new _ _) (by rw [hXs]; rfl) hX1.out ?_
  intro w3 h1 h2 h3
  have HB3 := hid (show Below w1.heap.size w1 w3 from then_ hw2 ((al1 w2 _).trans (h3 _ (Nat.le_refl _))))
  have K3 := hid h1
  have G3 := hid (blk_lt h1)
  obtain ⟨g, hg⟩ : ∃ g, g = w2.heap.size := ⟨_, rfl⟩
  have hgw : w1.heap.size ≤ g := by rw [hg]; exact hw2.size
  rw [← hg] at K3 G3 ⊢
  clear hg
  have c1 : w3.cell? ⟨g, 1, none⟩ = some (.int .i64 r.asn) := box_at K3.out GG.out.1
  have c8 : w3.cell? ⟨g, 8, none⟩ = some (.bool r.lsOn) := box_at K3.out GG.out.2.1
  have c15 : w3.cell? ⟨g, 15, none⟩ = some (.string r.dvOut) := box_at K3.out GG.out.2.2
  have f1 : w3.frozen? ⟨g, 1, none⟩ = false := blk_frozen K3.out 1
  have f8 : w3.frozen? ⟨g, 8, none⟩ = false := blk_frozen K3.out 8
  have f15 : w3.frozen? ⟨g, 15, none⟩ = false := blk_frozen K3.out 15
  have B3 : Below w1.heap.size w1 w3 := HB3.out
  have HR3 := hid (HR.out.keep (then_ HB.out HB3.out))
  have hD' : ((r.dvOut.size + 1 : Nat) : Int) ≤ 9223372036854775807 := by omega
  clear h1 h2 h3 hw2 cS

  by_cases k0 : kk = 0
  · subst k0
    repeat' ((fail_if_success with_reducible show Hid _); (first | ((with_reducible show Oper.wp _ ⟨_, .load 41 _, _, _, _, _⟩ _ _ _ _); refine stopHere ?_) | go_skip | go_guarded | go_step | go_upon))
    refine hid ?_
    obtain ⟨w7, hw7⟩ : ∃ v, v = w3.setCell ⟨g, 1, none⟩ (.int .i64 (bits .xor .i64 r.asn 1)) := ⟨_, rfl⟩
    rw [← hw7]
    have B7 := hid (show Below w1.heap.size w1 w7 by rw [hw7]; exact HB3.out.setCell (show w1.heap.size ≤ g from hgw) _)
    have HR7 := hid (HR.out.keep (then_ HB.out B7.out))
    obtain ⟨Y, hY, hYs, hex⟩ : ∃ Y : Array Value, w7.heap[g]? = some (.cells Y 41 (0, 0)) ∧ Y.size = 25 ∧ ∃ b, Y = (eRtr b).toArray ∧ RtrIn w7 b ∧ Apart r b := ⟨_, by rw [hw7]; exact Go.heap_setCell_same _ _ _ _ _ _ K3.out, by rw [Array.size_setIfInBounds]; exact hXs, ⟨{ r with asn := bits .xor .i64 r.asn 1 }, by rw [HX.out]; rfl, { HR7.out with }, .inl (Ne.symm (xor1_ne _))⟩⟩
    obtain ⟨b, hYb, hbI, hap⟩ := hex
    have tS1 := fun wx (h : Below w7.heap.size w7 wx) => hSm wx r b (HR7.out.keep h) (hbI.keep h)
    have tS2 := fun wx (h : Below w7.heap.size w7 wx) => hSm wx b r (hbI.keep h) (HR7.out.keep h)
    rw [← HX.out, ← hYb, hap.no] at tS1
    rw [← HX.out, ← hYb, hap.symm.no] at tS2
    have L7 := fun (v : World) (h : Below w7.heap.size w7 v) => LX v (then_ B7.out h)
    have LY : ∀ v : World, Below w7.heap.size w7 v → Sem.run P (loadCellsFrom ⟨g, 0, none⟩ 0 zRouter #[]) v = .ok Y v := fun v h => ld_box P (blk_keep hY h) (by rw [ZR.out]; exact hYs)
    have G7 : Below w7.heap.size w7 w7 := Below.refl _ _
    clear hw7 hY hYs hYb hbI hap LX
    repeat' (first | (go_at_call 19; with_reducible refine (tS1 _ (by assumption)).mono ?_; rintro e w' ⟨rfl, b⟩; have b' := then_ (w := w7) (by assumption) b; clear b; try dsimp only) | (go_at_call 19; with_reducible refine (tS2 _ (by assumption)).mono ?_; rintro e w' ⟨rfl, b⟩; have b' := then_ (w := w7) (by assumption) b; clear b; try dsimp only) | (go_at_call 14; with_reducible refine (hSn _).mono ?_; rintro e w' ⟨rfl, b⟩; have b' := then_ (w := w7) (by assumption) b; clear b; try dsimp only) | go_skip | go_guarded | go_step | go_upon)
    go_ret
    exact ⟨rfl, then_ HB.out (then_ B7.out (by assumption))⟩
  by_cases k2 : kk = 2
  · subst k2
    repeat' ((fail_if_success with_reducible show Hid _); (first | ((with_reducible show Oper.wp _ ⟨_, .load 41 _, _, _, _, _⟩ _ _ _ _); refine stopHere ?_) | go_skip | go_guarded | go_step | go_upon))
    refine hid ?_
    obtain ⟨w7, hw7⟩ : ∃ v, v = w3.setCell ⟨g, 8, none⟩ (.bool (!r.lsOn)) := ⟨_, rfl⟩
    rw [← hw7]
    have B7 := hid (show Below w1.heap.size w1 w7 by rw [hw7]; exact HB3.out.setCell (show w1.heap.size ≤ g from hgw) _)
    have HR7 := hid (HR.out.keep (then_ HB.out B7.out))
    obtain ⟨Y, hY, hYs, hex⟩ : ∃ Y : Array Value, w7.heap[g]? = some (.cells Y 41 (0, 0)) ∧ Y.size = 25 ∧ ∃ b, Y = (eRtr b).toArray ∧ RtrIn w7 b ∧ Apart r b := ⟨_, by rw [hw7]; exact Go.heap_setCell_same _ _ _ _ _ _ K3.out, by rw [Array.size_setIfInBounds]; exact hXs, ⟨{ r with lsOn := !r.lsOn }, by rw [HX.out]; rfl, { HR7.out with }, .inr (.inr (.inr (.inr (.inl (by show r.lsOn ≠ !r.lsOn; cases r.lsOn <;> simp)))))⟩⟩
    obtain ⟨b, hYb, hbI, hap⟩ := hex
    have tS1 := fun wx (h : Below w7.heap.size w7 wx) => hSm wx r b (HR7.out.keep h) (hbI.keep h)
    have tS2 := fun wx (h : Below w7.heap.size w7 wx) => hSm wx b r (hbI.keep h) (HR7.out.keep h)
    rw [← HX.out, ← hYb, hap.no] at tS1
    rw [← HX.out, ← hYb, hap.symm.no] at tS2
    have L7 := fun (v : World) (h : Below w7.heap.size w7 v) => LX v (then_ B7.out h)
    have LY : ∀ v : World, Below w7.heap.size w7 v → Sem.run P (loadCellsFrom ⟨g, 0, none⟩ 0 zRouter #[]) v = .ok Y v := fun v h => ld_box P (blk_keep hY h) (by rw [ZR.out]; exact hYs)
    have G7 : Below w7.heap.size w7 w7 := Below.refl _ _
    clear hw7 hY hYs hYb hbI hap LX
    repeat' (first | (go_at_call 19; with_reducible refine (tS1 _ (by assumption)).mono ?_; rintro e w' ⟨rfl, b⟩; have b' := then_ (w := w7) (by assumption) b; clear b; try dsimp only) | (go_at_call 19; with_reducible refine (tS2 _ (by assumption)).mono ?_; rintro e w' ⟨rfl, b⟩; have b' := then_ (w := w7) (by assumption) b; clear b; try dsimp only) | (go_at_call 14; with_reducible refine (hSn _).mono ?_; rintro e w' ⟨rfl, b⟩; have b' := then_ (w := w7) (by assumption) b; clear b; try dsimp only) | go_skip | go_guarded | go_step | go_upon)
    go_ret
    exact ⟨rfl, then_ HB.out (then_ B7.out (by assumption))⟩
  by_cases k3 : kk = 3
  · subst k3
    repeat' ((fail_if_success with_reducible show Hid _); (first | ((with_reducible show Oper.wp _ ⟨_, .load 41 _, _, _, _, _⟩ _ _ _ _); refine stopHere ?_) | go_skip | go_guarded | go_step | go_upon))
    refine hid ?_
    obtain ⟨w7, hw7⟩ : ∃ v, v = w3.setCell ⟨g, 15, none⟩ (.string (r.dvOut ++ ⟨#[120]⟩)) := ⟨_, rfl⟩
    rw [← hw7]
    have B7 := hid (show Below w1.heap.size w1 w7 by rw [hw7]; exact HB3.out.setCell (show w1.heap.size ≤ g from hgw) _)
    have HR7 := hid (HR.out.keep (then_ HB.out B7.out))
    obtain ⟨Y, hY, hYs, hex⟩ : ∃ Y : Array Value, w7.heap[g]? = some (.cells Y 41 (0, 0)) ∧ Y.size = 25 ∧ ∃ b, Y = (eRtr b).toArray ∧ RtrIn w7 b ∧ Apart r b := ⟨_, by rw [hw7]; exact Go.heap_setCell_same _ _ _ _ _ _ K3.out, by rw [Array.size_setIfInBounds]; exact hXs, ⟨{ r with dvOut := r.dvOut ++ ⟨#[120]⟩ }, by rw [HX.out]; rfl, { HR7.out with }, .inr (.inr (.inr (.inr (.inr (.inr (.inl (fun e => by have := congrArg ByteArray.size e; simp [ByteArray.size_append] at this; exact absurd this (by decide))))))))⟩⟩
    obtain ⟨b, hYb, hbI, hap⟩ := hex
    have tS1 := fun wx (h : Below w7.heap.size w7 wx) => hSm wx r b (HR7.out.keep h) (hbI.keep h)
    have tS2 := fun wx (h : Below w7.heap.size w7 wx) => hSm wx b r (hbI.keep h) (HR7.out.keep h)
    rw [← HX.out, ← hYb, hap.no] at tS1
    rw [← HX.out, ← hYb, hap.symm.no] at tS2
    have L7 := fun (v : World) (h : Below w7.heap.size w7 v) => LX v (then_ B7.out h)
    have LY : ∀ v : World, Below w7.heap.size w7 v → Sem.run P (loadCellsFrom ⟨g, 0, none⟩ 0 zRouter #[]) v = .ok Y v := fun v h => ld_box P (blk_keep hY h) (by rw [ZR.out]; exact hYs)
    have G7 : Below w7.heap.size w7 w7 := Below.refl _ _
    clear hw7 hY hYs hYb hbI hap LX
    repeat' (first | (go_at_call 19; with_reducible refine (tS1 _ (by assumption)).mono ?_; rintro e w' ⟨rfl, b⟩; have b' := then_ (w := w7) (by assumption) b; clear b; try dsimp only) | (go_at_call 19; with_reducible refine (tS2 _ (by assumption)).mono ?_; rintro e w' ⟨rfl, b⟩; have b' := then_ (w := w7) (by assumption) b; clear b; try dsimp only) | (go_at_call 14; with_reducible refine (hSn _).mono ?_; rintro e w' ⟨rfl, b⟩; have b' := then_ (w := w7) (by assumption) b; clear b; try dsimp only) | go_skip | go_guarded | go_step | go_upon)
    go_ret
    exact ⟨rfl, then_ HB.out (then_ B7.out (by assumption))⟩
  by_cases k1 : kk = 1
  · subst k1
    have o1 := fl_all (f := eIfc) (l := r.ifs) (fun x hx => by simp [eIfc, one_str, one_int, one_bool])
    have lb : r.ifs.length ≤ 10000000000 := by have := BL.out; omega
    have fr := FX2 (w3.alloc (.cells #[] 54)) (then_ HB3.out (al1 w3 _))
    have r0 := hid (rows_keep HR3.out.ifs.row (al1 w3 (.cells #[] 54)))
    have own0 : (w3.alloc (.cells #[] 54)).ownsRow w3.heap.size 54 12 (.slice (some ⟨w3.heap.size, 0, none⟩) 0 0) 0 [] := own_made (Nat.le_refl _)
    have oz : ∀ u ∈ eIfc zIfc, u.oneCell' = true := one_of (by simp [eIfc, zIfc, Value.oneCell'])
    repeat' ((fail_if_success with_reducible show Hid _); (first | (at_builtin; refine app2w (by rfl) _ _ _ (by rfl) 54 iI _ 12 112 ty22 hiI hI0 hI1 hI2 (by rfl) (by decide) (by decide) w3.heap.size _ (.slice (some ⟨w3.heap.size, 0, none⟩) 0 0) r.vIfs 0 r.ifs.length [] (fl eIfc r.ifs) (by rfl) own0 (al1 w3 _).size (by rfl) r0.out o1 (by omega) lb ?_; intro v4 w4 own4 bel4 hq4; clear hq4) | (at_builtin; refine app1w (by rfl) _ _ _ (by rfl) 54 iI _ 12 112 ty22 hiI hI0 hI1 hI2 (by rfl) (by decide) (by decide) w3.heap.size w3 w4 v4 (0 + r.ifs.length) ([] ++ fl eIfc r.ifs) (eIfc zIfc) (by rfl) own4 ((al1 w3 _).trans bel4) ((al1 w3 _).trans bel4).size (by rfl) (by rfl) oz (by omega) ?_; intro v5 w5 own5 bel5 s5 hq5; clear hq5; obtain ⟨a5, l5, p5, rfl⟩ := own_slice' own5; have c5 : w5.cell? ⟨g, 2, none⟩ = some r.vIfs := box_at (blk_keep K3.out bel5) GX2.out; have f5 := blk_frozen (blk_keep K3.out bel5) 2) | ((with_reducible show Oper.wp _ ⟨_, .load 41 _, _, _, _, _⟩ _ _ _ _); refine stopHere ?_) | go_skip | go_guarded | go_step | go_upon))
    refine hid ?_
    obtain ⟨w7, hw7⟩ : ∃ v, v = w5.setCell ⟨g, 2, none⟩ (.slice a5 l5 p5) := ⟨_, rfl⟩
    rw [← hw7]
    have B7 := hid (show Below w1.heap.size w1 w7 by rw [hw7]; exact (HB3.out.trans (bel5.mono HB3.out.size)).setCell (show w1.heap.size ≤ g from hgw) _)
    have HR7 := hid (HR.out.keep (then_ HB.out B7.out))
    obtain ⟨Y, hY, hYs, hex⟩ : ∃ Y : Array Value, w7.heap[g]? = some (.cells Y 41 (0, 0)) ∧ Y.size = 25 ∧ ∃ b, Y = (eRtr b).toArray ∧ RtrIn w7 b ∧ Apart r b := ⟨_, by rw [hw7]; exact Go.heap_setCell_same _ _ _ _ _ _ (blk_keep K3.out bel5), by rw [Array.size_setIfInBounds]; exact hXs, ⟨{ r with vIfs := .slice a5 l5 p5, ifs := r.ifs ++ [zIfc] }, by rw [HX.out]; rfl, { HR7.out with ifs := row_snoc (rows_own (by rw [hw7]; exact own_set_other own5 G3.out)) (by have := BL.out; omega), ifsN := mem_snoc HR7.out.ifsN sz0, ifsA := mem_snoc HR7.out.ifsA low0 }, .inr (.inl (by simp))⟩⟩
    obtain ⟨b, hYb, hbI, hap⟩ := hex
    have tS1 := fun wx (h : Below w7.heap.size w7 wx) => hSm wx r b (HR7.out.keep h) (hbI.keep h)
    have tS2 := fun wx (h : Below w7.heap.size w7 wx) => hSm wx b r (hbI.keep h) (HR7.out.keep h)
    rw [← HX.out, ← hYb, hap.no] at tS1
    rw [← HX.out, ← hYb, hap.symm.no] at tS2
    have L7 := fun (v : World) (h : Below w7.heap.size w7 v) => LX v (then_ B7.out h)
    have LY : ∀ v : World, Below w7.heap.size w7 v → Sem.run P (loadCellsFrom ⟨g, 0, none⟩ 0 zRouter #[]) v = .ok Y v := fun v h => ld_box P (blk_keep hY h) (by rw [ZR.out]; exact hYs)
    have G7 : Below w7.heap.size w7 w7 := Below.refl _ _
    clear hw7 hY hYs hYb hbI hap LX
    repeat' (first | (go_at_call 19; with_reducible refine (tS1 _ (by assumption)).mono ?_; rintro e w' ⟨rfl, b⟩; have b' := then_ (w := w7) (by assumption) b; clear b; try dsimp only) | (go_at_call 19; with_reducible refine (tS2 _ (by assumption)).mono ?_; rintro e w' ⟨rfl, b⟩; have b' := then_ (w := w7) (by assumption) b; clear b; try dsimp only) | (go_at_call 14; with_reducible refine (hSn _).mono ?_; rintro e w' ⟨rfl, b⟩; have b' := then_ (w := w7) (by assumption) b; clear b; try dsimp only) | go_skip | go_guarded | go_step | go_upon)
    go_ret
    exact ⟨rfl, then_ HB.out (then_ B7.out (by assumption))⟩
  by_cases k4 : kk = 4
  · subst k4
    have o1 := fl_all (f := eAggr) (l := r.aggs) (fun x hx => by simp [eAggr, one_str, one_int, one_bool])
    have lb : r.aggs.length ≤ 10000000000 := by have := BL.out; omega
    have fr := FX22 (w3.alloc (.cells #[] 64)) (then_ HB3.out (al1 w3 _))
    have r0 := hid (rows_keep HR3.out.aggs.row (al1 w3 (.cells #[] 64)))
    have own0 : (w3.alloc (.cells #[] 64)).ownsRow w3.heap.size 64 3 (.slice (some ⟨w3.heap.size, 0, none⟩) 0 0) 0 [] := own_made (Nat.le_refl _)
    have oz : ∀ u ∈ eAggr zAgg, u.oneCell' = true := one_of (by simp [eAggr, zAgg, Value.oneCell'])
    repeat' ((fail_if_success with_reducible show Hid _); (first | (at_builtin; refine app2w (by rfl) _ _ _ (by rfl) 64 iG _ 3 24 ty36 hiG hG0 hG1 hG2 (by rfl) (by decide) (by decide) w3.heap.size _ (.slice (some ⟨w3.heap.size, 0, none⟩) 0 0) r.vAggs 0 r.aggs.length [] (fl eAggr r.aggs) (by rfl) own0 (al1 w3 _).size (by rfl) r0.out o1 (by omega) lb ?_; intro v4 w4 own4 bel4 hq4; clear hq4) | (at_builtin; refine app1w (by rfl) _ _ _ (by rfl) 64 iG _ 3 24 ty36 hiG hG0 hG1 hG2 (by rfl) (by decide) (by decide) w3.heap.size w3 w4 v4 (0 + r.aggs.length) ([] ++ fl eAggr r.aggs) (eAggr zAgg) (by rfl) own4 ((al1 w3 _).trans bel4) ((al1 w3 _).trans bel4).size (by rfl) (by rfl) oz (by omega) ?_; intro v5 w5 own5 bel5 s5 hq5; clear hq5; obtain ⟨a5, l5, p5, rfl⟩ := own_slice' own5; have c5 : w5.cell? ⟨g, 22, none⟩ = some r.vAggs := box_at (blk_keep K3.out bel5) GX22.out; have f5 := blk_frozen (blk_keep K3.out bel5) 22) | ((with_reducible show Oper.wp _ ⟨_, .load 41 _, _, _, _, _⟩ _ _ _ _); refine stopHere ?_) | go_skip | go_guarded | go_step | go_upon))
    refine hid ?_
    obtain ⟨w7, hw7⟩ : ∃ v, v = w5.setCell ⟨g, 22, none⟩ (.slice a5 l5 p5) := ⟨_, rfl⟩
    rw [← hw7]
    have B7 := hid (show Below w1.heap.size w1 w7 by rw [hw7]; exact (HB3.out.trans (bel5.mono HB3.out.size)).setCell (show w1.heap.size ≤ g from hgw) _)
    have HR7 := hid (HR.out.keep (then_ HB.out B7.out))
    obtain ⟨Y, hY, hYs, hex⟩ : ∃ Y : Array Value, w7.heap[g]? = some (.cells Y 41 (0, 0)) ∧ Y.size = 25 ∧ ∃ b, Y = (eRtr b).toArray ∧ RtrIn w7 b ∧ Apart r b := ⟨_, by rw [hw7]; exact Go.heap_setCell_same _ _ _ _ _ _ (blk_keep K3.out bel5), by rw [Array.size_setIfInBounds]; exact hXs, ⟨{ r with vAggs := .slice a5 l5 p5, aggs := r.aggs ++ [zAgg] }, by rw [HX.out]; rfl, { HR7.out with aggs := row_snoc (rows_own (by rw [hw7]; exact own_set_other own5 G3.out)) (by have := BL.out; omega), aggsA := mem_snoc HR7.out.aggsA low0 }, .inr (.inr (.inr (.inr (.inr (.inr (.inr (by simp)))))))⟩⟩
    obtain ⟨b, hYb, hbI, hap⟩ := hex
    have tS1 := fun wx (h : Below w7.heap.size w7 wx) => hSm wx r b (HR7.out.keep h) (hbI.keep h)
    have tS2 := fun wx (h : Below w7.heap.size w7 wx) => hSm wx b r (hbI.keep h) (HR7.out.keep h)
    rw [← HX.out, ← hYb, hap.no] at tS1
    rw [← HX.out, ← hYb, hap.symm.no] at tS2
    have L7 := fun (v : World) (h : Below w7.heap.size w7 v) => LX v (then_ B7.out h)
    have LY : ∀ v : World, Below w7.heap.size w7 v → Sem.run P (loadCellsFrom ⟨g, 0, none⟩ 0 zRouter #[]) v = .ok Y v := fun v h => ld_box P (blk_keep hY h) (by rw [ZR.out]; exact hYs)
    have G7 : Below w7.heap.size w7 w7 := Below.refl _ _
    clear hw7 hY hYs hYb hbI hap LX
    repeat' (first | (go_at_call 19; with_reducible refine (tS1 _ (by assumption)).mono ?_; rintro e w' ⟨rfl, b⟩; have b' := then_ (w := w7) (by assumption) b; clear b; try dsimp only) | (go_at_call 19; with_reducible refine (tS2 _ (by assumption)).mono ?_; rintro e w' ⟨rfl, b⟩; have b' := then_ (w := w7) (by assumption) b; clear b; try dsimp only) | (go_at_call 14; with_reducible refine (hSn _).mono ?_; rintro e w' ⟨rfl, b⟩; have b' := then_ (w := w7) (by assumption) b; clear b; try dsimp only) | go_skip | go_guarded | go_step | go_upon)
    go_ret
    exact ⟨rfl, then_ HB.out (then_ B7.out (by assumption))⟩
  by_cases k5 : kk = 5
  · subst k5
    have o1 := fl_all (f := eAcl) (l := r.acls) (fun x hx => eAcl_one (HR3.out.aclsR x hx))
    have lb : r.acls.length ≤ 10000000000 := by have := BL.out; omega
    have fr := FX5 (w3.alloc (.cells #[] 67)) (then_ HB3.out (al1 w3 _))
    have r0 := hid (rows_keep HR3.out.acls.row (al1 w3 (.cells #[] 67)))
    have own0 : (w3.alloc (.cells #[] 67)).ownsRow w3.heap.size 67 2 (.slice (some ⟨w3.heap.size, 0, none⟩) 0 0) 0 [] := own_made (Nat.le_refl _)
    have oz : ∀ u ∈ eAcl zAcl, u.oneCell' = true := one_of (by simp [eAcl, zAcl, Value.oneCell'])
    repeat' ((fail_if_success with_reducible show Hid _); (first | (at_builtin; refine app2w (by rfl) _ _ _ (by rfl) 67 iA _ 2 40 ty25 hiA hA0 hA1 hA2 (by rfl) (by decide) (by decide) w3.heap.size _ (.slice (some ⟨w3.heap.size, 0, none⟩) 0 0) r.vAcls 0 r.acls.length [] (fl eAcl r.acls) (by rfl) own0 (al1 w3 _).size (by rfl) r0.out o1 (by omega) lb ?_; intro v4 w4 own4 bel4 hq4; clear hq4) | (at_builtin; refine app1w (by rfl) _ _ _ (by rfl) 67 iA _ 2 40 ty25 hiA hA0 hA1 hA2 (by rfl) (by decide) (by decide) w3.heap.size w3 w4 v4 (0 + r.acls.length) ([] ++ fl eAcl r.acls) (eAcl zAcl) (by rfl) own4 ((al1 w3 _).trans bel4) ((al1 w3 _).trans bel4).size (by rfl) (by rfl) oz (by omega) ?_; intro v5 w5 own5 bel5 s5 hq5; clear hq5; obtain ⟨a5, l5, p5, rfl⟩ := own_slice' own5; have c5 : w5.cell? ⟨g, 5, none⟩ = some r.vAcls := box_at (blk_keep K3.out bel5) GX5.out; have f5 := blk_frozen (blk_keep K3.out bel5) 5) | ((with_reducible show Oper.wp _ ⟨_, .load 41 _, _, _, _, _⟩ _ _ _ _); refine stopHere ?_) | go_skip | go_guarded | go_step | go_upon))
    refine hid ?_
    obtain ⟨w7, hw7⟩ : ∃ v, v = w5.setCell ⟨g, 5, none⟩ (.slice a5 l5 p5) := ⟨_, rfl⟩
    rw [← hw7]
    have B7 := hid (show Below w1.heap.size w1 w7 by rw [hw7]; exact (HB3.out.trans (bel5.mono HB3.out.size)).setCell (show w1.heap.size ≤ g from hgw) _)
    have HR7 := hid (HR.out.keep (then_ HB.out B7.out))
    obtain ⟨Y, hY, hYs, hex⟩ : ∃ Y : Array Value, w7.heap[g]? = some (.cells Y 41 (0, 0)) ∧ Y.size = 25 ∧ ∃ b, Y = (eRtr b).toArray ∧ RtrIn w7 b ∧ Apart r b := ⟨_, by rw [hw7]; exact Go.heap_setCell_same _ _ _ _ _ _ (blk_keep K3.out bel5), by rw [Array.size_setIfInBounds]; exact hXs, ⟨{ r with vAcls := .slice a5 l5 p5, acls := r.acls ++ [zAcl] }, by rw [HX.out]; rfl, { HR7.out with acls := row_snoc (rows_own (by rw [hw7]; exact own_set_other own5 G3.out)) (by have := BL.out; omega), aclsN := mem_snoc HR7.out.aclsN sz0, aclsR := mem_snoc HR7.out.aclsR inNil, aclsA := mem_snoc HR7.out.aclsA (fun y hy => by cases hy) }, .inr (.inr (.inr (.inl (by simp))))⟩⟩
    obtain ⟨b, hYb, hbI, hap⟩ := hex
    have tS1 := fun wx (h : Below w7.heap.size w7 wx) => hSm wx r b (HR7.out.keep h) (hbI.keep h)
    have tS2 := fun wx (h : Below w7.heap.size w7 wx) => hSm wx b r (hbI.keep h) (HR7.out.keep h)
    rw [← HX.out, ← hYb, hap.no] at tS1
    rw [← HX.out, ← hYb, hap.symm.no] at tS2
    have L7 := fun (v : World) (h : Below w7.heap.size w7 v) => LX v (then_ B7.out h)
    have LY : ∀ v : World, Below w7.heap.size w7 v → Sem.run P (loadCellsFrom ⟨g, 0, none⟩ 0 zRouter #[]) v = .ok Y v := fun v h => ld_box P (blk_keep hY h) (by rw [ZR.out]; exact hYs)
    have G7 : Below w7.heap.size w7 w7 := Below.refl _ _
    clear hw7 hY hYs hYb hbI hap LX
    repeat' (first | (go_at_call 19; with_reducible refine (tS1 _ (by assumption)).mono ?_; rintro e w' ⟨rfl, b⟩; have b' := then_ (w := w7) (by assumption) b; clear b; try dsimp only) | (go_at_call 19; with_reducible refine (tS2 _ (by assumption)).mono ?_; rintro e w' ⟨rfl, b⟩; have b' := then_ (w := w7) (by assumption) b; clear b; try dsimp only) | (go_at_call 14; with_reducible refine (hSn _).mono ?_; rintro e w' ⟨rfl, b⟩; have b' := then_ (w := w7) (by assumption) b; clear b; try dsimp only) | go_skip | go_guarded | go_step | go_upon)
    go_ret
    exact ⟨rfl, then_ HB.out (then_ B7.out (by assumption))⟩
  by_cases k6 : kk = 6
  · subst k6
    have o1 := fl_all (f := eRMap) (l := r.maps) (fun x hx => eRMap_one (HR3.out.mapsR x hx))
    have lb : r.maps.length ≤ 10000000000 := by have := BL.out; omega
    have fr := FX4 (w3.alloc (.cells #[.string ⟨#[]⟩, .slice none 0 0] 70)) (then_ HB3.out (al1 w3 _))
    have r0 := hid (rows_keep HR3.out.maps.row (al1 w3 (.cells (eRMap zMap).toArray 70)))
    have own0 : (w3.alloc (.cells (eRMap zMap).toArray 70)).ownsRow w3.heap.size 70 2 (.slice (some ⟨w3.heap.size, 0, none⟩) 1 1) 1 (eRMap zMap) := own_new w3 (eRMap zMap) _ _ _ 1 (by rfl) (by decide) (Nat.le_refl _)
    repeat' ((fail_if_success with_reducible show Hid _); (first | (at_builtin; refine app2w (by rfl) _ _ _ (by rfl) 70 iM _ 2 40 ty24 hiM hM0 hM1 hM2 (by rfl) (by decide) (by decide) w3.heap.size _ (.slice (some ⟨w3.heap.size, 0, none⟩) 1 1) r.vMaps 1 r.maps.length (eRMap zMap) (fl eRMap r.maps) (by rfl) own0 (al1 w3 _).size (by rfl) r0.out o1 (by omega) lb ?_; intro v5 w5 own5 bel4 hq4; clear hq4; have bel5 := (al1 w3 _).trans bel4; clear bel4; obtain ⟨a5, l5, p5, rfl⟩ := own_slice' own5; have c5 : w5.cell? ⟨g, 4, none⟩ = some r.vMaps := box_at (blk_keep K3.out bel5) GX4.out; have f5 := blk_frozen (blk_keep K3.out bel5) 4) | ((with_reducible show Oper.wp _ ⟨_, .load 41 _, _, _, _, _⟩ _ _ _ _); refine stopHere ?_) | go_skip | go_guarded | go_step | go_upon))
    refine hid ?_
    obtain ⟨w7, hw7⟩ : ∃ v, v = w5.setCell ⟨g, 4, none⟩ (.slice a5 l5 p5) := ⟨_, rfl⟩
    rw [← hw7]
    have B7 := hid (show Below w1.heap.size w1 w7 by rw [hw7]; exact (HB3.out.trans (bel5.mono HB3.out.size)).setCell (show w1.heap.size ≤ g from hgw) _)
    have HR7 := hid (HR.out.keep (then_ HB.out B7.out))
    obtain ⟨Y, hY, hYs, hex⟩ : ∃ Y : Array Value, w7.heap[g]? = some (.cells Y 41 (0, 0)) ∧ Y.size = 25 ∧ ∃ b, Y = (eRtr b).toArray ∧ RtrIn w7 b ∧ Apart r b := ⟨_, by rw [hw7]; exact Go.heap_setCell_same _ _ _ _ _ _ (blk_keep K3.out bel5), by rw [Array.size_setIfInBounds]; exact hXs, ⟨{ r with vMaps := .slice a5 l5 p5, maps := [zMap] ++ r.maps }, by rw [HX.out]; rfl, { HR7.out with maps := row_cons (rows_own (by rw [hw7]; exact own_set_other own5 G3.out)) (by have := BL.out; omega), mapsN := mem_cons_ HR7.out.mapsN sz0, mapsR := mem_cons_ HR7.out.mapsR inNil }, .inr (.inr (.inl (by simp)))⟩⟩
    obtain ⟨b, hYb, hbI, hap⟩ := hex
    have tS1 := fun wx (h : Below w7.heap.size w7 wx) => hSm wx r b (HR7.out.keep h) (hbI.keep h)
    have tS2 := fun wx (h : Below w7.heap.size w7 wx) => hSm wx b r (hbI.keep h) (HR7.out.keep h)
    rw [← HX.out, ← hYb, hap.no] at tS1
    rw [← HX.out, ← hYb, hap.symm.no] at tS2
    have L7 := fun (v : World) (h : Below w7.heap.size w7 v) => LX v (then_ B7.out h)
    have LY : ∀ v : World, Below w7.heap.size w7 v → Sem.run P (loadCellsFrom ⟨g, 0, none⟩ 0 zRouter #[]) v = .ok Y v := fun v h => ld_box P (blk_keep hY h) (by rw [ZR.out]; exact hYs)
    have G7 : Below w7.heap.size w7 w7 := Below.refl _ _
    clear hw7 hY hYs hYb hbI hap LX
    repeat' (first | (go_at_call 19; with_reducible refine (tS1 _ (by assumption)).mono ?_; rintro e w' ⟨rfl, b⟩; have b' := then_ (w := w7) (by assumption) b; clear b; try dsimp only) | (go_at_call 19; with_reducible refine (tS2 _ (by assumption)).mono ?_; rintro e w' ⟨rfl, b⟩; have b' := then_ (w := w7) (by assumption) b; clear b; try dsimp only) | (go_at_call 14; with_reducible refine (hSn _).mono ?_; rintro e w' ⟨rfl, b⟩; have b' := then_ (w := w7) (by assumption) b; clear b; try dsimp only) | go_skip | go_guarded | go_step | go_upon)
    go_ret
    exact ⟨rfl, then_ HB.out (then_ B7.out (by assumption))⟩
  by_cases k7 : kk = 7
  · subst k7
    have o1 := fl_all (f := eRed) (l := r.lsr) (fun x hx => by simp [eRed, one_str, one_int, one_bool])
    have lb : r.lsr.length ≤ 10000000000 := by have := BL.out; omega
    have fr := FX11 (w3.alloc (.cells #[.int .i64 0, .int .i64 0, .int .i64 0, .string ⟨#[]⟩, .int .i64 0] 72)) (then_ HB3.out (al1 w3 _))
    have r0 := hid (rows_keep HR3.out.lsr.row (al1 w3 (.cells (eRed zRed).toArray 72)))
    have own0 : (w3.alloc (.cells (eRed zRed).toArray 72)).ownsRow w3.heap.size 72 5 (.slice (some ⟨w3.heap.size, 0, none⟩) 1 1) 1 (eRed zRed) := own_new w3 (eRed zRed) _ _ _ 1 (by rfl) (by decide) (Nat.le_refl _)
    repeat' ((fail_if_success with_reducible show Hid _); (first | (at_builtin; refine app2w (by rfl) _ _ _ (by rfl) 72 iR _ 5 48 ty29 hiR hR0 hR1 hR2 (by rfl) (by decide) (by decide) w3.heap.size _ (.slice (some ⟨w3.heap.size, 0, none⟩) 1 1) r.vLsr 1 r.lsr.length (eRed zRed) (fl eRed r.lsr) (by rfl) own0 (al1 w3 _).size (by rfl) r0.out o1 (by omega) lb ?_; intro v5 w5 own5 bel4 hq4; clear hq4; have bel5 := (al1 w3 _).trans bel4; clear bel4; obtain ⟨a5, l5, p5, rfl⟩ := own_slice' own5; have c5 : w5.cell? ⟨g, 11, none⟩ = some r.vLsr := box_at (blk_keep K3.out bel5) GX11.out; have f5 := blk_frozen (blk_keep K3.out bel5) 11) | ((with_reducible show Oper.wp _ ⟨_, .load 41 _, _, _, _, _⟩ _ _ _ _); refine stopHere ?_) | go_skip | go_guarded | go_step | go_upon))
    refine hid ?_
    obtain ⟨w7, hw7⟩ : ∃ v, v = w5.setCell ⟨g, 11, none⟩ (.slice a5 l5 p5) := ⟨_, rfl⟩
    rw [← hw7]
    have B7 := hid (show Below w1.heap.size w1 w7 by rw [hw7]; exact (HB3.out.trans (bel5.mono HB3.out.size)).setCell (show w1.heap.size ≤ g from hgw) _)
    have HR7 := hid (HR.out.keep (then_ HB.out B7.out))
    obtain ⟨Y, hY, hYs, hex⟩ : ∃ Y : Array Value, w7.heap[g]? = some (.cells Y 41 (0, 0)) ∧ Y.size = 25 ∧ ∃ b, Y = (eRtr b).toArray ∧ RtrIn w7 b ∧ Apart r b := ⟨_, by rw [hw7]; exact Go.heap_setCell_same _ _ _ _ _ _ (blk_keep K3.out bel5), by rw [Array.size_setIfInBounds]; exact hXs, ⟨{ r with vLsr := .slice a5 l5 p5, lsr := [zRed] ++ r.lsr }, by rw [HX.out]; rfl, { HR7.out with lsr := row_cons (rows_own (by rw [hw7]; exact own_set_other own5 G3.out)) (by have := BL.out; omega) }, .inr (.inr (.inr (.inr (.inr (.inl (by simp))))))⟩⟩
    obtain ⟨b, hYb, hbI, hap⟩ := hex
    have tS1 := fun wx (h : Below w7.heap.size w7 wx) => hSm wx r b (HR7.out.keep h) (hbI.keep h)
    have tS2 := fun wx (h : Below w7.heap.size w7 wx) => hSm wx b r (hbI.keep h) (HR7.out.keep h)
    rw [← HX.out, ← hYb, hap.no] at tS1
    rw [← HX.out, ← hYb, hap.symm.no] at tS2
    have L7 := fun (v : World) (h : Below w7.heap.size w7 v) => LX v (then_ B7.out h)
    have LY : ∀ v : World, Below w7.heap.size w7 v → Sem.run P (loadCellsFrom ⟨g, 0, none⟩ 0 zRouter #[]) v = .ok Y v := fun v h => ld_box P (blk_keep hY h) (by rw [ZR.out]; exact hYs)
    have G7 : Below w7.heap.size w7 w7 := Below.refl _ _
    clear hw7 hY hYs hYb hbI hap LX
    repeat' (first | (go_at_call 19; with_reducible refine (tS1 _ (by assumption)).mono ?_; rintro e w' ⟨rfl, b⟩; have b' := then_ (w := w7) (by assumption) b; clear b; try dsimp only) | (go_at_call 19; with_reducible refine (tS2 _ (by assumption)).mono ?_; rintro e w' ⟨rfl, b⟩; have b' := then_ (w := w7) (by assumption) b; clear b; try dsimp only) | (go_at_call 14; with_reducible refine (hSn _).mono ?_; rintro e w' ⟨rfl, b⟩; have b' := then_ (w := w7) (by assumption) b; clear b; try dsimp only) | go_skip | go_guarded | go_step | go_upon)
    go_ret
    exact ⟨rfl, then_ HB.out (then_ B7.out (by assumption))⟩
  have e0 : (kk == 0) = false := by simpa using k0
  have e1 : (kk == 1) = false := by simpa using k1
  have e2 : (kk == 2) = false := by simpa using k2
  have e3 : (kk == 3) = false := by simpa using k3
  have e4 : (kk == 4) = false := by simpa using k4
  have e5 : (kk == 5) = false := by simpa using k5
  have e6 : (kk == 6) = false := by simpa using k6
  have e7 : (kk == 7) = false := by simpa using k7
  repeat' ((fail_if_success with_reducible show Hid _); (first | ((with_reducible show Oper.wp _ ⟨_, .load 41 _, _, _, _, _⟩ _ _ _ _); refine stopHere ?_) | go_skip | go_guarded | go_step | go_upon))
  (try simp only [Exit.inBlock, Exit.then]); refine bodyPost_ret (results_tmp (by rfl) _ _ _) (by rfl) ?_
  exact ⟨rfl, then_ HB.out HB3.out⟩
end Go.Proofs.YtmffbdohcnebdaaGreat.Mw
