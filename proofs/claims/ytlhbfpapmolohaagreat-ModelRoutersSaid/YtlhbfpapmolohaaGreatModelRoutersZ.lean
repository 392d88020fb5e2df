/-
  ModelRoutersZ: ModelRoutersW, ModOp, ModelRoutersL, joined.
-/
import Derived.Test.YtlhbfpapmolohaaGreatModSl
import Derived.Test.YtlhbfpapmolohaaGreatModSn
import Derived.Test.YtlhbfpapmolohaaGreatModRz
import Derived.Test.YtlhbfpapmolohaaGreatModK
import Derived.Test.YtlhbfpapmolohaaGreatRows
import Derived.Deep.SlicePairs
import Derived.ChangeArms
import Derived.ProofKit
import Derived.WalkKit
import Derived.OpenShut
import Derived.ShutString
import Derived.ChangeOld
import Derived.Below
import Derived.Lib.SmallJoins
/-
  THE WALK OF THE LAW ModelRouters.
-/
namespace Go.Proofs.YtlhbfpapmolohaaGreat.Mw
set_option linter.unusedSimpArgs false
set_option linter.unusedVariables false
open Go.RowKit Kt Mm Mp

theorem small_pv {r : Rtr} (h : smallB r = true) : PvLens r := by
  unfold smallB small0 at h
  simp at h
  unfold PvLens
  omega

set_option maxHeartbeats 8000000 in
theorem walkModelRouters (r : Rtr) (W : World) (hr : RtrIn W r) :
    Calls Tryz.prog 3 #[.agg (eRtr r).toArray] W fun e w' => e = .returned (.bool true) ∧ Below W.heap.size W w' := by
  obtain ⟨X, hX⟩ : ∃ X, X = (eRtr r).toArray := ⟨_, rfl⟩
  obtain ⟨w1, hw1⟩ : ∃ w1, W.alloc (.cells X 41) = w1 := ⟨_, rfl⟩
  have hhX : w1.heap[W.heap.size]? = some (.cells X 41 (0, 0)) := by rw [← hw1, heap_new]
  have KX : ∀ v : World, Below w1.heap.size w1 v → v.heap[W.heap.size]? = some (.cells X 41 (0, 0)) := fun v h => blk_keep hhX h
  have GX : Below w1.heap.size w1 w1 := Below.refl _ _
  have HX := hid (show Below W.heap.size W w1 by rw [← hw1]; exact new_below _ _)
  have hX' := hid hX
  try rw [← hX]
  clear hX hhX
  have hSn := fun wx => saneC wx
  have hSl := fun wx (h : Below w1.heap.size w1 wx) => smallC r wx (hr.keep (then_ HX.out h))
  have hCk := fun wx (h : Below w1.heap.size w1 wx) => checkR r wx (hr.keep (then_ HX.out h))
  have hRc := fun (hp : PvLens r) wx (h : Below w1.heap.size w1 wx) => rCheck r wx (hr.keep (then_ HX.out h)) hp
  have SP := hid (@small_pv r)
  have hXs : X.size = 25 := by rw [hX'.out]; rfl
  obtain ⟨b, hb⟩ : ∃ b, b = smallB r := ⟨_, rfl⟩
  obtain ⟨e, he⟩ : ∃ e, e = rtrE r := ⟨_, rfl⟩
  rw [← hX'.out] at hSl hCk hRc
  rw [← hb] at hSl SP
  rw [← he] at hCk hRc
  clear hb he
  obtain ⟨P, hP⟩ : ∃ P, P = Tryz.prog := ⟨_, rfl⟩
  have HP := hid hP
  have mixed : P.follows .mixedOrders = true := by rw [hP]; kernel_rfl
  have FG : P.funcs[3]? = some Tryz.f3 := by rw [hP]; exact Tryz.func3
  obtain ⟨zRouter, hzRouter⟩ : ∃ z, z = 25 := ⟨_, rfl⟩
  have nzRouter : ¬ zRouter = 0 := by omega
  have ty4 := Tryz.underlying4; have ag4 := Tryz.isAgg4; have sz4 := Tryz.sizeOf4; have ru4 := Tryz.runUnderlying4
  have ty41 := Tryz.underlying41; have ag41 := Tryz.isAgg41; have sz41 := Tryz.sizeOf41; have ru41 := Tryz.runUnderlying41
  rw [← hzRouter] at sz41
  have ty43 := Tryz.underlying43; have ag43 := Tryz.isAgg43; have sz43 := Tryz.sizeOf43; have ru43 := Tryz.runUnderlying43
  have en0 : ∀ args w, (callFunc 8 args).run Tryz.prog w = .ok (.enter 8 args) w := enters_of Tryz.func8 (by kernel_rfl) rfl
  have en1 : ∀ args w, (callFunc 7 args).run Tryz.prog w = .ok (.enter 7 args) w := enters_of Tryz.func7 (by kernel_rfl) rfl
  have en2 : ∀ args w, (callFunc 10 args).run Tryz.prog w = .ok (.enter 10 args) w := enters_of Tryz.func10 (by kernel_rfl) rfl
  have en3 : ∀ args w, (callFunc 9 args).run Tryz.prog w = .ok (.enter 9 args) w := enters_of Tryz.func9 (by kernel_rfl) rfl
  rw [← hP] at ty4 ag4 sz4 ru4 ty41 ag41 sz41 ru41 ty43 ag43 sz43 ru43 en0 en1 en2 en3 hSn hSl hCk hRc ⊢
  clear hP
  have LX : ∀ v : World, Below w1.heap.size w1 v → Sem.run P (loadCellsFrom ⟨W.heap.size, 0, none⟩ 0 zRouter #[]) v = .ok X v := fun v h => ld_box P (KX v h) (by rw [hzRouter]; exact hXs)
  clear KX hXs hzRouter hr
  have uLX := fun u : Later w1.heap.size w1 => LX u.w u.h
  cases b
  case false =>
    clear hRc
    go_enter FG, Tryz.ntmps3
    repeat' (first | go_skip | go_guarded | go_step | go_upon)
    refine wp_region_base w1 (by assumption) (by first | assumption | kernel_rfl) (by kernel_rfl) ?_
    repeat (go_big_quiet_step (first | (go_at_call 7; with_reducible exact later_of (Nat.le_refl _) (hSl _ (Later.h _)))))
    refine wpQuiet_nil ?_
    rintro _ ⟨u, rfl⟩
    have bu := u.h
    repeat' (first | go_skip | go_guarded | go_step | go_upon)
    go_ret
    exact ⟨rfl, then_ HX.out bu⟩
  case true =>
    have hRc := hRc (SP.out rfl)
    go_enter FG, Tryz.ntmps3
    repeat' (first | go_skip | go_guarded | go_step | go_upon)
    refine wp_region_base w1 (by assumption) (by first | assumption | kernel_rfl) (by kernel_rfl) ?_
    repeat (go_big_quiet_step (first | (go_at_call 7; with_reducible exact later_of (Nat.le_refl _) (hSl _ (Later.h _))) | (go_at_call 8; with_reducible exact later_of (Nat.le_refl _) (hCk _ (Later.h _))) | (go_at_call 9; with_reducible exact later_of (Nat.le_refl _) (hRc _ (Later.h _))) | (go_at_call 10; with_reducible exact later_of (Nat.le_refl _) (hSn _))))
    refine wpQuiet_nil ?_
    rintro _ ⟨u, rfl⟩
    have bu := u.h
    repeat' (first | go_skip | go_guarded | go_step | go_upon)
    go_ret
    exact ⟨rfl, then_ HX.out bu⟩
end Go.Proofs.YtlhbfpapmolohaaGreat.Mw

/-
  ROUTERS AND NETWORKS IN OLD MEMORY, AS A ROW's DATUM READS THEM.
-/
namespace Go.Proofs.YtlhbfpapmolohaaGreat.Mo
set_option linter.unusedSimpArgs false
set_option linter.unusedVariables false
open Go.RowKit Go.WideShapes Mp Mm

def eWild (x : Wild) : List Value := [.int .u32 (x.addr : Int), .int .u32 (x.mask : Int)]
def ePorts (x : Ports) : List Value := [.int .i64 x.lo, .int .i64 x.hi]
def E0 : ByteArray := ⟨#[]⟩
def V0 : Value := .bool false
def R0 : Rtr := ⟨E0, 0, V0, [], V0, [], V0, [], V0, [], V0, [], V0, [], false, 0, V0, [], V0, [], false, 0, E0, E0, V0, [], false, 0, 0, V0, [], V0, [], V0, [], V0, [], V0, []⟩
theorem u32_nat {m : Int} (h : (Lit.int .u32 m).wf = true) : ∃ k : Nat, m = k ∧ low k := by
  have h' : 0 ≤ m ∧ m ≤ 4294967295 := by
    simp [Lit.wf, IntKind.min, IntKind.max, IntKind.signed, IntKind.bits] at h
    omega
  exact ⟨m.toNat, by omega, by unfold low; omega⟩
theorem stp {cs p : List Value} {o k : Nat} (o' : Nat) (h : (cs.drop o).take k = p) (e : o' = o + k) : cs.drop o = p ++ cs.drop o' := by
  rw [← h, e, ← List.drop_drop, List.take_append_drop]
theorem fin {cs : List Value} {n : Nat} (h : cs.length = n) : cs.drop n = [] := List.drop_eq_nil_of_le (by omega)

section
variable {H : Type} {enc : TypeId × Value → H} {W : World} {base : Nat} {spare : Nat → Bool} {held : Bool} {n : Nat} {t : TypeId} {cs : List Value} {xs : List (DataW H × List MemPlace)} {i : Nat}
theorem oSome (h : DataW.trod enc Tryz.prog W base spare held n t cs = xs[i]?) (hi : i < xs.length) : ∃ x, DataW.trod enc Tryz.prog W base spare held n t cs = some x := ⟨_, h.trans (List.getElem?_eq_getElem hi)⟩
theorem oInt {k : IntKind} (ht : Tryz.prog.underlying t = some (.int k)) (h : DataW.trod enc Tryz.prog W base spare held n t cs = xs[i]?) (hi : i < xs.length) : ∃ m, cs = [.int k m] ∧ (Lit.int k m).wf = true := by
  obtain ⟨x, hx⟩ := oSome h hi
  obtain ⟨m, h1, _, h2⟩ := DataW.trod_int ht hx
  exact ⟨m, h1, h2⟩
theorem oU32 (ht : Tryz.prog.underlying t = some (.int .u32)) (h : DataW.trod enc Tryz.prog W base spare held n t cs = xs[i]?) (hi : i < xs.length) : ∃ m : Nat, cs = [.int .u32 (m : Int)] ∧ low m := by
  obtain ⟨m, rfl, h2⟩ := oInt ht h hi
  obtain ⟨k, rfl, hk⟩ := u32_nat h2
  exact ⟨k, rfl, hk⟩
theorem oBool (ht : Tryz.prog.underlying t = some .bool) (h : DataW.trod enc Tryz.prog W base spare held n t cs = xs[i]?) (hi : i < xs.length) : ∃ b, cs = [.bool b] := by
  obtain ⟨x, hx⟩ := oSome h hi
  obtain ⟨m, h1, _⟩ := DataW.trod_bool ht hx
  exact ⟨m, h1⟩
theorem oStr (ht : Tryz.prog.underlying t = some .string) (h : DataW.trod enc Tryz.prog W base spare held n t cs = xs[i]?) (hi : i < xs.length) : ∃ s : ByteArray, cs = [.string s] ∧ sz s := by
  obtain ⟨x, hx⟩ := oSome h hi
  obtain ⟨m, h1, _, h2⟩ := DataW.trod_string ht hx
  exact ⟨m, h1, h2⟩
/-- A slice whose elements are some cells each. -/
theorem openedC {α : Type} {f : α → List Value} {z : Nat} {Q : α → Prop} (d : α) {e : TypeId} (hz : ∀ x, (f x).length = z) (ht : Tryz.prog.underlying t = some (.slice e)) (hc : Tryz.prog.cellsOf e = z)
    (hel : ∀ {n : Nat} {cs : List Value} {x : DataW H × List MemPlace}, DataW.trod enc Tryz.prog W base spare held n e cs = some x → ∃ p : α, cs = f p ∧ Q p)
    (h0 : DataW.trod enc Tryz.prog W base spare held n t cs = xs[i]?) (hi : i < xs.length) :
    ∃ (v : Value) (s : List α), cs = [v] ∧ InRow f z W v s ∧ ∀ y ∈ s, Q y := by
  obtain ⟨x, h⟩ := oSome h0 hi
  rcases Deep.open_slice ht h with ⟨rfl, _⟩ | ⟨ad, l, c, m, n, D, Pl, rfl, _, hl, hm, hmm, _, hx⟩
  · exact ⟨_, [], rfl, ⟨rows_nil, by simp⟩, fun y hy => by cases hy⟩
  · have hlm : l ≤ m := by rw [hmm]; split <;> omega
    have each : ∀ i, ∃ q : α, i < l → (∀ j, j < z → W.cell? (ad.add (i * z + j)) = (f q)[j]?) ∧ Q q := by
      intro i
      by_cases hi : i < l
      · obtain ⟨cs', h1, h2⟩ := hx i (by omega)
        rw [hc] at h1
        obtain ⟨p, rfl, hp⟩ := hel h2
        obtain ⟨_, _, hcell⟩ := World.cells?_some h1
        refine ⟨p, fun _ => ⟨fun j hj => ?_, hp⟩⟩
        have := hcell j hj
        rwa [Deep.add_add] at this
      · exact ⟨d, fun h => absurd h hi⟩
    obtain ⟨g, hg⟩ := Classical.axiomOfChoice each
    refine ⟨_, (List.range l).map g, rfl, ⟨n_row (n := l) ⟨by rw [fl_len hz]; simp, .inr ⟨ad, c, rfl, hl, fun j u hj => ?_⟩⟩ (by simp), ?_⟩, fun y hy => ?_⟩
    · have hjl : j < ((List.range l).map g).length * z := by rw [← fl_len hz]; exact (List.getElem?_eq_some_iff.1 hj).1
      simp at hjl
      have hz0 : 0 < z := Nat.pos_of_ne_zero fun e => by rw [e] at hjl; simp at hjl
      have hk : j / z < l := (Nat.div_lt_iff_lt_mul hz0).2 hjl
      have hje : j = j / z * z + j % z := by rw [Nat.mul_comm]; exact (Nat.div_add_mod j z).symm
      have hget : ((List.range l).map g)[j / z]? = some (g (j / z)) := by simp [hk]
      have hfg := fl_get hz ((List.range l).map g) (j / z) (g (j / z)) hget (j % z) (Nat.mod_lt _ hz0)
      have hw := (hg (j / z) hk).1 (j % z) (Nat.mod_lt _ hz0)
      rw [← hje] at hfg hw
      rw [hw, ← hfg]
      exact hj
    · have : maxLen = 9223372036854775807 := by decide
      simp; omega
    · rw [List.mem_map] at hy
      obtain ⟨k, hk, rfl⟩ := hy
      exact (hg k (List.mem_range.1 hk)).2
theorem cStr : Tryz.prog.cellsOf 9 = 1 := by kernel_rfl
theorem cInt : Tryz.prog.cellsOf 3 = 1 := by kernel_rfl
theorem cU32 : Tryz.prog.cellsOf 51 = 1 := by kernel_rfl
theorem cBool : Tryz.prog.cellsOf 4 = 1 := by kernel_rfl

theorem kc_pfx : Tryz.prog.cellsOf 56 = 2 := by kernel_rfl
theorem cS_pfx : Tryz.prog.cellsOf 35 = 1 := by kernel_rfl
theorem el_pfx {fuel : Nat} {cs : List Value} {x : DataW H × List MemPlace} (h : DataW.trod enc Tryz.prog W base spare held fuel 56 cs = some x) : ∃ p : Pfx, cs = ePfx p ∧ (low p.addr) := by
  obtain ⟨xs, k, _, _, hlen, hxl, hf⟩ := DataW.trod_struct Tryz.underlying56 h
  rw [kc_pfx] at hlen
  obtain ⟨n0, h0, w0⟩ := oU32 Tryz.underlying51 (hf 0 _ rfl) (by rw [hxl]; decide)
  have e0 : (cs.drop 0).take (Tryz.prog.cellsOf 51) = [.int .u32 (n0 : Int)] := h0
  rw [cU32] at e0
  obtain ⟨n1, h1, w1⟩ := oInt Tryz.underlying3 (hf 1 _ rfl) (by rw [hxl]; decide)
  have e1 : (cs.drop 1).take (Tryz.prog.cellsOf 3) = [.int .i64 n1] := h1
  rw [cInt] at e1
  have E : cs.drop 0 = _ := stp 1 e0 rfl
  rw [stp 2 e1 rfl, fin hlen] at E
  exact ⟨⟨n0, n1⟩, E, w0⟩
theorem kc_wild : Tryz.prog.cellsOf 122 = 2 := by kernel_rfl
theorem el_wild {fuel : Nat} {cs : List Value} {x : DataW H × List MemPlace} (h : DataW.trod enc Tryz.prog W base spare held fuel 122 cs = some x) : ∃ p : Wild, cs = eWild p ∧ (low p.addr ∧ low p.mask) := by
  obtain ⟨xs, k, _, _, hlen, hxl, hf⟩ := DataW.trod_struct Tryz.underlying122 h
  rw [kc_wild] at hlen
  obtain ⟨n0, h0, w0⟩ := oU32 Tryz.underlying51 (hf 0 _ rfl) (by rw [hxl]; decide)
  have e0 : (cs.drop 0).take (Tryz.prog.cellsOf 51) = [.int .u32 (n0 : Int)] := h0
  rw [cU32] at e0
  obtain ⟨n1, h1, w1⟩ := oU32 Tryz.underlying51 (hf 1 _ rfl) (by rw [hxl]; decide)
  have e1 : (cs.drop 1).take (Tryz.prog.cellsOf 51) = [.int .u32 (n1 : Int)] := h1
  rw [cU32] at e1
  have E : cs.drop 0 = _ := stp 1 e0 rfl
  rw [stp 2 e1 rfl, fin hlen] at E
  exact ⟨⟨n0, n1⟩, E, ⟨w0, w1⟩⟩
theorem kc_ports : Tryz.prog.cellsOf 124 = 2 := by kernel_rfl
theorem el_ports {fuel : Nat} {cs : List Value} {x : DataW H × List MemPlace} (h : DataW.trod enc Tryz.prog W base spare held fuel 124 cs = some x) : ∃ p : Ports, cs = ePorts p ∧ (True) := by
  obtain ⟨xs, k, _, _, hlen, hxl, hf⟩ := DataW.trod_struct Tryz.underlying124 h
  rw [kc_ports] at hlen
  obtain ⟨n0, h0, w0⟩ := oInt Tryz.underlying3 (hf 0 _ rfl) (by rw [hxl]; decide)
  have e0 : (cs.drop 0).take (Tryz.prog.cellsOf 3) = [.int .i64 n0] := h0
  rw [cInt] at e0
  obtain ⟨n1, h1, w1⟩ := oInt Tryz.underlying3 (hf 1 _ rfl) (by rw [hxl]; decide)
  have e1 : (cs.drop 1).take (Tryz.prog.cellsOf 3) = [.int .i64 n1] := h1
  rw [cInt] at e1
  have E : cs.drop 0 = _ := stp 1 e0 rfl
  rw [stp 2 e1 rfl, fin hlen] at E
  exact ⟨⟨n0, n1⟩, E, trivial⟩
theorem kc_ifc : Tryz.prog.cellsOf 53 = 12 := by kernel_rfl
theorem cS_ifc : Tryz.prog.cellsOf 22 = 1 := by kernel_rfl
theorem el_ifc {fuel : Nat} {cs : List Value} {x : DataW H × List MemPlace} (h : DataW.trod enc Tryz.prog W base spare held fuel 53 cs = some x) : ∃ p : Ifc, cs = eIfc p ∧ (sz p.name ∧ low p.addr) := by
  obtain ⟨xs, k, _, _, hlen, hxl, hf⟩ := DataW.trod_struct Tryz.underlying53 h
  rw [kc_ifc] at hlen
  obtain ⟨n0, h0, w0⟩ := oStr Tryz.underlying9 (hf 0 _ rfl) (by rw [hxl]; decide)
  have e0 : (cs.drop 0).take (Tryz.prog.cellsOf 9) = [.string n0] := h0
  rw [cStr] at e0
  obtain ⟨n1, h1, w1⟩ := oU32 Tryz.underlying51 (hf 1 _ rfl) (by rw [hxl]; decide)
  have e1 : (cs.drop 1).take (Tryz.prog.cellsOf 51) = [.int .u32 (n1 : Int)] := h1
  rw [cU32] at e1
  obtain ⟨n2, h2, w2⟩ := oInt Tryz.underlying3 (hf 2 _ rfl) (by rw [hxl]; decide)
  have e2 : (cs.drop 2).take (Tryz.prog.cellsOf 3) = [.int .i64 n2] := h2
  rw [cInt] at e2
  obtain ⟨n3, h3, w3⟩ := oInt Tryz.underlying3 (hf 3 _ rfl) (by rw [hxl]; decide)
  have e3 : (cs.drop 3).take (Tryz.prog.cellsOf 3) = [.int .i64 n3] := h3
  rw [cInt] at e3
  obtain ⟨n4, h4⟩ := oBool Tryz.underlying4 (hf 4 _ rfl) (by rw [hxl]; decide)
  have e4 : (cs.drop 4).take (Tryz.prog.cellsOf 4) = [.bool n4] := h4
  rw [cBool] at e4
  obtain ⟨n5, h5⟩ := oBool Tryz.underlying4 (hf 5 _ rfl) (by rw [hxl]; decide)
  have e5 : (cs.drop 5).take (Tryz.prog.cellsOf 4) = [.bool n5] := h5
  rw [cBool] at e5
  obtain ⟨n6, h6, w6⟩ := oInt Tryz.underlying3 (hf 6 _ rfl) (by rw [hxl]; decide)
  have e6 : (cs.drop 6).take (Tryz.prog.cellsOf 3) = [.int .i64 n6] := h6
  rw [cInt] at e6
  obtain ⟨n7, h7, w7⟩ := oInt Tryz.underlying3 (hf 7 _ rfl) (by rw [hxl]; decide)
  have e7 : (cs.drop 7).take (Tryz.prog.cellsOf 3) = [.int .i64 n7] := h7
  rw [cInt] at e7
  obtain ⟨n8, h8⟩ := oBool Tryz.underlying4 (hf 8 _ rfl) (by rw [hxl]; decide)
  have e8 : (cs.drop 8).take (Tryz.prog.cellsOf 4) = [.bool n8] := h8
  rw [cBool] at e8
  obtain ⟨n9, h9, w9⟩ := oStr Tryz.underlying9 (hf 9 _ rfl) (by rw [hxl]; decide)
  have e9 : (cs.drop 9).take (Tryz.prog.cellsOf 9) = [.string n9] := h9
  rw [cStr] at e9
  obtain ⟨n10, h10, w10⟩ := oStr Tryz.underlying9 (hf 10 _ rfl) (by rw [hxl]; decide)
  have e10 : (cs.drop 10).take (Tryz.prog.cellsOf 9) = [.string n10] := h10
  rw [cStr] at e10
  obtain ⟨n11, h11, w11⟩ := oInt Tryz.underlying3 (hf 11 _ rfl) (by rw [hxl]; decide)
  have e11 : (cs.drop 11).take (Tryz.prog.cellsOf 3) = [.int .i64 n11] := h11
  rw [cInt] at e11
  have E : cs.drop 0 = _ := stp 1 e0 rfl
  rw [stp 2 e1 rfl, stp 3 e2 rfl, stp 4 e3 rfl, stp 5 e4 rfl, stp 6 e5 rfl, stp 7 e6 rfl, stp 8 e7 rfl, stp 9 e8 rfl, stp 10 e9 rfl, stp 11 e10 rfl, stp 12 e11 rfl, fin hlen] at E
  exact ⟨⟨n0, n1, n2, n3, n4, n5, n6, n7, n8, n9, n10, n11⟩, E, ⟨w0, w1⟩⟩
theorem kc_prule : Tryz.prog.cellsOf 107 = 5 := by kernel_rfl
theorem cS_prule : Tryz.prog.cellsOf 62 = 1 := by kernel_rfl
theorem el_prule {fuel : Nat} {cs : List Value} {x : DataW H × List MemPlace} (h : DataW.trod enc Tryz.prog W base spare held fuel 107 cs = some x) : ∃ p : PRule, cs = ePRule p ∧ (low p.pfx.addr) := by
  obtain ⟨xs, k, _, _, hlen, hxl, hf⟩ := DataW.trod_struct Tryz.underlying107 h
  rw [kc_prule] at hlen
  obtain ⟨n0, h0⟩ := oBool Tryz.underlying4 (hf 0 _ rfl) (by rw [hxl]; decide)
  have e0 : (cs.drop 0).take (Tryz.prog.cellsOf 4) = [.bool n0] := h0
  rw [cBool] at e0
  obtain ⟨y1, g1⟩ := oSome (hf 1 _ rfl) (by rw [hxl]; decide)
  obtain ⟨n1, h1, w1⟩ := el_pfx g1
  have e1 : (cs.drop 1).take (Tryz.prog.cellsOf 56) = ePfx n1 := h1
  rw [kc_pfx] at e1
  obtain ⟨n2, h2, w2⟩ := oInt Tryz.underlying3 (hf 2 _ rfl) (by rw [hxl]; decide)
  have e2 : (cs.drop 3).take (Tryz.prog.cellsOf 3) = [.int .i64 n2] := h2
  rw [cInt] at e2
  obtain ⟨n3, h3, w3⟩ := oInt Tryz.underlying3 (hf 3 _ rfl) (by rw [hxl]; decide)
  have e3 : (cs.drop 4).take (Tryz.prog.cellsOf 3) = [.int .i64 n3] := h3
  rw [cInt] at e3
  have E : cs.drop 0 = _ := stp 1 e0 rfl
  rw [stp 3 e1 rfl, stp 4 e2 rfl, stp 5 e3 rfl, fin hlen] at E
  exact ⟨⟨n0, n1, n2, n3⟩, E, w1⟩
theorem kc_plist : Tryz.prog.cellsOf 64 = 2 := by kernel_rfl
theorem cS_plist : Tryz.prog.cellsOf 23 = 1 := by kernel_rfl
theorem el_plist {fuel : Nat} {cs : List Value} {x : DataW H × List MemPlace} (h : DataW.trod enc Tryz.prog W base spare held fuel 64 cs = some x) : ∃ p : PList, cs = ePList p ∧ (sz p.name ∧ InRow ePRule 5 W p.v p.rules ∧ ∀ y ∈ p.rules, low y.pfx.addr) := by
  obtain ⟨xs, k, _, _, hlen, hxl, hf⟩ := DataW.trod_struct Tryz.underlying64 h
  rw [kc_plist] at hlen
  obtain ⟨n0, h0, w0⟩ := oStr Tryz.underlying9 (hf 0 _ rfl) (by rw [hxl]; decide)
  have e0 : (cs.drop 0).take (Tryz.prog.cellsOf 9) = [.string n0] := h0
  rw [cStr] at e0
  obtain ⟨v1, n1, h1, r1, w1⟩ := openedC (f := ePRule) (z := 5) ⟨false, ⟨0, 0⟩, 0, 0⟩ (fun _ => rfl) Tryz.underlying62 (by kernel_rfl) el_prule (hf 1 _ rfl) (by rw [hxl]; decide)
  have e1 : (cs.drop 1).take (Tryz.prog.cellsOf 62) = [v1] := h1
  rw [cS_prule] at e1
  have E : cs.drop 0 = _ := stp 1 e0 rfl
  rw [stp 2 e1 rfl, fin hlen] at E
  exact ⟨⟨n0, v1, n1⟩, E, ⟨w0, r1, w1⟩⟩
theorem kc_cla : Tryz.prog.cellsOf 114 = 7 := by kernel_rfl
theorem cS_cla : Tryz.prog.cellsOf 65 = 1 := by kernel_rfl
theorem el_cla {fuel : Nat} {cs : List Value} {x : DataW H × List MemPlace} (h : DataW.trod enc Tryz.prog W base spare held fuel 114 cs = some x) : ∃ p : Cla, cs = eCla p ∧ (True) := by
  obtain ⟨xs, k, _, _, hlen, hxl, hf⟩ := DataW.trod_struct Tryz.underlying114 h
  rw [kc_cla] at hlen
  obtain ⟨n0, h0⟩ := oBool Tryz.underlying4 (hf 0 _ rfl) (by rw [hxl]; decide)
  have e0 : (cs.drop 0).take (Tryz.prog.cellsOf 4) = [.bool n0] := h0
  rw [cBool] at e0
  obtain ⟨n1, h1, w1⟩ := oStr Tryz.underlying9 (hf 1 _ rfl) (by rw [hxl]; decide)
  have e1 : (cs.drop 1).take (Tryz.prog.cellsOf 9) = [.string n1] := h1
  rw [cStr] at e1
  obtain ⟨n2, h2, w2⟩ := oInt Tryz.underlying3 (hf 2 _ rfl) (by rw [hxl]; decide)
  have e2 : (cs.drop 2).take (Tryz.prog.cellsOf 3) = [.int .i64 n2] := h2
  rw [cInt] at e2
  obtain ⟨n3, h3, w3⟩ := oInt Tryz.underlying3 (hf 3 _ rfl) (by rw [hxl]; decide)
  have e3 : (cs.drop 3).take (Tryz.prog.cellsOf 3) = [.int .i64 n3] := h3
  rw [cInt] at e3
  obtain ⟨n4, h4, w4⟩ := oInt Tryz.underlying3 (hf 4 _ rfl) (by rw [hxl]; decide)
  have e4 : (cs.drop 4).take (Tryz.prog.cellsOf 3) = [.int .i64 n4] := h4
  rw [cInt] at e4
  obtain ⟨n5, h5, w5⟩ := oInt Tryz.underlying3 (hf 5 _ rfl) (by rw [hxl]; decide)
  have e5 : (cs.drop 5).take (Tryz.prog.cellsOf 3) = [.int .i64 n5] := h5
  rw [cInt] at e5
  obtain ⟨n6, h6, w6⟩ := oInt Tryz.underlying3 (hf 6 _ rfl) (by rw [hxl]; decide)
  have e6 : (cs.drop 6).take (Tryz.prog.cellsOf 3) = [.int .i64 n6] := h6
  rw [cInt] at e6
  have E : cs.drop 0 = _ := stp 1 e0 rfl
  rw [stp 2 e1 rfl, stp 3 e2 rfl, stp 4 e3 rfl, stp 5 e4 rfl, stp 6 e5 rfl, stp 7 e6 rfl, fin hlen] at E
  exact ⟨⟨n0, n1, n2, n3, n4, n5, n6⟩, E, trivial⟩
theorem kc_rmap : Tryz.prog.cellsOf 67 = 2 := by kernel_rfl
theorem cS_rmap : Tryz.prog.cellsOf 24 = 1 := by kernel_rfl
theorem el_rmap {fuel : Nat} {cs : List Value} {x : DataW H × List MemPlace} (h : DataW.trod enc Tryz.prog W base spare held fuel 67 cs = some x) : ∃ p : RMap, cs = eRMap p ∧ (sz p.name ∧ InRow eCla 7 W p.v p.clauses) := by
  obtain ⟨xs, k, _, _, hlen, hxl, hf⟩ := DataW.trod_struct Tryz.underlying67 h
  rw [kc_rmap] at hlen
  obtain ⟨n0, h0, w0⟩ := oStr Tryz.underlying9 (hf 0 _ rfl) (by rw [hxl]; decide)
  have e0 : (cs.drop 0).take (Tryz.prog.cellsOf 9) = [.string n0] := h0
  rw [cStr] at e0
  obtain ⟨v1, n1, h1, r1, w1⟩ := openedC (f := eCla) (z := 7) ⟨false, E0, 0, 0, 0, 0, 0⟩ (fun _ => rfl) Tryz.underlying65 (by kernel_rfl) el_cla (hf 1 _ rfl) (by rw [hxl]; decide)
  have e1 : (cs.drop 1).take (Tryz.prog.cellsOf 65) = [v1] := h1
  rw [cS_cla] at e1
  have E : cs.drop 0 = _ := stp 1 e0 rfl
  rw [stp 2 e1 rfl, fin hlen] at E
  exact ⟨⟨n0, v1, n1⟩, E, ⟨w0, r1⟩⟩
theorem kc_rule : Tryz.prog.cellsOf 126 = 10 := by kernel_rfl
theorem cS_rule : Tryz.prog.cellsOf 68 = 1 := by kernel_rfl
theorem el_rule {fuel : Nat} {cs : List Value} {x : DataW H × List MemPlace} (h : DataW.trod enc Tryz.prog W base spare held fuel 126 cs = some x) : ∃ p : Rule, cs = eRule p ∧ (low p.src.addr ∧ low p.src.mask ∧ low p.dst.addr ∧ low p.dst.mask) := by
  obtain ⟨xs, k, _, _, hlen, hxl, hf⟩ := DataW.trod_struct Tryz.underlying126 h
  rw [kc_rule] at hlen
  obtain ⟨n0, h0⟩ := oBool Tryz.underlying4 (hf 0 _ rfl) (by rw [hxl]; decide)
  have e0 : (cs.drop 0).take (Tryz.prog.cellsOf 4) = [.bool n0] := h0
  rw [cBool] at e0
  obtain ⟨n1, h1, w1⟩ := oInt Tryz.underlying3 (hf 1 _ rfl) (by rw [hxl]; decide)
  have e1 : (cs.drop 1).take (Tryz.prog.cellsOf 3) = [.int .i64 n1] := h1
  rw [cInt] at e1
  obtain ⟨y2, g2⟩ := oSome (hf 2 _ rfl) (by rw [hxl]; decide)
  obtain ⟨n2, h2, w2⟩ := el_wild g2
  have e2 : (cs.drop 2).take (Tryz.prog.cellsOf 122) = eWild n2 := h2
  rw [kc_wild] at e2
  obtain ⟨y3, g3⟩ := oSome (hf 3 _ rfl) (by rw [hxl]; decide)
  obtain ⟨n3, h3, w3⟩ := el_wild g3
  have e3 : (cs.drop 4).take (Tryz.prog.cellsOf 122) = eWild n3 := h3
  rw [kc_wild] at e3
  obtain ⟨y4, g4⟩ := oSome (hf 4 _ rfl) (by rw [hxl]; decide)
  obtain ⟨n4, h4, w4⟩ := el_ports g4
  have e4 : (cs.drop 6).take (Tryz.prog.cellsOf 124) = ePorts n4 := h4
  rw [kc_ports] at e4
  obtain ⟨y5, g5⟩ := oSome (hf 5 _ rfl) (by rw [hxl]; decide)
  obtain ⟨n5, h5, w5⟩ := el_ports g5
  have e5 : (cs.drop 8).take (Tryz.prog.cellsOf 124) = ePorts n5 := h5
  rw [kc_ports] at e5
  have E : cs.drop 0 = _ := stp 1 e0 rfl
  rw [stp 2 e1 rfl, stp 4 e2 rfl, stp 6 e3 rfl, stp 8 e4 rfl, stp 10 e5 rfl, fin hlen] at E
  exact ⟨⟨n0, n1, n2, n3, n4, n5⟩, E, ⟨w2.1, w2.2, w3.1, w3.2⟩⟩
theorem kc_acl : Tryz.prog.cellsOf 70 = 2 := by kernel_rfl
theorem cS_acl : Tryz.prog.cellsOf 25 = 1 := by kernel_rfl
theorem el_acl {fuel : Nat} {cs : List Value} {x : DataW H × List MemPlace} (h : DataW.trod enc Tryz.prog W base spare held fuel 70 cs = some x) : ∃ p : Acl, cs = eAcl p ∧ (sz p.name ∧ InRow eRule 10 W p.v p.rules ∧ ∀ y ∈ p.rules, low y.src.addr ∧ low y.src.mask ∧ low y.dst.addr ∧ low y.dst.mask) := by
  obtain ⟨xs, k, _, _, hlen, hxl, hf⟩ := DataW.trod_struct Tryz.underlying70 h
  rw [kc_acl] at hlen
  obtain ⟨n0, h0, w0⟩ := oStr Tryz.underlying9 (hf 0 _ rfl) (by rw [hxl]; decide)
  have e0 : (cs.drop 0).take (Tryz.prog.cellsOf 9) = [.string n0] := h0
  rw [cStr] at e0
  obtain ⟨v1, n1, h1, r1, w1⟩ := openedC (f := eRule) (z := 10) ⟨false, 0, ⟨0, 0⟩, ⟨0, 0⟩, ⟨0, 0⟩, ⟨0, 0⟩⟩ (fun _ => rfl) Tryz.underlying68 (by kernel_rfl) el_rule (hf 1 _ rfl) (by rw [hxl]; decide)
  have e1 : (cs.drop 1).take (Tryz.prog.cellsOf 68) = [v1] := h1
  rw [cS_rule] at e1
  have E : cs.drop 0 = _ := stp 1 e0 rfl
  rw [stp 2 e1 rfl, fin hlen] at E
  exact ⟨⟨n0, v1, n1⟩, E, ⟨w0, r1, w1⟩⟩
theorem kc_tran : Tryz.prog.cellsOf 85 = 9 := by kernel_rfl
theorem cS_tran : Tryz.prog.cellsOf 26 = 1 := by kernel_rfl
theorem el_tran {fuel : Nat} {cs : List Value} {x : DataW H × List MemPlace} (h : DataW.trod enc Tryz.prog W base spare held fuel 85 cs = some x) : ∃ p : Tran, cs = eTran p ∧ (low p.ins ∧ low p.outs ∧ low p.lo ∧ low p.hi) := by
  obtain ⟨xs, k, _, _, hlen, hxl, hf⟩ := DataW.trod_struct Tryz.underlying85 h
  rw [kc_tran] at hlen
  obtain ⟨n0, h0, w0⟩ := oInt Tryz.underlying3 (hf 0 _ rfl) (by rw [hxl]; decide)
  have e0 : (cs.drop 0).take (Tryz.prog.cellsOf 3) = [.int .i64 n0] := h0
  rw [cInt] at e0
  obtain ⟨n1, h1, w1⟩ := oU32 Tryz.underlying51 (hf 1 _ rfl) (by rw [hxl]; decide)
  have e1 : (cs.drop 1).take (Tryz.prog.cellsOf 51) = [.int .u32 (n1 : Int)] := h1
  rw [cU32] at e1
  obtain ⟨n2, h2, w2⟩ := oU32 Tryz.underlying51 (hf 2 _ rfl) (by rw [hxl]; decide)
  have e2 : (cs.drop 2).take (Tryz.prog.cellsOf 51) = [.int .u32 (n2 : Int)] := h2
  rw [cU32] at e2
  obtain ⟨n3, h3, w3⟩ := oInt Tryz.underlying3 (hf 3 _ rfl) (by rw [hxl]; decide)
  have e3 : (cs.drop 3).take (Tryz.prog.cellsOf 3) = [.int .i64 n3] := h3
  rw [cInt] at e3
  obtain ⟨n4, h4, w4⟩ := oInt Tryz.underlying3 (hf 4 _ rfl) (by rw [hxl]; decide)
  have e4 : (cs.drop 4).take (Tryz.prog.cellsOf 3) = [.int .i64 n4] := h4
  rw [cInt] at e4
  obtain ⟨n5, h5, w5⟩ := oInt Tryz.underlying3 (hf 5 _ rfl) (by rw [hxl]; decide)
  have e5 : (cs.drop 5).take (Tryz.prog.cellsOf 3) = [.int .i64 n5] := h5
  rw [cInt] at e5
  obtain ⟨n6, h6, w6⟩ := oStr Tryz.underlying9 (hf 6 _ rfl) (by rw [hxl]; decide)
  have e6 : (cs.drop 6).take (Tryz.prog.cellsOf 9) = [.string n6] := h6
  rw [cStr] at e6
  obtain ⟨n7, h7, w7⟩ := oU32 Tryz.underlying51 (hf 7 _ rfl) (by rw [hxl]; decide)
  have e7 : (cs.drop 7).take (Tryz.prog.cellsOf 51) = [.int .u32 (n7 : Int)] := h7
  rw [cU32] at e7
  obtain ⟨n8, h8, w8⟩ := oU32 Tryz.underlying51 (hf 8 _ rfl) (by rw [hxl]; decide)
  have e8 : (cs.drop 8).take (Tryz.prog.cellsOf 51) = [.int .u32 (n8 : Int)] := h8
  rw [cU32] at e8
  have E : cs.drop 0 = _ := stp 1 e0 rfl
  rw [stp 2 e1 rfl, stp 3 e2 rfl, stp 4 e3 rfl, stp 5 e4 rfl, stp 6 e5 rfl, stp 7 e6 rfl, stp 8 e7 rfl, stp 9 e8 rfl, fin hlen] at E
  exact ⟨⟨n0, n1, n2, n3, n4, n5, n6, n7, n8⟩, E, ⟨w1, w2, w7, w8⟩⟩
theorem kc_stc : Tryz.prog.cellsOf 58 = 7 := by kernel_rfl
theorem cS_stc : Tryz.prog.cellsOf 27 = 1 := by kernel_rfl
theorem el_stc {fuel : Nat} {cs : List Value} {x : DataW H × List MemPlace} (h : DataW.trod enc Tryz.prog W base spare held fuel 58 cs = some x) : ∃ p : Stc, cs = eStc p ∧ (low p.pfx.addr ∧ low p.next) := by
  obtain ⟨xs, k, _, _, hlen, hxl, hf⟩ := DataW.trod_struct Tryz.underlying58 h
  rw [kc_stc] at hlen
  obtain ⟨y0, g0⟩ := oSome (hf 0 _ rfl) (by rw [hxl]; decide)
  obtain ⟨n0, h0, w0⟩ := el_pfx g0
  have e0 : (cs.drop 0).take (Tryz.prog.cellsOf 56) = ePfx n0 := h0
  rw [kc_pfx] at e0
  obtain ⟨n1, h1, w1⟩ := oU32 Tryz.underlying51 (hf 1 _ rfl) (by rw [hxl]; decide)
  have e1 : (cs.drop 2).take (Tryz.prog.cellsOf 51) = [.int .u32 (n1 : Int)] := h1
  rw [cU32] at e1
  obtain ⟨n2, h2, w2⟩ := oStr Tryz.underlying9 (hf 2 _ rfl) (by rw [hxl]; decide)
  have e2 : (cs.drop 3).take (Tryz.prog.cellsOf 9) = [.string n2] := h2
  rw [cStr] at e2
  obtain ⟨n3, h3⟩ := oBool Tryz.underlying4 (hf 3 _ rfl) (by rw [hxl]; decide)
  have e3 : (cs.drop 4).take (Tryz.prog.cellsOf 4) = [.bool n3] := h3
  rw [cBool] at e3
  obtain ⟨n4, h4, w4⟩ := oInt Tryz.underlying3 (hf 4 _ rfl) (by rw [hxl]; decide)
  have e4 : (cs.drop 5).take (Tryz.prog.cellsOf 3) = [.int .i64 n4] := h4
  rw [cInt] at e4
  obtain ⟨n5, h5, w5⟩ := oInt Tryz.underlying3 (hf 5 _ rfl) (by rw [hxl]; decide)
  have e5 : (cs.drop 6).take (Tryz.prog.cellsOf 3) = [.int .i64 n5] := h5
  rw [cInt] at e5
  have E : cs.drop 0 = _ := stp 2 e0 rfl
  rw [stp 3 e1 rfl, stp 4 e2 rfl, stp 5 e3 rfl, stp 6 e4 rfl, stp 7 e5 rfl, fin hlen] at E
  exact ⟨⟨n0, n1, n2, n3, n4, n5⟩, E, ⟨w0, w1⟩⟩
theorem kc_red : Tryz.prog.cellsOf 154 = 5 := by kernel_rfl
theorem cS_red : Tryz.prog.cellsOf 29 = 1 := by kernel_rfl
theorem el_red {fuel : Nat} {cs : List Value} {x : DataW H × List MemPlace} (h : DataW.trod enc Tryz.prog W base spare held fuel 154 cs = some x) : ∃ p : Red, cs = eRed p ∧ (True) := by
  obtain ⟨xs, k, _, _, hlen, hxl, hf⟩ := DataW.trod_struct Tryz.underlying154 h
  rw [kc_red] at hlen
  obtain ⟨n0, h0, w0⟩ := oInt Tryz.underlying3 (hf 0 _ rfl) (by rw [hxl]; decide)
  have e0 : (cs.drop 0).take (Tryz.prog.cellsOf 3) = [.int .i64 n0] := h0
  rw [cInt] at e0
  obtain ⟨n1, h1, w1⟩ := oInt Tryz.underlying3 (hf 1 _ rfl) (by rw [hxl]; decide)
  have e1 : (cs.drop 1).take (Tryz.prog.cellsOf 3) = [.int .i64 n1] := h1
  rw [cInt] at e1
  obtain ⟨n2, h2, w2⟩ := oInt Tryz.underlying3 (hf 2 _ rfl) (by rw [hxl]; decide)
  have e2 : (cs.drop 2).take (Tryz.prog.cellsOf 3) = [.int .i64 n2] := h2
  rw [cInt] at e2
  obtain ⟨n3, h3, w3⟩ := oStr Tryz.underlying9 (hf 3 _ rfl) (by rw [hxl]; decide)
  have e3 : (cs.drop 3).take (Tryz.prog.cellsOf 9) = [.string n3] := h3
  rw [cStr] at e3
  obtain ⟨n4, h4, w4⟩ := oInt Tryz.underlying3 (hf 4 _ rfl) (by rw [hxl]; decide)
  have e4 : (cs.drop 4).take (Tryz.prog.cellsOf 3) = [.int .i64 n4] := h4
  rw [cInt] at e4
  have E : cs.drop 0 = _ := stp 1 e0 rfl
  rw [stp 2 e1 rfl, stp 3 e2 rfl, stp 4 e3 rfl, stp 5 e4 rfl, fin hlen] at E
  exact ⟨⟨n0, n1, n2, n3, n4⟩, E, trivial⟩
theorem kc_rng : Tryz.prog.cellsOf 150 = 3 := by kernel_rfl
theorem cS_rng : Tryz.prog.cellsOf 28 = 1 := by kernel_rfl
theorem el_rng {fuel : Nat} {cs : List Value} {x : DataW H × List MemPlace} (h : DataW.trod enc Tryz.prog W base spare held fuel 150 cs = some x) : ∃ p : Rng, cs = eRng p ∧ (low p.pfx.addr) := by
  obtain ⟨xs, k, _, _, hlen, hxl, hf⟩ := DataW.trod_struct Tryz.underlying150 h
  rw [kc_rng] at hlen
  obtain ⟨n0, h0, w0⟩ := oInt Tryz.underlying3 (hf 0 _ rfl) (by rw [hxl]; decide)
  have e0 : (cs.drop 0).take (Tryz.prog.cellsOf 3) = [.int .i64 n0] := h0
  rw [cInt] at e0
  obtain ⟨y1, g1⟩ := oSome (hf 1 _ rfl) (by rw [hxl]; decide)
  obtain ⟨n1, h1, w1⟩ := el_pfx g1
  have e1 : (cs.drop 1).take (Tryz.prog.cellsOf 56) = ePfx n1 := h1
  rw [kc_pfx] at e1
  have E : cs.drop 0 = _ := stp 1 e0 rfl
  rw [stp 3 e1 rfl, fin hlen] at E
  exact ⟨⟨n0, n1⟩, E, w1⟩
theorem kc_nbr : Tryz.prog.cellsOf 156 = 4 := by kernel_rfl
theorem cS_nbr : Tryz.prog.cellsOf 34 = 1 := by kernel_rfl
theorem el_nbr {fuel : Nat} {cs : List Value} {x : DataW H × List MemPlace} (h : DataW.trod enc Tryz.prog W base spare held fuel 156 cs = some x) : ∃ p : Nbr, cs = eNbr p ∧ (low p.addr) := by
  obtain ⟨xs, k, _, _, hlen, hxl, hf⟩ := DataW.trod_struct Tryz.underlying156 h
  rw [kc_nbr] at hlen
  obtain ⟨n0, h0, w0⟩ := oU32 Tryz.underlying51 (hf 0 _ rfl) (by rw [hxl]; decide)
  have e0 : (cs.drop 0).take (Tryz.prog.cellsOf 51) = [.int .u32 (n0 : Int)] := h0
  rw [cU32] at e0
  obtain ⟨n1, h1, w1⟩ := oInt Tryz.underlying3 (hf 1 _ rfl) (by rw [hxl]; decide)
  have e1 : (cs.drop 1).take (Tryz.prog.cellsOf 3) = [.int .i64 n1] := h1
  rw [cInt] at e1
  obtain ⟨n2, h2, w2⟩ := oStr Tryz.underlying9 (hf 2 _ rfl) (by rw [hxl]; decide)
  have e2 : (cs.drop 2).take (Tryz.prog.cellsOf 9) = [.string n2] := h2
  rw [cStr] at e2
  obtain ⟨n3, h3, w3⟩ := oStr Tryz.underlying9 (hf 3 _ rfl) (by rw [hxl]; decide)
  have e3 : (cs.drop 3).take (Tryz.prog.cellsOf 9) = [.string n3] := h3
  rw [cStr] at e3
  have E : cs.drop 0 = _ := stp 1 e0 rfl
  rw [stp 2 e1 rfl, stp 3 e2 rfl, stp 4 e3 rfl, fin hlen] at E
  exact ⟨⟨n0, n1, n2, n3⟩, E, w0⟩
theorem kc_aggr : Tryz.prog.cellsOf 163 = 3 := by kernel_rfl
theorem cS_aggr : Tryz.prog.cellsOf 36 = 1 := by kernel_rfl
theorem el_aggr {fuel : Nat} {cs : List Value} {x : DataW H × List MemPlace} (h : DataW.trod enc Tryz.prog W base spare held fuel 163 cs = some x) : ∃ p : Aggr, cs = eAggr p ∧ (low p.pfx.addr) := by
  obtain ⟨xs, k, _, _, hlen, hxl, hf⟩ := DataW.trod_struct Tryz.underlying163 h
  rw [kc_aggr] at hlen
  obtain ⟨y0, g0⟩ := oSome (hf 0 _ rfl) (by rw [hxl]; decide)
  obtain ⟨n0, h0, w0⟩ := el_pfx g0
  have e0 : (cs.drop 0).take (Tryz.prog.cellsOf 56) = ePfx n0 := h0
  rw [kc_pfx] at e0
  obtain ⟨n1, h1⟩ := oBool Tryz.underlying4 (hf 1 _ rfl) (by rw [hxl]; decide)
  have e1 : (cs.drop 2).take (Tryz.prog.cellsOf 4) = [.bool n1] := h1
  rw [cBool] at e1
  have E : cs.drop 0 = _ := stp 2 e0 rfl
  rw [stp 3 e1 rfl, fin hlen] at E
  exact ⟨⟨n0, n1⟩, E, w0⟩
theorem kc_cnd : Tryz.prog.cellsOf 165 = 5 := by kernel_rfl
theorem cS_cnd : Tryz.prog.cellsOf 37 = 1 := by kernel_rfl
theorem el_cnd {fuel : Nat} {cs : List Value} {x : DataW H × List MemPlace} (h : DataW.trod enc Tryz.prog W base spare held fuel 165 cs = some x) : ∃ p : Cnd, cs = eCnd p ∧ (low p.pfx.addr ∧ low p.iff.addr) := by
  obtain ⟨xs, k, _, _, hlen, hxl, hf⟩ := DataW.trod_struct Tryz.underlying165 h
  rw [kc_cnd] at hlen
  obtain ⟨y0, g0⟩ := oSome (hf 0 _ rfl) (by rw [hxl]; decide)
  obtain ⟨n0, h0, w0⟩ := el_pfx g0
  have e0 : (cs.drop 0).take (Tryz.prog.cellsOf 56) = ePfx n0 := h0
  rw [kc_pfx] at e0
  obtain ⟨y1, g1⟩ := oSome (hf 1 _ rfl) (by rw [hxl]; decide)
  obtain ⟨n1, h1, w1⟩ := el_pfx g1
  have e1 : (cs.drop 2).take (Tryz.prog.cellsOf 56) = ePfx n1 := h1
  rw [kc_pfx] at e1
  obtain ⟨n2, h2⟩ := oBool Tryz.underlying4 (hf 2 _ rfl) (by rw [hxl]; decide)
  have e2 : (cs.drop 4).take (Tryz.prog.cellsOf 4) = [.bool n2] := h2
  rw [cBool] at e2
  have E : cs.drop 0 = _ := stp 2 e0 rfl
  rw [stp 4 e1 rfl, stp 5 e2 rfl, fin hlen] at E
  exact ⟨⟨n0, n1, n2⟩, E, ⟨w0, w1⟩⟩
theorem kc_ls : Tryz.prog.cellsOf 31 = 4 := by kernel_rfl
theorem el_ls {fuel : Nat} {cs : List Value} {x : DataW H × List MemPlace} (h : DataW.trod enc Tryz.prog W base spare held fuel 31 cs = some x) : ∃ (n0 : Bool) (n1 : Int) (v2 : Value) (n2 : List Rng) (v3 : Value) (n3 : List Red), cs = [.bool n0, .int .i64 n1, v2, v3] ∧ InRow eRng 3 W v2 n2 ∧ (∀ x ∈ n2, low x.pfx.addr) ∧ InRow eRed 5 W v3 n3 := by
  obtain ⟨xs, k, _, _, hlen, hxl, hf⟩ := DataW.trod_struct Tryz.underlying31 h
  rw [kc_ls] at hlen
  obtain ⟨n0, h0⟩ := oBool Tryz.underlying4 (hf 0 _ rfl) (by rw [hxl]; decide)
  have e0 : (cs.drop 0).take (Tryz.prog.cellsOf 4) = [.bool n0] := h0
  rw [cBool] at e0
  obtain ⟨n1, h1, w1⟩ := oInt Tryz.underlying3 (hf 1 _ rfl) (by rw [hxl]; decide)
  have e1 : (cs.drop 1).take (Tryz.prog.cellsOf 3) = [.int .i64 n1] := h1
  rw [cInt] at e1
  obtain ⟨v2, n2, h2, r2, w2⟩ := openedC (f := eRng) (z := 3) ⟨0, ⟨0, 0⟩⟩ (fun _ => rfl) Tryz.underlying28 (by kernel_rfl) el_rng (hf 2 _ rfl) (by rw [hxl]; decide)
  have e2 : (cs.drop 2).take (Tryz.prog.cellsOf 28) = [v2] := h2
  rw [cS_rng] at e2
  obtain ⟨v3, n3, h3, r3, w3⟩ := openedC (f := eRed) (z := 5) ⟨0, 0, 0, E0, 0⟩ (fun _ => rfl) Tryz.underlying29 (by kernel_rfl) el_red (hf 3 _ rfl) (by rw [hxl]; decide)
  have e3 : (cs.drop 3).take (Tryz.prog.cellsOf 29) = [v3] := h3
  rw [cS_red] at e3
  have E : cs.drop 0 = _ := stp 1 e0 rfl
  rw [stp 2 e1 rfl, stp 3 e2 rfl, stp 4 e3 rfl, fin hlen] at E
  exact ⟨_, _, _, _, _, _, E, r2, w2, r3⟩
theorem kc_dv : Tryz.prog.cellsOf 33 = 5 := by kernel_rfl
theorem el_dv {fuel : Nat} {cs : List Value} {x : DataW H × List MemPlace} (h : DataW.trod enc Tryz.prog W base spare held fuel 33 cs = some x) : ∃ (n0 : Bool) (n1 : Int) (n2 n3 : ByteArray) (v4 : Value) (n4 : List Red), cs = [.bool n0, .int .i64 n1, .string n2, .string n3, v4] ∧ InRow eRed 5 W v4 n4 := by
  obtain ⟨xs, k, _, _, hlen, hxl, hf⟩ := DataW.trod_struct Tryz.underlying33 h
  rw [kc_dv] at hlen
  obtain ⟨n0, h0⟩ := oBool Tryz.underlying4 (hf 0 _ rfl) (by rw [hxl]; decide)
  have e0 : (cs.drop 0).take (Tryz.prog.cellsOf 4) = [.bool n0] := h0
  rw [cBool] at e0
  obtain ⟨n1, h1, w1⟩ := oInt Tryz.underlying3 (hf 1 _ rfl) (by rw [hxl]; decide)
  have e1 : (cs.drop 1).take (Tryz.prog.cellsOf 3) = [.int .i64 n1] := h1
  rw [cInt] at e1
  obtain ⟨n2, h2, w2⟩ := oStr Tryz.underlying9 (hf 2 _ rfl) (by rw [hxl]; decide)
  have e2 : (cs.drop 2).take (Tryz.prog.cellsOf 9) = [.string n2] := h2
  rw [cStr] at e2
  obtain ⟨n3, h3, w3⟩ := oStr Tryz.underlying9 (hf 3 _ rfl) (by rw [hxl]; decide)
  have e3 : (cs.drop 3).take (Tryz.prog.cellsOf 9) = [.string n3] := h3
  rw [cStr] at e3
  obtain ⟨v4, n4, h4, r4, w4⟩ := openedC (f := eRed) (z := 5) ⟨0, 0, 0, E0, 0⟩ (fun _ => rfl) Tryz.underlying29 (by kernel_rfl) el_red (hf 4 _ rfl) (by rw [hxl]; decide)
  have e4 : (cs.drop 4).take (Tryz.prog.cellsOf 29) = [v4] := h4
  rw [cS_red] at e4
  have E : cs.drop 0 = _ := stp 1 e0 rfl
  rw [stp 2 e1 rfl, stp 3 e2 rfl, stp 4 e3 rfl, stp 5 e4 rfl, fin hlen] at E
  exact ⟨_, _, _, _, _, _, E, r4⟩
theorem kc_pv : Tryz.prog.cellsOf 39 = 8 := by kernel_rfl
theorem el_pv {fuel : Nat} {cs : List Value} {x : DataW H × List MemPlace} (h : DataW.trod enc Tryz.prog W base spare held fuel 39 cs = some x) : ∃ (n0 : Bool) (n1 n2 : Int) (v3 : Value) (n3 : List Nbr) (v4 : Value) (n4 : List Pfx) (v5 : Value) (n5 : List Aggr) (v6 : Value) (n6 : List Cnd) (v7 : Value) (n7 : List Red), cs = [.bool n0, .int .i64 n1, .int .i64 n2, v3, v4, v5, v6, v7] ∧ (InRow eNbr 4 W v3 n3 ∧ ∀ x ∈ n3, low x.addr) ∧ (InRow ePfx 2 W v4 n4 ∧ ∀ x ∈ n4, low x.addr) ∧ (InRow eAggr 3 W v5 n5 ∧ ∀ x ∈ n5, low x.pfx.addr) ∧ (InRow eCnd 5 W v6 n6 ∧ ∀ x ∈ n6, low x.pfx.addr ∧ low x.iff.addr) ∧ InRow eRed 5 W v7 n7 := by
  obtain ⟨xs, k, _, _, hlen, hxl, hf⟩ := DataW.trod_struct Tryz.underlying39 h
  rw [kc_pv] at hlen
  obtain ⟨n0, h0⟩ := oBool Tryz.underlying4 (hf 0 _ rfl) (by rw [hxl]; decide)
  have e0 : (cs.drop 0).take (Tryz.prog.cellsOf 4) = [.bool n0] := h0
  rw [cBool] at e0
  obtain ⟨n1, h1, w1⟩ := oInt Tryz.underlying3 (hf 1 _ rfl) (by rw [hxl]; decide)
  have e1 : (cs.drop 1).take (Tryz.prog.cellsOf 3) = [.int .i64 n1] := h1
  rw [cInt] at e1
  obtain ⟨n2, h2, w2⟩ := oInt Tryz.underlying3 (hf 2 _ rfl) (by rw [hxl]; decide)
  have e2 : (cs.drop 2).take (Tryz.prog.cellsOf 3) = [.int .i64 n2] := h2
  rw [cInt] at e2
  obtain ⟨v3, n3, h3, r3, w3⟩ := openedC (f := eNbr) (z := 4) ⟨0, 0, E0, E0⟩ (fun _ => rfl) Tryz.underlying34 (by kernel_rfl) el_nbr (hf 3 _ rfl) (by rw [hxl]; decide)
  have e3 : (cs.drop 3).take (Tryz.prog.cellsOf 34) = [v3] := h3
  rw [cS_nbr] at e3
  obtain ⟨v4, n4, h4, r4, w4⟩ := openedC (f := ePfx) (z := 2) ⟨0, 0⟩ (fun _ => rfl) Tryz.underlying35 (by kernel_rfl) el_pfx (hf 4 _ rfl) (by rw [hxl]; decide)
  have e4 : (cs.drop 4).take (Tryz.prog.cellsOf 35) = [v4] := h4
  rw [cS_pfx] at e4
  obtain ⟨v5, n5, h5, r5, w5⟩ := openedC (f := eAggr) (z := 3) ⟨⟨0, 0⟩, false⟩ (fun _ => rfl) Tryz.underlying36 (by kernel_rfl) el_aggr (hf 5 _ rfl) (by rw [hxl]; decide)
  have e5 : (cs.drop 5).take (Tryz.prog.cellsOf 36) = [v5] := h5
  rw [cS_aggr] at e5
  obtain ⟨v6, n6, h6, r6, w6⟩ := openedC (f := eCnd) (z := 5) ⟨⟨0, 0⟩, ⟨0, 0⟩, false⟩ (fun _ => rfl) Tryz.underlying37 (by kernel_rfl) el_cnd (hf 6 _ rfl) (by rw [hxl]; decide)
  have e6 : (cs.drop 6).take (Tryz.prog.cellsOf 37) = [v6] := h6
  rw [cS_cnd] at e6
  obtain ⟨v7, n7, h7, r7, w7⟩ := openedC (f := eRed) (z := 5) ⟨0, 0, 0, E0, 0⟩ (fun _ => rfl) Tryz.underlying29 (by kernel_rfl) el_red (hf 7 _ rfl) (by rw [hxl]; decide)
  have e7 : (cs.drop 7).take (Tryz.prog.cellsOf 29) = [v7] := h7
  rw [cS_red] at e7
  have E : cs.drop 0 = _ := stp 1 e0 rfl
  rw [stp 2 e1 rfl, stp 3 e2 rfl, stp 4 e3 rfl, stp 5 e4 rfl, stp 6 e5 rfl, stp 7 e6 rfl, stp 8 e7 rfl, fin hlen] at E
  exact ⟨_, _, _, _, _, _, _, _, _, _, _, _, _, E, ⟨r3, w3⟩, ⟨r4, w4⟩, ⟨r5, w5⟩, ⟨r6, w6⟩, r7⟩
theorem kc_rtr : Tryz.prog.cellsOf 41 = 25 := by kernel_rfl
theorem cS_rtr : Tryz.prog.cellsOf 46 = 1 := by kernel_rfl
theorem el_rtr {fuel : Nat} {cs : List Value} {x : DataW H × List MemPlace} (h : DataW.trod enc Tryz.prog W base spare held fuel 41 cs = some x) : ∃ p : Rtr, cs = eRtr p ∧ RtrIn W p := by
  obtain ⟨xs, k, _, _, hlen, hxl, hf⟩ := DataW.trod_struct Tryz.underlying41 h
  rw [kc_rtr] at hlen
  obtain ⟨n0, h0, w0⟩ := oStr Tryz.underlying9 (hf 0 _ rfl) (by rw [hxl]; decide)
  have e0 : (cs.drop 0).take (Tryz.prog.cellsOf 9) = [.string n0] := h0
  rw [cStr] at e0
  obtain ⟨n1, h1, w1⟩ := oInt Tryz.underlying3 (hf 1 _ rfl) (by rw [hxl]; decide)
  have e1 : (cs.drop 1).take (Tryz.prog.cellsOf 3) = [.int .i64 n1] := h1
  rw [cInt] at e1
  obtain ⟨v2, n2, h2, r2, w2⟩ := openedC (f := eIfc) (z := 12) ⟨E0, 0, 0, 0, false, false, 0, 0, false, E0, E0, 0⟩ (fun _ => rfl) Tryz.underlying22 (by kernel_rfl) el_ifc (hf 2 _ rfl) (by rw [hxl]; decide)
  have e2 : (cs.drop 2).take (Tryz.prog.cellsOf 22) = [v2] := h2
  rw [cS_ifc] at e2
  obtain ⟨v3, n3, h3, r3, w3⟩ := openedC (f := ePList) (z := 2) ⟨E0, .bool false, []⟩ (fun _ => rfl) Tryz.underlying23 (by kernel_rfl) el_plist (hf 3 _ rfl) (by rw [hxl]; decide)
  have e3 : (cs.drop 3).take (Tryz.prog.cellsOf 23) = [v3] := h3
  rw [cS_plist] at e3
  obtain ⟨v4, n4, h4, r4, w4⟩ := openedC (f := eRMap) (z := 2) ⟨E0, .bool false, []⟩ (fun _ => rfl) Tryz.underlying24 (by kernel_rfl) el_rmap (hf 4 _ rfl) (by rw [hxl]; decide)
  have e4 : (cs.drop 4).take (Tryz.prog.cellsOf 24) = [v4] := h4
  rw [cS_rmap] at e4
  obtain ⟨v5, n5, h5, r5, w5⟩ := openedC (f := eAcl) (z := 2) ⟨E0, .bool false, []⟩ (fun _ => rfl) Tryz.underlying25 (by kernel_rfl) el_acl (hf 5 _ rfl) (by rw [hxl]; decide)
  have e5 : (cs.drop 5).take (Tryz.prog.cellsOf 25) = [v5] := h5
  rw [cS_acl] at e5
  obtain ⟨v6, n6, h6, r6, w6⟩ := openedC (f := eTran) (z := 9) ⟨0, 0, 0, 0, 0, 0, E0, 0, 0⟩ (fun _ => rfl) Tryz.underlying26 (by kernel_rfl) el_tran (hf 6 _ rfl) (by rw [hxl]; decide)
  have e6 : (cs.drop 6).take (Tryz.prog.cellsOf 26) = [v6] := h6
  rw [cS_tran] at e6
  obtain ⟨v7, n7, h7, r7, w7⟩ := openedC (f := eStc) (z := 7) ⟨⟨0, 0⟩, 0, E0, false, 0, 0⟩ (fun _ => rfl) Tryz.underlying27 (by kernel_rfl) el_stc (hf 7 _ rfl) (by rw [hxl]; decide)
  have e7 : (cs.drop 7).take (Tryz.prog.cellsOf 27) = [v7] := h7
  rw [cS_stc] at e7
  obtain ⟨y8, g8⟩ := oSome (hf 8 _ rfl) (by rw [hxl]; decide)
  obtain ⟨a_ls, b_ls, va_ls, la_ls, vb_ls, lb_ls, h8, w8⟩ := el_ls g8
  have e8 : (cs.drop 8).take (Tryz.prog.cellsOf 31) = [.bool a_ls, .int .i64 b_ls, va_ls, vb_ls] := h8
  rw [kc_ls] at e8
  obtain ⟨y9, g9⟩ := oSome (hf 9 _ rfl) (by rw [hxl]; decide)
  obtain ⟨a_dv, b_dv, c_dv, d_dv, va_dv, la_dv, h9, w9⟩ := el_dv g9
  have e9 : (cs.drop 12).take (Tryz.prog.cellsOf 33) = [.bool a_dv, .int .i64 b_dv, .string c_dv, .string d_dv, va_dv] := h9
  rw [kc_dv] at e9
  obtain ⟨y10, g10⟩ := oSome (hf 10 _ rfl) (by rw [hxl]; decide)
  obtain ⟨a_pv, b_pv, c_pv, va_pv, la_pv, vb_pv, lb_pv, vc_pv, lc_pv, vd_pv, ld_pv, ve_pv, le_pv, h10, w10⟩ := el_pv g10
  have e10 : (cs.drop 17).take (Tryz.prog.cellsOf 39) = [.bool a_pv, .int .i64 b_pv, .int .i64 c_pv, va_pv, vb_pv, vc_pv, vd_pv, ve_pv] := h10
  rw [kc_pv] at e10
  have E : cs.drop 0 = _ := stp 1 e0 rfl
  rw [stp 2 e1 rfl, stp 3 e2 rfl, stp 4 e3 rfl, stp 5 e4 rfl, stp 6 e5 rfl, stp 7 e6 rfl, stp 8 e7 rfl, stp 12 e8 rfl, stp 17 e9 rfl, stp 25 e10 rfl, fin hlen] at E
  exact ⟨⟨n0, n1, v2, n2, v3, n3, v4, n4, v5, n5, v6, n6, v7, n7, a_ls, b_ls, va_ls, la_ls, vb_ls, lb_ls, a_dv, b_dv, c_dv, d_dv, va_dv, la_dv, a_pv, b_pv, c_pv, va_pv, la_pv, vb_pv, lb_pv, vc_pv, lc_pv, vd_pv, ld_pv, ve_pv, le_pv⟩, E, { name := w0, ifs := r2, ifsN := fun x hx => (w2 x hx).1, ifsA := fun x hx => (w2 x hx).2, lists := r3, listsN := fun x hx => (w3 x hx).1, listsR := fun x hx => (w3 x hx).2.1, listsA := fun x hx => (w3 x hx).2.2, maps := r4, mapsN := fun x hx => (w4 x hx).1, mapsR := fun x hx => (w4 x hx).2, acls := r5, aclsN := fun x hx => (w5 x hx).1, aclsR := fun x hx => (w5 x hx).2.1, aclsA := fun x hx => (w5 x hx).2.2, nat := r6, natA := w6, sts := r7, stsA := w7, rngs := w8.1, rngsA := w8.2.1, lsr := w8.2.2, dvr := w9, nbrs := w10.1.1, nbrsA := w10.1.2, nets := w10.2.1.1, netsA := w10.2.1.2, aggs := w10.2.2.1.1, aggsA := w10.2.2.1.2, cnds := w10.2.2.2.1.1, cndsA := w10.2.2.2.1.2, pvr := w10.2.2.2.2 }⟩
theorem kc_net : Tryz.prog.cellsOf 48 = 1 := by kernel_rfl
theorem el_net {fuel : Nat} {cs : List Value} {x : DataW H × List MemPlace} (h : DataW.trod enc Tryz.prog W base spare held fuel 48 cs = some x) : ∃ (v0 : Value) (n0 : List Rtr), cs = [v0] ∧ NetIn W v0 n0 := by
  obtain ⟨xs, k, _, _, hlen, hxl, hf⟩ := DataW.trod_struct Tryz.underlying48 h
  rw [kc_net] at hlen
  obtain ⟨v0, n0, h0, r0, w0⟩ := openedC (f := eRtr) (z := 25) R0 (fun _ => rfl) Tryz.underlying46 (by kernel_rfl) el_rtr (hf 0 _ rfl) (by rw [hxl]; decide)
  have e0 : (cs.drop 0).take (Tryz.prog.cellsOf 46) = [v0] := h0
  rw [cS_rtr] at e0
  have E : cs.drop 0 = _ := stp 1 e0 rfl
  rw [fin hlen] at E
  exact ⟨_, _, E, r0, w0⟩

set_option maxRecDepth 100000 in
theorem opRtr {r : Reach} {b0 : Nat} {v : Value} {d : DataW H} {p : List MemPlace} (hv : Value.okWide Tryz.prog W r b0 41 v) (h : DataW.Trod enc Tryz.prog W base spare held 41 v d p) :
    ∃ q : Rtr, v = .agg (eRtr q).toArray ∧ RtrIn W q := by
  obtain ⟨cs, rfl, _⟩ := okWide_struct Tryz.underlying41 hv
  obtain ⟨m, hm⟩ := h
  obtain ⟨q, hq, hi⟩ := el_rtr hm
  refine ⟨q, ?_, hi⟩
  rw [← hq]
  rfl
set_option maxRecDepth 100000 in
theorem opNet {r : Reach} {b0 : Nat} {v : Value} {d : DataW H} {p : List MemPlace} (hv : Value.okWide Tryz.prog W r b0 48 v) (h : DataW.Trod enc Tryz.prog W base spare held 48 v d p) :
    ∃ (u : Value) (l : List Rtr), v = .agg #[u] ∧ NetIn W u l := by
  obtain ⟨cs, rfl, _⟩ := okWide_struct Tryz.underlying48 hv
  obtain ⟨m, hm⟩ := h
  obtain ⟨u, l, hq, hi⟩ := el_net hm
  refine ⟨u, l, ?_, hi⟩
  have : cs.toList = [u] := hq
  rw [← Array.toArray_toList (xs := cs), this]
end
end Go.Proofs.YtlhbfpapmolohaaGreat.Mo

/-
  ModelRouters: for every router the law ModelRouters returns true and leaves its argument as it was. No condition.
-/
namespace Go.Proofs.YtlhbfpapmolohaaGreat.modelRouters
open Go.ChangeShapes Go.WideShapes Go.ChangeAt Go.RowKit Go.Joins
set_option linter.unusedSimpArgs false
set_option linter.unusedVariables false

theorem own : ownKnob Tryz.prog.godebug = none := by kernel_rfl
theorem laidOut : laidOutB Tryz.prog = true := by kernel_rfl

set_option maxRecDepth 100000 in
theorem lifted (os : Os) (started : os.Started) (H : Type) (enc : TypeId × Value → H) :
    ReturnsInHanded {} Tryz.checked os 3 .any (Rows.modelRoutersSpec.pre6 enc Tryz.prog Tryz.f3 Rows.modelRoutersRow.domain false) (Rows.modelRoutersSpec.post enc Tryz.prog Tryz.f3 false true false false) := by
  refine returnsInHanded_of_change (C := Tryz.checked) own started (by kernel_rfl) Tryz.func3
    (ChangeSpec.witness6 (enc := enc) (C := Tryz.checked) false ⟨#[], #[.agg #[.string ByteArray.empty, .int .i64 0, .slice none 0 0, .slice none 0 0, .slice none 0 0, .slice none 0 0, .slice none 0 0, .slice none 0 0, .bool false, .int .i64 0, .slice none 0 0, .slice none 0 0, .bool false, .int .i64 0, .string ByteArray.empty, .string ByteArray.empty, .slice none 0 0, .bool false, .int .i64 0, .int .i64 0, .slice none 0 0, .slice none 0 0, .slice none 0 0, .slice none 0 0, .slice none 0 0]], []⟩ 8 (by kernel_rfl) (by kernel_rfl) (by kernel_rfl) (by kernel_rfl)) ?_
  intro W base args ds gs before hval0 hW hcnd _
  have hval : ∀ (j : Nat) t v, Tryz.f3.params[j]? = some t → args[j]? = some v → Value.okWide Tryz.prog W .any base t v := hval0
  have hW' := hW
  obtain ⟨p, q, hA0, hV, rfl, hfz, hnd⟩ := hW
  have hA : DataW.TrodAll enc Tryz.prog W 0 (fun _ => true) true Tryz.f3.params.toList args.toList ds p := hA0
  rw [Tryz.params3] at hA hval
  obtain ⟨v0, vs0, d0, ds0, p0, q0, hargs, rfl, rfl, h0, r0⟩ := trodAll_cons hA
  obtain ⟨rfl, rfl, rfl⟩ := trodAll_nil r0
  obtain rfl : args = #[v0] := by cases args; simp_all
  obtain ⟨rfl, rfl⟩ := trodVars_none hV
  have k0 := h0
  have lt0 : ∀ x ∈ p0, x.block < W.heap.size := by obtain ⟨m, hm⟩ := k0; exact DataW.trod_lt m _ _ _ hm
  obtain ⟨q0, rfl, i0⟩ := Mo.opRtr (hval 0 41 v0 rfl rfl) h0
  clear hA0 hval0
  refine (Mw.walkModelRouters q0 W i0).mono fun e W' ⟨he, bel⟩ => ?_
  subst he
  exact ⟨_, rfl, _, _, _, [], _, [], hW', trodAll_mk1 (shut_bool Tryz.underlying4 _), (trodAll_cons_mk (Below.trod laidOut (by kernel_rfl) (of_decide_eq_true (by kernel_rfl)) k0 bel lt0) trodAll_mk0), rfl, bel.frame _, fun h => by cases h⟩

theorem over : Rows.modelRoutersRow.holds Tryz.pinned (OpenSpec.ofChange Rows.modelRoutersSpec) :=
  OpenClaim.holds_of_wide 3 Tryz.f3 rfl rfl rfl rfl rfl rfl rfl ⟨rfl, rfl, rfl, rfl, rfl⟩ rfl rfl rfl rfl rfl (by kernel_rfl) Tryz.func3 (by kernel_rfl)
    (of_decide_eq_true (by kernel_rfl)) (by unfold Func.isWrapper; first | (rw [if_pos (by decide +kernel)]; kernel_rfl) | (rw [if_neg (by decide +kernel)]; exact ⟨rfl, rfl⟩))
    (fun os started H enc _ => lifted os started H enc)

theorem proved : Rows.ModelRoutersSaid := over
#print axioms proved
end Go.Proofs.YtlhbfpapmolohaaGreat.modelRouters
