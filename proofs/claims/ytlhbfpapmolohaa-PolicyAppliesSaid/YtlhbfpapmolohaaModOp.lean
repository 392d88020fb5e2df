/-
  ROUTERS AND NETWORKS IN OLD MEMORY, AS A ROW's DATUM READS THEM.
-/
import Derived.Test.YtlhbfpapmolohaaModK
import Derived.Test.YtlhbfpapmolohaaRows
import Derived.Deep.SlicePairs
import Derived.ChangeArms
import Derived.ProofKit
namespace Go.Proofs.Ytlhbfpapmolohaa.Mo
set_option linter.unusedSimpArgs false
set_option linter.unusedVariables false
open Go.RowKit Go.WideShapes Mp Mm

def eWild (x : Wild) : List Value := [.int .u32 (x.addr : Int), .int .u32 (x.mask : Int)]
def ePorts (x : Ports) : List Value := [.int .i64 x.lo, .int .i64 x.hi]
def E0 : ByteArray := ⟨#[]⟩
def V0 : Value := .bool false
def R0 : Rtr := ⟨E0, 0, V0, [], V0, [], V0, [], V0, [], V0, [], V0, [], false, 0, V0, [], V0, [], false, 0, E0, E0, V0, [], false, 0, 0, V0, [], V0, [], V0, [], V0, [], V0, []⟩
theorem u32_nat {m : Int} (h : (Lit.int .u32 m).wf = true) : ∃ k : Nat, m = k ∧ low k := by
  have h' : 0 ≤ m ∧ m ≤ 4294967295 := by
    simp [Lit.wf, IntKind.min, IntKind.max, IntKind.signed, IntKind.bits] at h
    omega
  exact ⟨m.toNat, by omega, by unfold low; omega⟩
theorem stp {cs p : List Value} {o k : Nat} (o' : Nat) (h : (cs.drop o).take k = p) (e : o' = o + k) : cs.drop o = p ++ cs.drop o' := by
  rw [← h, e, ← List.drop_drop, List.take_append_drop]
theorem fin {cs : List Value} {n : Nat} (h : cs.length = n) : cs.drop n = [] := List.drop_eq_nil_of_le (by omega)

section
variable {H : Type} {enc : TypeId × Value → H} {W : World} {base : Nat} {spare : Nat → Bool} {held : Bool} {n : Nat} {t : TypeId} {cs : List Value} {xs : List (DataW H × List MemPlace)} {i : Nat}
theorem oSome (h : DataW.trod enc Try.prog W base spare held n t cs = xs[i]?) (hi : i < xs.length) : ∃ x, DataW.trod enc Try.prog W base spare held n t cs = some x := ⟨_, h.trans (List.getElem?_eq_getElem hi)⟩
theorem oInt {k : IntKind} (ht : Try.prog.underlying t = some (.int k)) (h : DataW.trod enc Try.prog W base spare held n t cs = xs[i]?) (hi : i < xs.length) : ∃ m, cs = [.int k m] ∧ (Lit.int k m).wf = true := by
  obtain ⟨x, hx⟩ := oSome h hi
  obtain ⟨m, h1, _, h2⟩ := DataW.trod_int ht hx
  exact ⟨m, h1, h2⟩
theorem oU32 (ht : Try.prog.underlying t = some (.int .u32)) (h : DataW.trod enc Try.prog W base spare held n t cs = xs[i]?) (hi : i < xs.length) : ∃ m : Nat, cs = [.int .u32 (m : Int)] ∧ low m := by
  obtain ⟨m, rfl, h2⟩ := oInt ht h hi
  obtain ⟨k, rfl, hk⟩ := u32_nat h2
  exact ⟨k, rfl, hk⟩
theorem oBool (ht : Try.prog.underlying t = some .bool) (h : DataW.trod enc Try.prog W base spare held n t cs = xs[i]?) (hi : i < xs.length) : ∃ b, cs = [.bool b] := by
  obtain ⟨x, hx⟩ := oSome h hi
  obtain ⟨m, h1, _⟩ := DataW.trod_bool ht hx
  exact ⟨m, h1⟩
theorem oStr (ht : Try.prog.underlying t = some .string) (h : DataW.trod enc Try.prog W base spare held n t cs = xs[i]?) (hi : i < xs.length) : ∃ s : ByteArray, cs = [.string s] ∧ sz s := by
  obtain ⟨x, hx⟩ := oSome h hi
  obtain ⟨m, h1, _, h2⟩ := DataW.trod_string ht hx
  exact ⟨m, h1, h2⟩
/-- A slice whose elements are some cells each. -/
theorem openedC {α : Type} {f : α → List Value} {z : Nat} {Q : α → Prop} (d : α) {e : TypeId} (hz : ∀ x, (f x).length = z) (ht : Try.prog.underlying t = some (.slice e)) (hc : Try.prog.cellsOf e = z)
    (hel : ∀ {n : Nat} {cs : List Value} {x : DataW H × List MemPlace}, DataW.trod enc Try.prog W base spare held n e cs = some x → ∃ p : α, cs = f p ∧ Q p)
    (h0 : DataW.trod enc Try.prog W base spare held n t cs = xs[i]?) (hi : i < xs.length) :
    ∃ (v : Value) (s : List α), cs = [v] ∧ InRow f z W v s ∧ ∀ y ∈ s, Q y := by
  obtain ⟨x, h⟩ := oSome h0 hi
  rcases Deep.open_slice ht h with ⟨rfl, _⟩ | ⟨ad, l, c, m, n, D, Pl, rfl, _, hl, hm, hmm, _, hx⟩
  · exact ⟨_, [], rfl, ⟨rows_nil, by simp⟩, fun y hy => by cases hy⟩
  · have hlm : l ≤ m := by rw [hmm]; split <;> omega
    have each : ∀ i, ∃ q : α, i < l → (∀ j, j < z → W.cell? (ad.add (i * z + j)) = (f q)[j]?) ∧ Q q := by
      intro i
      by_cases hi : i < l
      · obtain ⟨cs', h1, h2⟩ := hx i (by omega)
        rw [hc] at h1
        obtain ⟨p, rfl, hp⟩ := hel h2
        obtain ⟨_, _, hcell⟩ := World.cells?_some h1
        refine ⟨p, fun _ => ⟨fun j hj => ?_, hp⟩⟩
        have := hcell j hj
        rwa [Deep.add_add] at this
      · exact ⟨d, fun h => absurd h hi⟩
    obtain ⟨g, hg⟩ := Classical.axiomOfChoice each
    refine ⟨_, (List.range l).map g, rfl, ⟨n_row (n := l) ⟨by rw [fl_len hz]; simp, .inr ⟨ad, c, rfl, hl, fun j u hj => ?_⟩⟩ (by simp), ?_⟩, fun y hy => ?_⟩
    · have hjl : j < ((List.range l).map g).length * z := by rw [← fl_len hz]; exact (List.getElem?_eq_some_iff.1 hj).1
      simp at hjl
      have hz0 : 0 < z := Nat.pos_of_ne_zero fun e => by rw [e] at hjl; simp at hjl
      have hk : j / z < l := (Nat.div_lt_iff_lt_mul hz0).2 hjl
      have hje : j = j / z * z + j % z := by rw [Nat.mul_comm]; exact (Nat.div_add_mod j z).symm
      have hget : ((List.range l).map g)[j / z]? = some (g (j / z)) := by simp [hk]
      have hfg := fl_get hz ((List.range l).map g) (j / z) (g (j / z)) hget (j % z) (Nat.mod_lt _ hz0)
      have hw := (hg (j / z) hk).1 (j % z) (Nat.mod_lt _ hz0)
      rw [← hje] at hfg hw
      rw [hw, ← hfg]
      exact hj
    · have : maxLen = 9223372036854775807 := by decide
      simp; omega
    · rw [List.mem_map] at hy
      obtain ⟨k, hk, rfl⟩ := hy
      exact (hg k (List.mem_range.1 hk)).2
theorem cStr : Try.prog.cellsOf 9 = 1 := by kernel_rfl
theorem cInt : Try.prog.cellsOf 3 = 1 := by kernel_rfl
theorem cU32 : Try.prog.cellsOf 25 = 1 := by kernel_rfl
theorem cBool : Try.prog.cellsOf 4 = 1 := by kernel_rfl

theorem kc_pfx : Try.prog.cellsOf 27 = 2 := by kernel_rfl
theorem cS_pfx : Try.prog.cellsOf 49 = 1 := by kernel_rfl
theorem el_pfx {fuel : Nat} {cs : List Value} {x : DataW H × List MemPlace} (h : DataW.trod enc Try.prog W base spare held fuel 27 cs = some x) : ∃ p : Pfx, cs = ePfx p ∧ (low p.addr) := by
  obtain ⟨xs, k, _, _, hlen, hxl, hf⟩ := DataW.trod_struct Try.underlying27 h
  rw [kc_pfx] at hlen
  obtain ⟨n0, h0, w0⟩ := oU32 Try.underlying25 (hf 0 _ rfl) (by rw [hxl]; decide)
  have e0 : (cs.drop 0).take (Try.prog.cellsOf 25) = [.int .u32 (n0 : Int)] := h0
  rw [cU32] at e0
  obtain ⟨n1, h1, w1⟩ := oInt Try.underlying3 (hf 1 _ rfl) (by rw [hxl]; decide)
  have e1 : (cs.drop 1).take (Try.prog.cellsOf 3) = [.int .i64 n1] := h1
  rw [cInt] at e1
  have E : cs.drop 0 = _ := stp 1 e0 rfl
  rw [stp 2 e1 rfl, fin hlen] at E
  exact ⟨⟨n0, n1⟩, E, w0⟩
theorem kc_wild : Try.prog.cellsOf 112 = 2 := by kernel_rfl
theorem el_wild {fuel : Nat} {cs : List Value} {x : DataW H × List MemPlace} (h : DataW.trod enc Try.prog W base spare held fuel 112 cs = some x) : ∃ p : Wild, cs = eWild p ∧ (low p.addr ∧ low p.mask) := by
  obtain ⟨xs, k, _, _, hlen, hxl, hf⟩ := DataW.trod_struct Try.underlying112 h
  rw [kc_wild] at hlen
  obtain ⟨n0, h0, w0⟩ := oU32 Try.underlying25 (hf 0 _ rfl) (by rw [hxl]; decide)
  have e0 : (cs.drop 0).take (Try.prog.cellsOf 25) = [.int .u32 (n0 : Int)] := h0
  rw [cU32] at e0
  obtain ⟨n1, h1, w1⟩ := oU32 Try.underlying25 (hf 1 _ rfl) (by rw [hxl]; decide)
  have e1 : (cs.drop 1).take (Try.prog.cellsOf 25) = [.int .u32 (n1 : Int)] := h1
  rw [cU32] at e1
  have E : cs.drop 0 = _ := stp 1 e0 rfl
  rw [stp 2 e1 rfl, fin hlen] at E
  exact ⟨⟨n0, n1⟩, E, ⟨w0, w1⟩⟩
theorem kc_ports : Try.prog.cellsOf 114 = 2 := by kernel_rfl
theorem el_ports {fuel : Nat} {cs : List Value} {x : DataW H × List MemPlace} (h : DataW.trod enc Try.prog W base spare held fuel 114 cs = some x) : ∃ p : Ports, cs = ePorts p ∧ (True) := by
  obtain ⟨xs, k, _, _, hlen, hxl, hf⟩ := DataW.trod_struct Try.underlying114 h
  rw [kc_ports] at hlen
  obtain ⟨n0, h0, w0⟩ := oInt Try.underlying3 (hf 0 _ rfl) (by rw [hxl]; decide)
  have e0 : (cs.drop 0).take (Try.prog.cellsOf 3) = [.int .i64 n0] := h0
  rw [cInt] at e0
  obtain ⟨n1, h1, w1⟩ := oInt Try.underlying3 (hf 1 _ rfl) (by rw [hxl]; decide)
  have e1 : (cs.drop 1).take (Try.prog.cellsOf 3) = [.int .i64 n1] := h1
  rw [cInt] at e1
  have E : cs.drop 0 = _ := stp 1 e0 rfl
  rw [stp 2 e1 rfl, fin hlen] at E
  exact ⟨⟨n0, n1⟩, E, trivial⟩
theorem kc_ifc : Try.prog.cellsOf 106 = 12 := by kernel_rfl
theorem cS_ifc : Try.prog.cellsOf 36 = 1 := by kernel_rfl
theorem el_ifc {fuel : Nat} {cs : List Value} {x : DataW H × List MemPlace} (h : DataW.trod enc Try.prog W base spare held fuel 106 cs = some x) : ∃ p : Ifc, cs = eIfc p ∧ (sz p.name ∧ low p.addr) := by
  obtain ⟨xs, k, _, _, hlen, hxl, hf⟩ := DataW.trod_struct Try.underlying106 h
  rw [kc_ifc] at hlen
  obtain ⟨n0, h0, w0⟩ := oStr Try.underlying9 (hf 0 _ rfl) (by rw [hxl]; decide)
  have e0 : (cs.drop 0).take (Try.prog.cellsOf 9) = [.string n0] := h0
  rw [cStr] at e0
  obtain ⟨n1, h1, w1⟩ := oU32 Try.underlying25 (hf 1 _ rfl) (by rw [hxl]; decide)
  have e1 : (cs.drop 1).take (Try.prog.cellsOf 25) = [.int .u32 (n1 : Int)] := h1
  rw [cU32] at e1
  obtain ⟨n2, h2, w2⟩ := oInt Try.underlying3 (hf 2 _ rfl) (by rw [hxl]; decide)
  have e2 : (cs.drop 2).take (Try.prog.cellsOf 3) = [.int .i64 n2] := h2
  rw [cInt] at e2
  obtain ⟨n3, h3, w3⟩ := oInt Try.underlying3 (hf 3 _ rfl) (by rw [hxl]; decide)
  have e3 : (cs.drop 3).take (Try.prog.cellsOf 3) = [.int .i64 n3] := h3
  rw [cInt] at e3
  obtain ⟨n4, h4⟩ := oBool Try.underlying4 (hf 4 _ rfl) (by rw [hxl]; decide)
  have e4 : (cs.drop 4).take (Try.prog.cellsOf 4) = [.bool n4] := h4
  rw [cBool] at e4
  obtain ⟨n5, h5⟩ := oBool Try.underlying4 (hf 5 _ rfl) (by rw [hxl]; decide)
  have e5 : (cs.drop 5).take (Try.prog.cellsOf 4) = [.bool n5] := h5
  rw [cBool] at e5
  obtain ⟨n6, h6, w6⟩ := oInt Try.underlying3 (hf 6 _ rfl) (by rw [hxl]; decide)
  have e6 : (cs.drop 6).take (Try.prog.cellsOf 3) = [.int .i64 n6] := h6
  rw [cInt] at e6
  obtain ⟨n7, h7, w7⟩ := oInt Try.underlying3 (hf 7 _ rfl) (by rw [hxl]; decide)
  have e7 : (cs.drop 7).take (Try.prog.cellsOf 3) = [.int .i64 n7] := h7
  rw [cInt] at e7
  obtain ⟨n8, h8⟩ := oBool Try.underlying4 (hf 8 _ rfl) (by rw [hxl]; decide)
  have e8 : (cs.drop 8).take (Try.prog.cellsOf 4) = [.bool n8] := h8
  rw [cBool] at e8
  obtain ⟨n9, h9, w9⟩ := oStr Try.underlying9 (hf 9 _ rfl) (by rw [hxl]; decide)
  have e9 : (cs.drop 9).take (Try.prog.cellsOf 9) = [.string n9] := h9
  rw [cStr] at e9
  obtain ⟨n10, h10, w10⟩ := oStr Try.underlying9 (hf 10 _ rfl) (by rw [hxl]; decide)
  have e10 : (cs.drop 10).take (Try.prog.cellsOf 9) = [.string n10] := h10
  rw [cStr] at e10
  obtain ⟨n11, h11, w11⟩ := oInt Try.underlying3 (hf 11 _ rfl) (by rw [hxl]; decide)
  have e11 : (cs.drop 11).take (Try.prog.cellsOf 3) = [.int .i64 n11] := h11
  rw [cInt] at e11
  have E : cs.drop 0 = _ := stp 1 e0 rfl
  rw [stp 2 e1 rfl, stp 3 e2 rfl, stp 4 e3 rfl, stp 5 e4 rfl, stp 6 e5 rfl, stp 7 e6 rfl, stp 8 e7 rfl, stp 9 e8 rfl, stp 10 e9 rfl, stp 11 e10 rfl, stp 12 e11 rfl, fin hlen] at E
  exact ⟨⟨n0, n1, n2, n3, n4, n5, n6, n7, n8, n9, n10, n11⟩, E, ⟨w0, w1⟩⟩
theorem kc_prule : Try.prog.cellsOf 31 = 5 := by kernel_rfl
theorem cS_prule : Try.prog.cellsOf 22 = 1 := by kernel_rfl
theorem el_prule {fuel : Nat} {cs : List Value} {x : DataW H × List MemPlace} (h : DataW.trod enc Try.prog W base spare held fuel 31 cs = some x) : ∃ p : PRule, cs = ePRule p ∧ (low p.pfx.addr) := by
  obtain ⟨xs, k, _, _, hlen, hxl, hf⟩ := DataW.trod_struct Try.underlying31 h
  rw [kc_prule] at hlen
  obtain ⟨n0, h0⟩ := oBool Try.underlying4 (hf 0 _ rfl) (by rw [hxl]; decide)
  have e0 : (cs.drop 0).take (Try.prog.cellsOf 4) = [.bool n0] := h0
  rw [cBool] at e0
  obtain ⟨y1, g1⟩ := oSome (hf 1 _ rfl) (by rw [hxl]; decide)
  obtain ⟨n1, h1, w1⟩ := el_pfx g1
  have e1 : (cs.drop 1).take (Try.prog.cellsOf 27) = ePfx n1 := h1
  rw [kc_pfx] at e1
  obtain ⟨n2, h2, w2⟩ := oInt Try.underlying3 (hf 2 _ rfl) (by rw [hxl]; decide)
  have e2 : (cs.drop 3).take (Try.prog.cellsOf 3) = [.int .i64 n2] := h2
  rw [cInt] at e2
  obtain ⟨n3, h3, w3⟩ := oInt Try.underlying3 (hf 3 _ rfl) (by rw [hxl]; decide)
  have e3 : (cs.drop 4).take (Try.prog.cellsOf 3) = [.int .i64 n3] := h3
  rw [cInt] at e3
  have E : cs.drop 0 = _ := stp 1 e0 rfl
  rw [stp 3 e1 rfl, stp 4 e2 rfl, stp 5 e3 rfl, fin hlen] at E
  exact ⟨⟨n0, n1, n2, n3⟩, E, w1⟩
theorem kc_plist : Try.prog.cellsOf 24 = 2 := by kernel_rfl
theorem cS_plist : Try.prog.cellsOf 37 = 1 := by kernel_rfl
theorem el_plist {fuel : Nat} {cs : List Value} {x : DataW H × List MemPlace} (h : DataW.trod enc Try.prog W base spare held fuel 24 cs = some x) : ∃ p : PList, cs = ePList p ∧ (sz p.name ∧ InRow ePRule 5 W p.v p.rules ∧ ∀ y ∈ p.rules, low y.pfx.addr) := by
  obtain ⟨xs, k, _, _, hlen, hxl, hf⟩ := DataW.trod_struct Try.underlying24 h
  rw [kc_plist] at hlen
  obtain ⟨n0, h0, w0⟩ := oStr Try.underlying9 (hf 0 _ rfl) (by rw [hxl]; decide)
  have e0 : (cs.drop 0).take (Try.prog.cellsOf 9) = [.string n0] := h0
  rw [cStr] at e0
  obtain ⟨v1, n1, h1, r1, w1⟩ := openedC (f := ePRule) (z := 5) ⟨false, ⟨0, 0⟩, 0, 0⟩ (fun _ => rfl) Try.underlying22 (by kernel_rfl) el_prule (hf 1 _ rfl) (by rw [hxl]; decide)
  have e1 : (cs.drop 1).take (Try.prog.cellsOf 22) = [v1] := h1
  rw [cS_prule] at e1
  have E : cs.drop 0 = _ := stp 1 e0 rfl
  rw [stp 2 e1 rfl, fin hlen] at E
  exact ⟨⟨n0, v1, n1⟩, E, ⟨w0, r1, w1⟩⟩
theorem kc_cla : Try.prog.cellsOf 80 = 7 := by kernel_rfl
theorem cS_cla : Try.prog.cellsOf 63 = 1 := by kernel_rfl
theorem el_cla {fuel : Nat} {cs : List Value} {x : DataW H × List MemPlace} (h : DataW.trod enc Try.prog W base spare held fuel 80 cs = some x) : ∃ p : Cla, cs = eCla p ∧ (True) := by
  obtain ⟨xs, k, _, _, hlen, hxl, hf⟩ := DataW.trod_struct Try.underlying80 h
  rw [kc_cla] at hlen
  obtain ⟨n0, h0⟩ := oBool Try.underlying4 (hf 0 _ rfl) (by rw [hxl]; decide)
  have e0 : (cs.drop 0).take (Try.prog.cellsOf 4) = [.bool n0] := h0
  rw [cBool] at e0
  obtain ⟨n1, h1, w1⟩ := oStr Try.underlying9 (hf 1 _ rfl) (by rw [hxl]; decide)
  have e1 : (cs.drop 1).take (Try.prog.cellsOf 9) = [.string n1] := h1
  rw [cStr] at e1
  obtain ⟨n2, h2, w2⟩ := oInt Try.underlying3 (hf 2 _ rfl) (by rw [hxl]; decide)
  have e2 : (cs.drop 2).take (Try.prog.cellsOf 3) = [.int .i64 n2] := h2
  rw [cInt] at e2
  obtain ⟨n3, h3, w3⟩ := oInt Try.underlying3 (hf 3 _ rfl) (by rw [hxl]; decide)
  have e3 : (cs.drop 3).take (Try.prog.cellsOf 3) = [.int .i64 n3] := h3
  rw [cInt] at e3
  obtain ⟨n4, h4, w4⟩ := oInt Try.underlying3 (hf 4 _ rfl) (by rw [hxl]; decide)
  have e4 : (cs.drop 4).take (Try.prog.cellsOf 3) = [.int .i64 n4] := h4
  rw [cInt] at e4
  obtain ⟨n5, h5, w5⟩ := oInt Try.underlying3 (hf 5 _ rfl) (by rw [hxl]; decide)
  have e5 : (cs.drop 5).take (Try.prog.cellsOf 3) = [.int .i64 n5] := h5
  rw [cInt] at e5
  obtain ⟨n6, h6, w6⟩ := oInt Try.underlying3 (hf 6 _ rfl) (by rw [hxl]; decide)
  have e6 : (cs.drop 6).take (Try.prog.cellsOf 3) = [.int .i64 n6] := h6
  rw [cInt] at e6
  have E : cs.drop 0 = _ := stp 1 e0 rfl
  rw [stp 2 e1 rfl, stp 3 e2 rfl, stp 4 e3 rfl, stp 5 e4 rfl, stp 6 e5 rfl, stp 7 e6 rfl, fin hlen] at E
  exact ⟨⟨n0, n1, n2, n3, n4, n5, n6⟩, E, trivial⟩
theorem kc_rmap : Try.prog.cellsOf 65 = 2 := by kernel_rfl
theorem cS_rmap : Try.prog.cellsOf 38 = 1 := by kernel_rfl
theorem el_rmap {fuel : Nat} {cs : List Value} {x : DataW H × List MemPlace} (h : DataW.trod enc Try.prog W base spare held fuel 65 cs = some x) : ∃ p : RMap, cs = eRMap p ∧ (sz p.name ∧ InRow eCla 7 W p.v p.clauses) := by
  obtain ⟨xs, k, _, _, hlen, hxl, hf⟩ := DataW.trod_struct Try.underlying65 h
  rw [kc_rmap] at hlen
  obtain ⟨n0, h0, w0⟩ := oStr Try.underlying9 (hf 0 _ rfl) (by rw [hxl]; decide)
  have e0 : (cs.drop 0).take (Try.prog.cellsOf 9) = [.string n0] := h0
  rw [cStr] at e0
  obtain ⟨v1, n1, h1, r1, w1⟩ := openedC (f := eCla) (z := 7) ⟨false, E0, 0, 0, 0, 0, 0⟩ (fun _ => rfl) Try.underlying63 (by kernel_rfl) el_cla (hf 1 _ rfl) (by rw [hxl]; decide)
  have e1 : (cs.drop 1).take (Try.prog.cellsOf 63) = [v1] := h1
  rw [cS_cla] at e1
  have E : cs.drop 0 = _ := stp 1 e0 rfl
  rw [stp 2 e1 rfl, fin hlen] at E
  exact ⟨⟨n0, v1, n1⟩, E, ⟨w0, r1⟩⟩
theorem kc_rule : Try.prog.cellsOf 116 = 10 := by kernel_rfl
theorem cS_rule : Try.prog.cellsOf 107 = 1 := by kernel_rfl
theorem el_rule {fuel : Nat} {cs : List Value} {x : DataW H × List MemPlace} (h : DataW.trod enc Try.prog W base spare held fuel 116 cs = some x) : ∃ p : Rule, cs = eRule p ∧ (low p.src.addr ∧ low p.src.mask ∧ low p.dst.addr ∧ low p.dst.mask) := by
  obtain ⟨xs, k, _, _, hlen, hxl, hf⟩ := DataW.trod_struct Try.underlying116 h
  rw [kc_rule] at hlen
  obtain ⟨n0, h0⟩ := oBool Try.underlying4 (hf 0 _ rfl) (by rw [hxl]; decide)
  have e0 : (cs.drop 0).take (Try.prog.cellsOf 4) = [.bool n0] := h0
  rw [cBool] at e0
  obtain ⟨n1, h1, w1⟩ := oInt Try.underlying3 (hf 1 _ rfl) (by rw [hxl]; decide)
  have e1 : (cs.drop 1).take (Try.prog.cellsOf 3) = [.int .i64 n1] := h1
  rw [cInt] at e1
  obtain ⟨y2, g2⟩ := oSome (hf 2 _ rfl) (by rw [hxl]; decide)
  obtain ⟨n2, h2, w2⟩ := el_wild g2
  have e2 : (cs.drop 2).take (Try.prog.cellsOf 112) = eWild n2 := h2
  rw [kc_wild] at e2
  obtain ⟨y3, g3⟩ := oSome (hf 3 _ rfl) (by rw [hxl]; decide)
  obtain ⟨n3, h3, w3⟩ := el_wild g3
  have e3 : (cs.drop 4).take (Try.prog.cellsOf 112) = eWild n3 := h3
  rw [kc_wild] at e3
  obtain ⟨y4, g4⟩ := oSome (hf 4 _ rfl) (by rw [hxl]; decide)
  obtain ⟨n4, h4, w4⟩ := el_ports g4
  have e4 : (cs.drop 6).take (Try.prog.cellsOf 114) = ePorts n4 := h4
  rw [kc_ports] at e4
  obtain ⟨y5, g5⟩ := oSome (hf 5 _ rfl) (by rw [hxl]; decide)
  obtain ⟨n5, h5, w5⟩ := el_ports g5
  have e5 : (cs.drop 8).take (Try.prog.cellsOf 114) = ePorts n5 := h5
  rw [kc_ports] at e5
  have E : cs.drop 0 = _ := stp 1 e0 rfl
  rw [stp 2 e1 rfl, stp 4 e2 rfl, stp 6 e3 rfl, stp 8 e4 rfl, stp 10 e5 rfl, fin hlen] at E
  exact ⟨⟨n0, n1, n2, n3, n4, n5⟩, E, ⟨w2.1, w2.2, w3.1, w3.2⟩⟩
theorem kc_acl : Try.prog.cellsOf 109 = 2 := by kernel_rfl
theorem cS_acl : Try.prog.cellsOf 39 = 1 := by kernel_rfl
theorem el_acl {fuel : Nat} {cs : List Value} {x : DataW H × List MemPlace} (h : DataW.trod enc Try.prog W base spare held fuel 109 cs = some x) : ∃ p : Acl, cs = eAcl p ∧ (sz p.name ∧ InRow eRule 10 W p.v p.rules ∧ ∀ y ∈ p.rules, low y.src.addr ∧ low y.src.mask ∧ low y.dst.addr ∧ low y.dst.mask) := by
  obtain ⟨xs, k, _, _, hlen, hxl, hf⟩ := DataW.trod_struct Try.underlying109 h
  rw [kc_acl] at hlen
  obtain ⟨n0, h0, w0⟩ := oStr Try.underlying9 (hf 0 _ rfl) (by rw [hxl]; decide)
  have e0 : (cs.drop 0).take (Try.prog.cellsOf 9) = [.string n0] := h0
  rw [cStr] at e0
  obtain ⟨v1, n1, h1, r1, w1⟩ := openedC (f := eRule) (z := 10) ⟨false, 0, ⟨0, 0⟩, ⟨0, 0⟩, ⟨0, 0⟩, ⟨0, 0⟩⟩ (fun _ => rfl) Try.underlying107 (by kernel_rfl) el_rule (hf 1 _ rfl) (by rw [hxl]; decide)
  have e1 : (cs.drop 1).take (Try.prog.cellsOf 107) = [v1] := h1
  rw [cS_rule] at e1
  have E : cs.drop 0 = _ := stp 1 e0 rfl
  rw [stp 2 e1 rfl, fin hlen] at E
  exact ⟨⟨n0, v1, n1⟩, E, ⟨w0, r1, w1⟩⟩
theorem kc_tran : Try.prog.cellsOf 118 = 9 := by kernel_rfl
theorem cS_tran : Try.prog.cellsOf 40 = 1 := by kernel_rfl
theorem el_tran {fuel : Nat} {cs : List Value} {x : DataW H × List MemPlace} (h : DataW.trod enc Try.prog W base spare held fuel 118 cs = some x) : ∃ p : Tran, cs = eTran p ∧ (low p.ins ∧ low p.outs ∧ low p.lo ∧ low p.hi) := by
  obtain ⟨xs, k, _, _, hlen, hxl, hf⟩ := DataW.trod_struct Try.underlying118 h
  rw [kc_tran] at hlen
  obtain ⟨n0, h0, w0⟩ := oInt Try.underlying3 (hf 0 _ rfl) (by rw [hxl]; decide)
  have e0 : (cs.drop 0).take (Try.prog.cellsOf 3) = [.int .i64 n0] := h0
  rw [cInt] at e0
  obtain ⟨n1, h1, w1⟩ := oU32 Try.underlying25 (hf 1 _ rfl) (by rw [hxl]; decide)
  have e1 : (cs.drop 1).take (Try.prog.cellsOf 25) = [.int .u32 (n1 : Int)] := h1
  rw [cU32] at e1
  obtain ⟨n2, h2, w2⟩ := oU32 Try.underlying25 (hf 2 _ rfl) (by rw [hxl]; decide)
  have e2 : (cs.drop 2).take (Try.prog.cellsOf 25) = [.int .u32 (n2 : Int)] := h2
  rw [cU32] at e2
  obtain ⟨n3, h3, w3⟩ := oInt Try.underlying3 (hf 3 _ rfl) (by rw [hxl]; decide)
  have e3 : (cs.drop 3).take (Try.prog.cellsOf 3) = [.int .i64 n3] := h3
  rw [cInt] at e3
  obtain ⟨n4, h4, w4⟩ := oInt Try.underlying3 (hf 4 _ rfl) (by rw [hxl]; decide)
  have e4 : (cs.drop 4).take (Try.prog.cellsOf 3) = [.int .i64 n4] := h4
  rw [cInt] at e4
  obtain ⟨n5, h5, w5⟩ := oInt Try.underlying3 (hf 5 _ rfl) (by rw [hxl]; decide)
  have e5 : (cs.drop 5).take (Try.prog.cellsOf 3) = [.int .i64 n5] := h5
  rw [cInt] at e5
  obtain ⟨n6, h6, w6⟩ := oStr Try.underlying9 (hf 6 _ rfl) (by rw [hxl]; decide)
  have e6 : (cs.drop 6).take (Try.prog.cellsOf 9) = [.string n6] := h6
  rw [cStr] at e6
  obtain ⟨n7, h7, w7⟩ := oU32 Try.underlying25 (hf 7 _ rfl) (by rw [hxl]; decide)
  have e7 : (cs.drop 7).take (Try.prog.cellsOf 25) = [.int .u32 (n7 : Int)] := h7
  rw [cU32] at e7
  obtain ⟨n8, h8, w8⟩ := oU32 Try.underlying25 (hf 8 _ rfl) (by rw [hxl]; decide)
  have e8 : (cs.drop 8).take (Try.prog.cellsOf 25) = [.int .u32 (n8 : Int)] := h8
  rw [cU32] at e8
  have E : cs.drop 0 = _ := stp 1 e0 rfl
  rw [stp 2 e1 rfl, stp 3 e2 rfl, stp 4 e3 rfl, stp 5 e4 rfl, stp 6 e5 rfl, stp 7 e6 rfl, stp 8 e7 rfl, stp 9 e8 rfl, fin hlen] at E
  exact ⟨⟨n0, n1, n2, n3, n4, n5, n6, n7, n8⟩, E, ⟨w1, w2, w7, w8⟩⟩
theorem kc_stc : Try.prog.cellsOf 120 = 7 := by kernel_rfl
theorem cS_stc : Try.prog.cellsOf 41 = 1 := by kernel_rfl
theorem el_stc {fuel : Nat} {cs : List Value} {x : DataW H × List MemPlace} (h : DataW.trod enc Try.prog W base spare held fuel 120 cs = some x) : ∃ p : Stc, cs = eStc p ∧ (low p.pfx.addr ∧ low p.next) := by
  obtain ⟨xs, k, _, _, hlen, hxl, hf⟩ := DataW.trod_struct Try.underlying120 h
  rw [kc_stc] at hlen
  obtain ⟨y0, g0⟩ := oSome (hf 0 _ rfl) (by rw [hxl]; decide)
  obtain ⟨n0, h0, w0⟩ := el_pfx g0
  have e0 : (cs.drop 0).take (Try.prog.cellsOf 27) = ePfx n0 := h0
  rw [kc_pfx] at e0
  obtain ⟨n1, h1, w1⟩ := oU32 Try.underlying25 (hf 1 _ rfl) (by rw [hxl]; decide)
  have e1 : (cs.drop 2).take (Try.prog.cellsOf 25) = [.int .u32 (n1 : Int)] := h1
  rw [cU32] at e1
  obtain ⟨n2, h2, w2⟩ := oStr Try.underlying9 (hf 2 _ rfl) (by rw [hxl]; decide)
  have e2 : (cs.drop 3).take (Try.prog.cellsOf 9) = [.string n2] := h2
  rw [cStr] at e2
  obtain ⟨n3, h3⟩ := oBool Try.underlying4 (hf 3 _ rfl) (by rw [hxl]; decide)
  have e3 : (cs.drop 4).take (Try.prog.cellsOf 4) = [.bool n3] := h3
  rw [cBool] at e3
  obtain ⟨n4, h4, w4⟩ := oInt Try.underlying3 (hf 4 _ rfl) (by rw [hxl]; decide)
  have e4 : (cs.drop 5).take (Try.prog.cellsOf 3) = [.int .i64 n4] := h4
  rw [cInt] at e4
  obtain ⟨n5, h5, w5⟩ := oInt Try.underlying3 (hf 5 _ rfl) (by rw [hxl]; decide)
  have e5 : (cs.drop 6).take (Try.prog.cellsOf 3) = [.int .i64 n5] := h5
  rw [cInt] at e5
  have E : cs.drop 0 = _ := stp 2 e0 rfl
  rw [stp 3 e1 rfl, stp 4 e2 rfl, stp 5 e3 rfl, stp 6 e4 rfl, stp 7 e5 rfl, fin hlen] at E
  exact ⟨⟨n0, n1, n2, n3, n4, n5⟩, E, ⟨w0, w1⟩⟩
theorem kc_red : Try.prog.cellsOf 131 = 5 := by kernel_rfl
theorem cS_red : Try.prog.cellsOf 43 = 1 := by kernel_rfl
theorem el_red {fuel : Nat} {cs : List Value} {x : DataW H × List MemPlace} (h : DataW.trod enc Try.prog W base spare held fuel 131 cs = some x) : ∃ p : Red, cs = eRed p ∧ (True) := by
  obtain ⟨xs, k, _, _, hlen, hxl, hf⟩ := DataW.trod_struct Try.underlying131 h
  rw [kc_red] at hlen
  obtain ⟨n0, h0, w0⟩ := oInt Try.underlying3 (hf 0 _ rfl) (by rw [hxl]; decide)
  have e0 : (cs.drop 0).take (Try.prog.cellsOf 3) = [.int .i64 n0] := h0
  rw [cInt] at e0
  obtain ⟨n1, h1, w1⟩ := oInt Try.underlying3 (hf 1 _ rfl) (by rw [hxl]; decide)
  have e1 : (cs.drop 1).take (Try.prog.cellsOf 3) = [.int .i64 n1] := h1
  rw [cInt] at e1
  obtain ⟨n2, h2, w2⟩ := oInt Try.underlying3 (hf 2 _ rfl) (by rw [hxl]; decide)
  have e2 : (cs.drop 2).take (Try.prog.cellsOf 3) = [.int .i64 n2] := h2
  rw [cInt] at e2
  obtain ⟨n3, h3, w3⟩ := oStr Try.underlying9 (hf 3 _ rfl) (by rw [hxl]; decide)
  have e3 : (cs.drop 3).take (Try.prog.cellsOf 9) = [.string n3] := h3
  rw [cStr] at e3
  obtain ⟨n4, h4, w4⟩ := oInt Try.underlying3 (hf 4 _ rfl) (by rw [hxl]; decide)
  have e4 : (cs.drop 4).take (Try.prog.cellsOf 3) = [.int .i64 n4] := h4
  rw [cInt] at e4
  have E : cs.drop 0 = _ := stp 1 e0 rfl
  rw [stp 2 e1 rfl, stp 3 e2 rfl, stp 4 e3 rfl, stp 5 e4 rfl, fin hlen] at E
  exact ⟨⟨n0, n1, n2, n3, n4⟩, E, trivial⟩
theorem kc_rng : Try.prog.cellsOf 123 = 3 := by kernel_rfl
theorem cS_rng : Try.prog.cellsOf 42 = 1 := by kernel_rfl
theorem el_rng {fuel : Nat} {cs : List Value} {x : DataW H × List MemPlace} (h : DataW.trod enc Try.prog W base spare held fuel 123 cs = some x) : ∃ p : Rng, cs = eRng p ∧ (low p.pfx.addr) := by
  obtain ⟨xs, k, _, _, hlen, hxl, hf⟩ := DataW.trod_struct Try.underlying123 h
  rw [kc_rng] at hlen
  obtain ⟨n0, h0, w0⟩ := oInt Try.underlying3 (hf 0 _ rfl) (by rw [hxl]; decide)
  have e0 : (cs.drop 0).take (Try.prog.cellsOf 3) = [.int .i64 n0] := h0
  rw [cInt] at e0
  obtain ⟨y1, g1⟩ := oSome (hf 1 _ rfl) (by rw [hxl]; decide)
  obtain ⟨n1, h1, w1⟩ := el_pfx g1
  have e1 : (cs.drop 1).take (Try.prog.cellsOf 27) = ePfx n1 := h1
  rw [kc_pfx] at e1
  have E : cs.drop 0 = _ := stp 1 e0 rfl
  rw [stp 3 e1 rfl, fin hlen] at E
  exact ⟨⟨n0, n1⟩, E, w1⟩
theorem kc_nbr : Try.prog.cellsOf 133 = 4 := by kernel_rfl
theorem cS_nbr : Try.prog.cellsOf 48 = 1 := by kernel_rfl
theorem el_nbr {fuel : Nat} {cs : List Value} {x : DataW H × List MemPlace} (h : DataW.trod enc Try.prog W base spare held fuel 133 cs = some x) : ∃ p : Nbr, cs = eNbr p ∧ (low p.addr) := by
  obtain ⟨xs, k, _, _, hlen, hxl, hf⟩ := DataW.trod_struct Try.underlying133 h
  rw [kc_nbr] at hlen
  obtain ⟨n0, h0, w0⟩ := oU32 Try.underlying25 (hf 0 _ rfl) (by rw [hxl]; decide)
  have e0 : (cs.drop 0).take (Try.prog.cellsOf 25) = [.int .u32 (n0 : Int)] := h0
  rw [cU32] at e0
  obtain ⟨n1, h1, w1⟩ := oInt Try.underlying3 (hf 1 _ rfl) (by rw [hxl]; decide)
  have e1 : (cs.drop 1).take (Try.prog.cellsOf 3) = [.int .i64 n1] := h1
  rw [cInt] at e1
  obtain ⟨n2, h2, w2⟩ := oStr Try.underlying9 (hf 2 _ rfl) (by rw [hxl]; decide)
  have e2 : (cs.drop 2).take (Try.prog.cellsOf 9) = [.string n2] := h2
  rw [cStr] at e2
  obtain ⟨n3, h3, w3⟩ := oStr Try.underlying9 (hf 3 _ rfl) (by rw [hxl]; decide)
  have e3 : (cs.drop 3).take (Try.prog.cellsOf 9) = [.string n3] := h3
  rw [cStr] at e3
  have E : cs.drop 0 = _ := stp 1 e0 rfl
  rw [stp 2 e1 rfl, stp 3 e2 rfl, stp 4 e3 rfl, fin hlen] at E
  exact ⟨⟨n0, n1, n2, n3⟩, E, w0⟩
theorem kc_aggr : Try.prog.cellsOf 135 = 3 := by kernel_rfl
theorem cS_aggr : Try.prog.cellsOf 50 = 1 := by kernel_rfl
theorem el_aggr {fuel : Nat} {cs : List Value} {x : DataW H × List MemPlace} (h : DataW.trod enc Try.prog W base spare held fuel 135 cs = some x) : ∃ p : Aggr, cs = eAggr p ∧ (low p.pfx.addr) := by
  obtain ⟨xs, k, _, _, hlen, hxl, hf⟩ := DataW.trod_struct Try.underlying135 h
  rw [kc_aggr] at hlen
  obtain ⟨y0, g0⟩ := oSome (hf 0 _ rfl) (by rw [hxl]; decide)
  obtain ⟨n0, h0, w0⟩ := el_pfx g0
  have e0 : (cs.drop 0).take (Try.prog.cellsOf 27) = ePfx n0 := h0
  rw [kc_pfx] at e0
  obtain ⟨n1, h1⟩ := oBool Try.underlying4 (hf 1 _ rfl) (by rw [hxl]; decide)
  have e1 : (cs.drop 2).take (Try.prog.cellsOf 4) = [.bool n1] := h1
  rw [cBool] at e1
  have E : cs.drop 0 = _ := stp 2 e0 rfl
  rw [stp 3 e1 rfl, fin hlen] at E
  exact ⟨⟨n0, n1⟩, E, w0⟩
theorem kc_cnd : Try.prog.cellsOf 137 = 5 := by kernel_rfl
theorem cS_cnd : Try.prog.cellsOf 51 = 1 := by kernel_rfl
theorem el_cnd {fuel : Nat} {cs : List Value} {x : DataW H × List MemPlace} (h : DataW.trod enc Try.prog W base spare held fuel 137 cs = some x) : ∃ p : Cnd, cs = eCnd p ∧ (low p.pfx.addr ∧ low p.iff.addr) := by
  obtain ⟨xs, k, _, _, hlen, hxl, hf⟩ := DataW.trod_struct Try.underlying137 h
  rw [kc_cnd] at hlen
  obtain ⟨y0, g0⟩ := oSome (hf 0 _ rfl) (by rw [hxl]; decide)
  obtain ⟨n0, h0, w0⟩ := el_pfx g0
  have e0 : (cs.drop 0).take (Try.prog.cellsOf 27) = ePfx n0 := h0
  rw [kc_pfx] at e0
  obtain ⟨y1, g1⟩ := oSome (hf 1 _ rfl) (by rw [hxl]; decide)
  obtain ⟨n1, h1, w1⟩ := el_pfx g1
  have e1 : (cs.drop 2).take (Try.prog.cellsOf 27) = ePfx n1 := h1
  rw [kc_pfx] at e1
  obtain ⟨n2, h2⟩ := oBool Try.underlying4 (hf 2 _ rfl) (by rw [hxl]; decide)
  have e2 : (cs.drop 4).take (Try.prog.cellsOf 4) = [.bool n2] := h2
  rw [cBool] at e2
  have E : cs.drop 0 = _ := stp 2 e0 rfl
  rw [stp 4 e1 rfl, stp 5 e2 rfl, fin hlen] at E
  exact ⟨⟨n0, n1, n2⟩, E, ⟨w0, w1⟩⟩
theorem kc_ls : Try.prog.cellsOf 45 = 4 := by kernel_rfl
theorem el_ls {fuel : Nat} {cs : List Value} {x : DataW H × List MemPlace} (h : DataW.trod enc Try.prog W base spare held fuel 45 cs = some x) : ∃ (n0 : Bool) (n1 : Int) (v2 : Value) (n2 : List Rng) (v3 : Value) (n3 : List Red), cs = [.bool n0, .int .i64 n1, v2, v3] ∧ InRow eRng 3 W v2 n2 ∧ (∀ x ∈ n2, low x.pfx.addr) ∧ InRow eRed 5 W v3 n3 := by
  obtain ⟨xs, k, _, _, hlen, hxl, hf⟩ := DataW.trod_struct Try.underlying45 h
  rw [kc_ls] at hlen
  obtain ⟨n0, h0⟩ := oBool Try.underlying4 (hf 0 _ rfl) (by rw [hxl]; decide)
  have e0 : (cs.drop 0).take (Try.prog.cellsOf 4) = [.bool n0] := h0
  rw [cBool] at e0
  obtain ⟨n1, h1, w1⟩ := oInt Try.underlying3 (hf 1 _ rfl) (by rw [hxl]; decide)
  have e1 : (cs.drop 1).take (Try.prog.cellsOf 3) = [.int .i64 n1] := h1
  rw [cInt] at e1
  obtain ⟨v2, n2, h2, r2, w2⟩ := openedC (f := eRng) (z := 3) ⟨0, ⟨0, 0⟩⟩ (fun _ => rfl) Try.underlying42 (by kernel_rfl) el_rng (hf 2 _ rfl) (by rw [hxl]; decide)
  have e2 : (cs.drop 2).take (Try.prog.cellsOf 42) = [v2] := h2
  rw [cS_rng] at e2
  obtain ⟨v3, n3, h3, r3, w3⟩ := openedC (f := eRed) (z := 5) ⟨0, 0, 0, E0, 0⟩ (fun _ => rfl) Try.underlying43 (by kernel_rfl) el_red (hf 3 _ rfl) (by rw [hxl]; decide)
  have e3 : (cs.drop 3).take (Try.prog.cellsOf 43) = [v3] := h3
  rw [cS_red] at e3
  have E : cs.drop 0 = _ := stp 1 e0 rfl
  rw [stp 2 e1 rfl, stp 3 e2 rfl, stp 4 e3 rfl, fin hlen] at E
  exact ⟨_, _, _, _, _, _, E, r2, w2, r3⟩
theorem kc_dv : Try.prog.cellsOf 47 = 5 := by kernel_rfl
theorem el_dv {fuel : Nat} {cs : List Value} {x : DataW H × List MemPlace} (h : DataW.trod enc Try.prog W base spare held fuel 47 cs = some x) : ∃ (n0 : Bool) (n1 : Int) (n2 n3 : ByteArray) (v4 : Value) (n4 : List Red), cs = [.bool n0, .int .i64 n1, .string n2, .string n3, v4] ∧ InRow eRed 5 W v4 n4 := by
  obtain ⟨xs, k, _, _, hlen, hxl, hf⟩ := DataW.trod_struct Try.underlying47 h
  rw [kc_dv] at hlen
  obtain ⟨n0, h0⟩ := oBool Try.underlying4 (hf 0 _ rfl) (by rw [hxl]; decide)
  have e0 : (cs.drop 0).take (Try.prog.cellsOf 4) = [.bool n0] := h0
  rw [cBool] at e0
  obtain ⟨n1, h1, w1⟩ := oInt Try.underlying3 (hf 1 _ rfl) (by rw [hxl]; decide)
  have e1 : (cs.drop 1).take (Try.prog.cellsOf 3) = [.int .i64 n1] := h1
  rw [cInt] at e1
  obtain ⟨n2, h2, w2⟩ := oStr Try.underlying9 (hf 2 _ rfl) (by rw [hxl]; decide)
  have e2 : (cs.drop 2).take (Try.prog.cellsOf 9) = [.string n2] := h2
  rw [cStr] at e2
  obtain ⟨n3, h3, w3⟩ := oStr Try.underlying9 (hf 3 _ rfl) (by rw [hxl]; decide)
  have e3 : (cs.drop 3).take (Try.prog.cellsOf 9) = [.string n3] := h3
  rw [cStr] at e3
  obtain ⟨v4, n4, h4, r4, w4⟩ := openedC (f := eRed) (z := 5) ⟨0, 0, 0, E0, 0⟩ (fun _ => rfl) Try.underlying43 (by kernel_rfl) el_red (hf 4 _ rfl) (by rw [hxl]; decide)
  have e4 : (cs.drop 4).take (Try.prog.cellsOf 43) = [v4] := h4
  rw [cS_red] at e4
  have E : cs.drop 0 = _ := stp 1 e0 rfl
  rw [stp 2 e1 rfl, stp 3 e2 rfl, stp 4 e3 rfl, stp 5 e4 rfl, fin hlen] at E
  exact ⟨_, _, _, _, _, _, E, r4⟩
theorem kc_pv : Try.prog.cellsOf 53 = 8 := by kernel_rfl
theorem el_pv {fuel : Nat} {cs : List Value} {x : DataW H × List MemPlace} (h : DataW.trod enc Try.prog W base spare held fuel 53 cs = some x) : ∃ (n0 : Bool) (n1 n2 : Int) (v3 : Value) (n3 : List Nbr) (v4 : Value) (n4 : List Pfx) (v5 : Value) (n5 : List Aggr) (v6 : Value) (n6 : List Cnd) (v7 : Value) (n7 : List Red), cs = [.bool n0, .int .i64 n1, .int .i64 n2, v3, v4, v5, v6, v7] ∧ (InRow eNbr 4 W v3 n3 ∧ ∀ x ∈ n3, low x.addr) ∧ (InRow ePfx 2 W v4 n4 ∧ ∀ x ∈ n4, low x.addr) ∧ (InRow eAggr 3 W v5 n5 ∧ ∀ x ∈ n5, low x.pfx.addr) ∧ (InRow eCnd 5 W v6 n6 ∧ ∀ x ∈ n6, low x.pfx.addr ∧ low x.iff.addr) ∧ InRow eRed 5 W v7 n7 := by
  obtain ⟨xs, k, _, _, hlen, hxl, hf⟩ := DataW.trod_struct Try.underlying53 h
  rw [kc_pv] at hlen
  obtain ⟨n0, h0⟩ := oBool Try.underlying4 (hf 0 _ rfl) (by rw [hxl]; decide)
  have e0 : (cs.drop 0).take (Try.prog.cellsOf 4) = [.bool n0] := h0
  rw [cBool] at e0
  obtain ⟨n1, h1, w1⟩ := oInt Try.underlying3 (hf 1 _ rfl) (by rw [hxl]; decide)
  have e1 : (cs.drop 1).take (Try.prog.cellsOf 3) = [.int .i64 n1] := h1
  rw [cInt] at e1
  obtain ⟨n2, h2, w2⟩ := oInt Try.underlying3 (hf 2 _ rfl) (by rw [hxl]; decide)
  have e2 : (cs.drop 2).take (Try.prog.cellsOf 3) = [.int .i64 n2] := h2
  rw [cInt] at e2
  obtain ⟨v3, n3, h3, r3, w3⟩ := openedC (f := eNbr) (z := 4) ⟨0, 0, E0, E0⟩ (fun _ => rfl) Try.underlying48 (by kernel_rfl) el_nbr (hf 3 _ rfl) (by rw [hxl]; decide)
  have e3 : (cs.drop 3).take (Try.prog.cellsOf 48) = [v3] := h3
  rw [cS_nbr] at e3
  obtain ⟨v4, n4, h4, r4, w4⟩ := openedC (f := ePfx) (z := 2) ⟨0, 0⟩ (fun _ => rfl) Try.underlying49 (by kernel_rfl) el_pfx (hf 4 _ rfl) (by rw [hxl]; decide)
  have e4 : (cs.drop 4).take (Try.prog.cellsOf 49) = [v4] := h4
  rw [cS_pfx] at e4
  obtain ⟨v5, n5, h5, r5, w5⟩ := openedC (f := eAggr) (z := 3) ⟨⟨0, 0⟩, false⟩ (fun _ => rfl) Try.underlying50 (by kernel_rfl) el_aggr (hf 5 _ rfl) (by rw [hxl]; decide)
  have e5 : (cs.drop 5).take (Try.prog.cellsOf 50) = [v5] := h5
  rw [cS_aggr] at e5
  obtain ⟨v6, n6, h6, r6, w6⟩ := openedC (f := eCnd) (z := 5) ⟨⟨0, 0⟩, ⟨0, 0⟩, false⟩ (fun _ => rfl) Try.underlying51 (by kernel_rfl) el_cnd (hf 6 _ rfl) (by rw [hxl]; decide)
  have e6 : (cs.drop 6).take (Try.prog.cellsOf 51) = [v6] := h6
  rw [cS_cnd] at e6
  obtain ⟨v7, n7, h7, r7, w7⟩ := openedC (f := eRed) (z := 5) ⟨0, 0, 0, E0, 0⟩ (fun _ => rfl) Try.underlying43 (by kernel_rfl) el_red (hf 7 _ rfl) (by rw [hxl]; decide)
  have e7 : (cs.drop 7).take (Try.prog.cellsOf 43) = [v7] := h7
  rw [cS_red] at e7
  have E : cs.drop 0 = _ := stp 1 e0 rfl
  rw [stp 2 e1 rfl, stp 3 e2 rfl, stp 4 e3 rfl, stp 5 e4 rfl, stp 6 e5 rfl, stp 7 e6 rfl, stp 8 e7 rfl, fin hlen] at E
  exact ⟨_, _, _, _, _, _, _, _, _, _, _, _, _, E, ⟨r3, w3⟩, ⟨r4, w4⟩, ⟨r5, w5⟩, ⟨r6, w6⟩, r7⟩
theorem kc_rtr : Try.prog.cellsOf 55 = 25 := by kernel_rfl
theorem el_rtr {fuel : Nat} {cs : List Value} {x : DataW H × List MemPlace} (h : DataW.trod enc Try.prog W base spare held fuel 55 cs = some x) : ∃ p : Rtr, cs = eRtr p ∧ RtrIn W p := by
  obtain ⟨xs, k, _, _, hlen, hxl, hf⟩ := DataW.trod_struct Try.underlying55 h
  rw [kc_rtr] at hlen
  obtain ⟨n0, h0, w0⟩ := oStr Try.underlying9 (hf 0 _ rfl) (by rw [hxl]; decide)
  have e0 : (cs.drop 0).take (Try.prog.cellsOf 9) = [.string n0] := h0
  rw [cStr] at e0
  obtain ⟨n1, h1, w1⟩ := oInt Try.underlying3 (hf 1 _ rfl) (by rw [hxl]; decide)
  have e1 : (cs.drop 1).take (Try.prog.cellsOf 3) = [.int .i64 n1] := h1
  rw [cInt] at e1
  obtain ⟨v2, n2, h2, r2, w2⟩ := openedC (f := eIfc) (z := 12) ⟨E0, 0, 0, 0, false, false, 0, 0, false, E0, E0, 0⟩ (fun _ => rfl) Try.underlying36 (by kernel_rfl) el_ifc (hf 2 _ rfl) (by rw [hxl]; decide)
  have e2 : (cs.drop 2).take (Try.prog.cellsOf 36) = [v2] := h2
  rw [cS_ifc] at e2
  obtain ⟨v3, n3, h3, r3, w3⟩ := openedC (f := ePList) (z := 2) ⟨E0, .bool false, []⟩ (fun _ => rfl) Try.underlying37 (by kernel_rfl) el_plist (hf 3 _ rfl) (by rw [hxl]; decide)
  have e3 : (cs.drop 3).take (Try.prog.cellsOf 37) = [v3] := h3
  rw [cS_plist] at e3
  obtain ⟨v4, n4, h4, r4, w4⟩ := openedC (f := eRMap) (z := 2) ⟨E0, .bool false, []⟩ (fun _ => rfl) Try.underlying38 (by kernel_rfl) el_rmap (hf 4 _ rfl) (by rw [hxl]; decide)
  have e4 : (cs.drop 4).take (Try.prog.cellsOf 38) = [v4] := h4
  rw [cS_rmap] at e4
  obtain ⟨v5, n5, h5, r5, w5⟩ := openedC (f := eAcl) (z := 2) ⟨E0, .bool false, []⟩ (fun _ => rfl) Try.underlying39 (by kernel_rfl) el_acl (hf 5 _ rfl) (by rw [hxl]; decide)
  have e5 : (cs.drop 5).take (Try.prog.cellsOf 39) = [v5] := h5
  rw [cS_acl] at e5
  obtain ⟨v6, n6, h6, r6, w6⟩ := openedC (f := eTran) (z := 9) ⟨0, 0, 0, 0, 0, 0, E0, 0, 0⟩ (fun _ => rfl) Try.underlying40 (by kernel_rfl) el_tran (hf 6 _ rfl) (by rw [hxl]; decide)
  have e6 : (cs.drop 6).take (Try.prog.cellsOf 40) = [v6] := h6
  rw [cS_tran] at e6
  obtain ⟨v7, n7, h7, r7, w7⟩ := openedC (f := eStc) (z := 7) ⟨⟨0, 0⟩, 0, E0, false, 0, 0⟩ (fun _ => rfl) Try.underlying41 (by kernel_rfl) el_stc (hf 7 _ rfl) (by rw [hxl]; decide)
  have e7 : (cs.drop 7).take (Try.prog.cellsOf 41) = [v7] := h7
  rw [cS_stc] at e7
  obtain ⟨y8, g8⟩ := oSome (hf 8 _ rfl) (by rw [hxl]; decide)
  obtain ⟨a_ls, b_ls, va_ls, la_ls, vb_ls, lb_ls, h8, w8⟩ := el_ls g8
  have e8 : (cs.drop 8).take (Try.prog.cellsOf 45) = [.bool a_ls, .int .i64 b_ls, va_ls, vb_ls] := h8
  rw [kc_ls] at e8
  obtain ⟨y9, g9⟩ := oSome (hf 9 _ rfl) (by rw [hxl]; decide)
  obtain ⟨a_dv, b_dv, c_dv, d_dv, va_dv, la_dv, h9, w9⟩ := el_dv g9
  have e9 : (cs.drop 12).take (Try.prog.cellsOf 47) = [.bool a_dv, .int .i64 b_dv, .string c_dv, .string d_dv, va_dv] := h9
  rw [kc_dv] at e9
  obtain ⟨y10, g10⟩ := oSome (hf 10 _ rfl) (by rw [hxl]; decide)
  obtain ⟨a_pv, b_pv, c_pv, va_pv, la_pv, vb_pv, lb_pv, vc_pv, lc_pv, vd_pv, ld_pv, ve_pv, le_pv, h10, w10⟩ := el_pv g10
  have e10 : (cs.drop 17).take (Try.prog.cellsOf 53) = [.bool a_pv, .int .i64 b_pv, .int .i64 c_pv, va_pv, vb_pv, vc_pv, vd_pv, ve_pv] := h10
  rw [kc_pv] at e10
  have E : cs.drop 0 = _ := stp 1 e0 rfl
  rw [stp 2 e1 rfl, stp 3 e2 rfl, stp 4 e3 rfl, stp 5 e4 rfl, stp 6 e5 rfl, stp 7 e6 rfl, stp 8 e7 rfl, stp 12 e8 rfl, stp 17 e9 rfl, stp 25 e10 rfl, fin hlen] at E
  exact ⟨⟨n0, n1, v2, n2, v3, n3, v4, n4, v5, n5, v6, n6, v7, n7, a_ls, b_ls, va_ls, la_ls, vb_ls, lb_ls, a_dv, b_dv, c_dv, d_dv, va_dv, la_dv, a_pv, b_pv, c_pv, va_pv, la_pv, vb_pv, lb_pv, vc_pv, lc_pv, vd_pv, ld_pv, ve_pv, le_pv⟩, E, { name := w0, ifs := r2, ifsN := fun x hx => (w2 x hx).1, ifsA := fun x hx => (w2 x hx).2, lists := r3, listsN := fun x hx => (w3 x hx).1, listsR := fun x hx => (w3 x hx).2.1, listsA := fun x hx => (w3 x hx).2.2, maps := r4, mapsN := fun x hx => (w4 x hx).1, mapsR := fun x hx => (w4 x hx).2, acls := r5, aclsN := fun x hx => (w5 x hx).1, aclsR := fun x hx => (w5 x hx).2.1, aclsA := fun x hx => (w5 x hx).2.2, nat := r6, natA := w6, sts := r7, stsA := w7, rngs := w8.1, rngsA := w8.2.1, lsr := w8.2.2, dvr := w9, nbrs := w10.1.1, nbrsA := w10.1.2, nets := w10.2.1.1, netsA := w10.2.1.2, aggs := w10.2.2.1.1, aggsA := w10.2.2.1.2, cnds := w10.2.2.2.1.1, cndsA := w10.2.2.2.1.2, pvr := w10.2.2.2.2 }⟩
set_option maxRecDepth 100000 in
theorem opRtr {r : Reach} {b0 : Nat} {v : Value} {d : DataW H} {p : List MemPlace} (hv : Value.okWide Try.prog W r b0 55 v) (h : DataW.Trod enc Try.prog W base spare held 55 v d p) :
    ∃ q : Rtr, v = .agg (eRtr q).toArray ∧ RtrIn W q := by
  obtain ⟨cs, rfl, _⟩ := okWide_struct Try.underlying55 hv
  obtain ⟨m, hm⟩ := h
  obtain ⟨q, hq, hi⟩ := el_rtr hm
  refine ⟨q, ?_, hi⟩
  rw [← hq]
  rfl
end
end Go.Proofs.Ytlhbfpapmolohaa.Mo
