/-
  PREFIXES, PREFIX RULES AND LISTS, AND ROUTES IN OLD MEMORY, AS A ROW's DATUM READS THEM.
-/
import Derived.Test.YtlhbfpapmolohaaModOp
import Derived.Test.YtlhbfpapmolohaaPolP
namespace Go.Proofs.Ytlhbfpapmolohaa.Mo
set_option linter.unusedSimpArgs false
set_option linter.unusedVariables false
open Go.RowKit Go.WideShapes Mp Mm

section
variable {H : Type} {enc : TypeId × Value → H} {W : World} {base : Nat} {spare : Nat → Bool} {held : Bool} {n : Nat} {t : TypeId} {cs : List Value} {xs : List (DataW H × List MemPlace)} {i : Nat}
theorem kc_hop : Try.prog.cellsOf 91 = 2 := by kernel_rfl
theorem cS_hop : Try.prog.cellsOf 60 = 1 := by kernel_rfl
theorem cS_int : Try.prog.cellsOf 59 = 1 := by kernel_rfl
theorem kc_rte : Try.prog.cellsOf 62 = 14 := by kernel_rfl
theorem el_int {fuel : Nat} {cs : List Value} {x : DataW H × List MemPlace} (h : DataW.trod enc Try.prog W base spare held fuel 3 cs = some x) : ∃ p : Int, cs = eInt p ∧ True := by
  obtain ⟨m, h1, _⟩ := DataW.trod_int Try.underlying3 h
  exact ⟨m, h1, trivial⟩
theorem el_hop {fuel : Nat} {cs : List Value} {x : DataW H × List MemPlace} (h : DataW.trod enc Try.prog W base spare held fuel 91 cs = some x) : ∃ p : Hp, cs = eHp p ∧ low p.addr := by
  obtain ⟨xs, k, _, _, hlen, hxl, hf⟩ := DataW.trod_struct Try.underlying91 h
  rw [kc_hop] at hlen
  obtain ⟨n0, h0, w0⟩ := oInt Try.underlying3 (hf 0 _ rfl) (by rw [hxl]; decide)
  have e0 : (cs.drop 0).take (Try.prog.cellsOf 3) = [.int .i64 n0] := h0
  rw [cInt] at e0
  obtain ⟨n1, h1, w1⟩ := oU32 Try.underlying25 (hf 1 _ rfl) (by rw [hxl]; decide)
  have e1 : (cs.drop 1).take (Try.prog.cellsOf 25) = [.int .u32 (n1 : Int)] := h1
  rw [cU32] at e1
  have E : cs.drop 0 = _ := stp 1 e0 rfl
  rw [stp 2 e1 rfl, fin hlen] at E
  exact ⟨⟨n0, n1⟩, E, w1⟩
theorem el_rte {fuel : Nat} {cs : List Value} {x : DataW H × List MemPlace} (h : DataW.trod enc Try.prog W base spare held fuel 62 cs = some x) : ∃ p : Rte, cs = eRte p ∧ RteIn W p := by
  obtain ⟨xs, k, _, _, hlen, hxl, hf⟩ := DataW.trod_struct Try.underlying62 h
  rw [kc_rte] at hlen
  obtain ⟨y0, g0⟩ := oSome (hf 0 _ rfl) (by rw [hxl]; decide)
  obtain ⟨n0, h0, w0⟩ := el_pfx g0
  have e0 : (cs.drop 0).take (Try.prog.cellsOf 27) = ePfx n0 := h0
  rw [kc_pfx] at e0
  obtain ⟨n1, h1, w1⟩ := oInt Try.underlying3 (hf 1 _ rfl) (by rw [hxl]; decide)
  have e1 : (cs.drop 2).take (Try.prog.cellsOf 3) = [.int .i64 n1] := h1
  rw [cInt] at e1
  obtain ⟨n2, h2, w2⟩ := oInt Try.underlying3 (hf 2 _ rfl) (by rw [hxl]; decide)
  have e2 : (cs.drop 3).take (Try.prog.cellsOf 3) = [.int .i64 n2] := h2
  rw [cInt] at e2
  obtain ⟨n3, h3, w3⟩ := oInt Try.underlying3 (hf 3 _ rfl) (by rw [hxl]; decide)
  have e3 : (cs.drop 4).take (Try.prog.cellsOf 3) = [.int .i64 n3] := h3
  rw [cInt] at e3
  obtain ⟨n4, h4, w4⟩ := oInt Try.underlying3 (hf 4 _ rfl) (by rw [hxl]; decide)
  have e4 : (cs.drop 5).take (Try.prog.cellsOf 3) = [.int .i64 n4] := h4
  rw [cInt] at e4
  obtain ⟨n5, h5, w5⟩ := oInt Try.underlying3 (hf 5 _ rfl) (by rw [hxl]; decide)
  have e5 : (cs.drop 6).take (Try.prog.cellsOf 3) = [.int .i64 n5] := h5
  rw [cInt] at e5
  obtain ⟨n6, h6, w6⟩ := oInt Try.underlying3 (hf 6 _ rfl) (by rw [hxl]; decide)
  have e6 : (cs.drop 7).take (Try.prog.cellsOf 3) = [.int .i64 n6] := h6
  rw [cInt] at e6
  obtain ⟨n7, h7, w7⟩ := oInt Try.underlying3 (hf 7 _ rfl) (by rw [hxl]; decide)
  have e7 : (cs.drop 8).take (Try.prog.cellsOf 3) = [.int .i64 n7] := h7
  rw [cInt] at e7
  obtain ⟨v8, n8, h8, r8, w8⟩ := openedC (f := eInt) (z := 1) (0 : Int) (fun _ => rfl) Try.underlying59 (by kernel_rfl) el_int (hf 8 _ rfl) (by rw [hxl]; decide)
  have e8 : (cs.drop 9).take (Try.prog.cellsOf 59) = [v8] := h8
  rw [cS_int] at e8
  obtain ⟨n9, h9, w9⟩ := oU32 Try.underlying25 (hf 9 _ rfl) (by rw [hxl]; decide)
  have e9 : (cs.drop 10).take (Try.prog.cellsOf 25) = [.int .u32 (n9 : Int)] := h9
  rw [cU32] at e9
  obtain ⟨n10, h10, w10⟩ := oU32 Try.underlying25 (hf 10 _ rfl) (by rw [hxl]; decide)
  have e10 : (cs.drop 11).take (Try.prog.cellsOf 25) = [.int .u32 (n10 : Int)] := h10
  rw [cU32] at e10
  obtain ⟨v11, n11, h11, r11, w11⟩ := openedC (f := eHp) (z := 2) (⟨0, 0⟩ : Hp) (fun _ => rfl) Try.underlying60 (by kernel_rfl) el_hop (hf 11 _ rfl) (by rw [hxl]; decide)
  have e11 : (cs.drop 12).take (Try.prog.cellsOf 60) = [v11] := h11
  rw [cS_hop] at e11
  obtain ⟨n12, h12⟩ := oBool Try.underlying4 (hf 12 _ rfl) (by rw [hxl]; decide)
  have e12 : (cs.drop 13).take (Try.prog.cellsOf 4) = [.bool n12] := h12
  rw [cBool] at e12
  have E : cs.drop 0 = _ := stp 2 e0 rfl
  rw [stp 3 e1 rfl, stp 4 e2 rfl, stp 5 e3 rfl, stp 6 e4 rfl, stp 7 e5 rfl, stp 8 e6 rfl, stp 9 e7 rfl, stp 10 e8 rfl, stp 11 e9 rfl, stp 12 e10 rfl, stp 13 e11 rfl, stp 14 e12 rfl, fin hlen] at E
  exact ⟨⟨n0, n1, n2, n3, n4, n5, n6, n7, v8, n8, n9, n10, v11, n11, n12⟩, E, ⟨w0, r8, w9, w10, r11, w11⟩⟩
set_option maxRecDepth 100000 in
theorem opPfx {r : Reach} {b0 : Nat} {v : Value} {d : DataW H} {p : List MemPlace} (hv : Value.okWide Try.prog W r b0 27 v) (h : DataW.Trod enc Try.prog W base spare held 27 v d p) :
    ∃ q : Pfx, v = .agg (ePfx q).toArray ∧ low q.addr := by
  obtain ⟨cs, rfl, _⟩ := okWide_struct Try.underlying27 hv
  obtain ⟨m, hm⟩ := h
  obtain ⟨q, hq, hi⟩ := el_pfx hm
  refine ⟨q, ?_, hi⟩
  rw [← hq]
  rfl
set_option maxRecDepth 100000 in
theorem opPRule {r : Reach} {b0 : Nat} {v : Value} {d : DataW H} {p : List MemPlace} (hv : Value.okWide Try.prog W r b0 31 v) (h : DataW.Trod enc Try.prog W base spare held 31 v d p) :
    ∃ q : PRule, v = .agg (ePRule q).toArray ∧ low q.pfx.addr := by
  obtain ⟨cs, rfl, _⟩ := okWide_struct Try.underlying31 hv
  obtain ⟨m, hm⟩ := h
  obtain ⟨q, hq, hi⟩ := el_prule hm
  refine ⟨q, ?_, hi⟩
  rw [← hq]
  rfl
set_option maxRecDepth 100000 in
theorem opPList {r : Reach} {b0 : Nat} {v : Value} {d : DataW H} {p : List MemPlace} (hv : Value.okWide Try.prog W r b0 24 v) (h : DataW.Trod enc Try.prog W base spare held 24 v d p) :
    ∃ q : PList, v = .agg (ePList q).toArray ∧ (sz q.name ∧ InRow ePRule 5 W q.v q.rules ∧ ∀ y ∈ q.rules, low y.pfx.addr) := by
  obtain ⟨cs, rfl, _⟩ := okWide_struct Try.underlying24 hv
  obtain ⟨m, hm⟩ := h
  obtain ⟨q, hq, hi⟩ := el_plist hm
  refine ⟨q, ?_, hi⟩
  rw [← hq]
  rfl
set_option maxRecDepth 100000 in
theorem opRte {r : Reach} {b0 : Nat} {v : Value} {d : DataW H} {p : List MemPlace} (hv : Value.okWide Try.prog W r b0 62 v) (h : DataW.Trod enc Try.prog W base spare held 62 v d p) :
    ∃ q : Rte, v = .agg (eRte q).toArray ∧ RteIn W q := by
  obtain ⟨cs, rfl, _⟩ := okWide_struct Try.underlying62 hv
  obtain ⟨m, hm⟩ := h
  obtain ⟨q, hq, hi⟩ := el_rte hm
  refine ⟨q, ?_, hi⟩
  rw [← hq]
  rfl
end
end Go.Proofs.Ytlhbfpapmolohaa.Mo
