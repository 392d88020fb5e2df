/-
  HOW LONG THE TEXTS OF A ROUTER MAY BE, AS A ROW's REACH SAYS IT.
-/
import Derived.Test.YtmffbdohcnebdaaGreatModOp
import Derived.SizedLaws
namespace Go.Proofs.YtmffbdohcnebdaaGreat.Mo
set_option linter.unusedSimpArgs false
set_option linter.unusedVariables false
open Go.RowKit Go.WideShapes Mp Mm

section
variable {H : Type} {enc : TypeId × Value → H} {W : World} {base : Nat} {spare : Nat → Bool} {held : Bool}
theorem agg_weights {P : Program} {t : TypeId} {fs : Array Field} {parts : List (DataW H)} (ht : P.underlying t = some (.struct fs)) : (DataW.agg parts).weights P t = DataW.weightsEach P (fs.toList.map (·.type)) parts := by
  simp [DataW.weights, ht]
set_option maxRecDepth 100000 in
theorem rtr_dvOut {fuel : Nat} {q : Rtr} {x : DataW H × List MemPlace} (h : DataW.trod enc Tryz.prog W base spare held fuel 41 (eRtr q) = some x) : q.dvOut.size ∈ x.1.weights Tryz.prog 41 := by
  obtain ⟨xs, k, _, rfl, _, hxl, hf⟩ := DataW.trod_struct Tryz.underlying41 h
  obtain ⟨y, hy⟩ := oSome (hf 9 _ rfl) (by rw [hxl]; decide)
  have hy' := (hf 9 _ rfl).symm.trans hy
  obtain ⟨ys, k2, _, rfl, _, hyl, hg⟩ := DataW.trod_struct Tryz.underlying33 hy
  obtain ⟨z, hz⟩ := oSome (hg 3 _ rfl) (by rw [hyl]; decide)
  have hz' := (hg 3 _ rfl).symm.trans hz
  obtain ⟨s, hs, rfl, _⟩ := DataW.trod_string Tryz.underlying9 hz
  have e : (((((eRtr q).drop 12).take (Tryz.prog.cellsOf 33)).drop 3).take (Tryz.prog.cellsOf 9)) = [.string s] := hs
  rw [kc_dv, cStr] at e
  have e' : [Value.string q.dvOut] = [.string s] := e
  injection e' with e1 _
  injection e1 with e1
  subst e1
  show _ ∈ (DataW.agg (xs.map (·.1))).weights _ _
  rw [agg_weights Tryz.underlying41]
  refine DataW.weights_mem_each (j := 9) (t := 33) rfl (by rw [List.getElem?_map, hy']; rfl) _ ?_
  show _ ∈ (DataW.agg (ys.map (·.1))).weights _ _
  rw [agg_weights Tryz.underlying33]
  refine DataW.weights_mem_each (j := 3) (t := 9) rfl (by rw [List.getElem?_map, hz']; rfl) _ ?_
  show _ ∈ (DataW.lit (.string q.dvOut.data.toList)).weights _ _
  rw [DataW.weights]
  exact List.mem_singleton.2 rfl
/-- The router's text is within the reach. -/
theorem dv_reach {v : Value} {q : Rtr} {d : DataW H} {p : List MemPlace} (hv : v = .agg (eRtr q).toArray) (h : DataW.Trod enc Tryz.prog W base spare held 41 v d p) {ts : List TypeId} {ds : List (DataW H)}
    (hsz : (DataW.weightsEach Tryz.prog ts ds).all (· ≤ reachBytes) = true) {j : Nat} (ht : ts[j]? = some 41) (hd : ds[j]? = some d) : q.dvOut.size + 1 ≤ 9223372036854775807 := by
  subst hv
  obtain ⟨m, hm⟩ := h
  have h1 := rtr_dvOut (q := q) hm
  have := List.all_eq_true.1 hsz _ (DataW.weights_mem_each ht hd _ h1)
  have h2 : q.dvOut.size ≤ reachBytes := by simpa using this
  have h3 : reachBytes = 140737488351232 := by decide
  omega
end
end Go.Proofs.YtmffbdohcnebdaaGreat.Mo
