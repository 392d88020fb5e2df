/-
  WHAT IT MEANS THAT A ROUTER OR A NETWORK LIES IN MEMORY, AND THAT IT STAYS. No function of the program is named.
-/
import Derived.Test.YtlhbfpapmolohaaModP
import Derived.Test.YtlhbfpapmolohaaModM
namespace Go.Proofs.Ytlhbfpapmolohaa.Mm
set_option linter.unusedSimpArgs false
set_option linter.unusedVariables false
open Go.RowKit Kt Mp

def big : Nat := 9223372036854775807
/-- A list in memory, not longer than a slice can be. -/
structure InRow {α : Type} (f : α → List Value) (z : Nat) (w : World) (v : Value) (s : List α) : Prop where
  row : IsRow f z w v s
  len : s.length ≤ 9223372036854775807
theorem InRow.keep {α : Type} {f : α → List Value} {z : Nat} {w w' : World} {v : Value} {s : List α} (h : InRow f z w v s) (hb : Below w.heap.size w w') : InRow f z w' v s := ⟨rows_keep h.row hb, h.len⟩
def low (a : Nat) : Prop := a < 4294967296
def sz (s : ByteArray) : Prop := s.size ≤ maxLen
structure RtrIn (w : World) (r : Rtr) : Prop where
  name : sz r.name
  ifs : InRow eIfc 12 w r.vIfs r.ifs
  ifsN : ∀ x ∈ r.ifs, sz x.name
  ifsA : ∀ x ∈ r.ifs, low x.addr
  lists : InRow ePList 2 w r.vLists r.lists
  listsN : ∀ x ∈ r.lists, sz x.name
  listsR : ∀ x ∈ r.lists, InRow ePRule 5 w x.v x.rules
  listsA : ∀ x ∈ r.lists, ∀ y ∈ x.rules, low y.pfx.addr
  maps : InRow eRMap 2 w r.vMaps r.maps
  mapsN : ∀ x ∈ r.maps, sz x.name
  mapsR : ∀ x ∈ r.maps, InRow eCla 7 w x.v x.clauses
  acls : InRow eAcl 2 w r.vAcls r.acls
  aclsN : ∀ x ∈ r.acls, sz x.name
  aclsR : ∀ x ∈ r.acls, InRow eRule 10 w x.v x.rules
  aclsA : ∀ x ∈ r.acls, ∀ y ∈ x.rules, low y.src.addr ∧ low y.src.mask ∧ low y.dst.addr ∧ low y.dst.mask
  nat : InRow eTran 9 w r.vNat r.nat
  natA : ∀ x ∈ r.nat, low x.ins ∧ low x.outs ∧ low x.lo ∧ low x.hi
  sts : InRow eStc 7 w r.vSts r.sts
  stsA : ∀ x ∈ r.sts, low x.pfx.addr ∧ low x.next
  rngs : InRow eRng 3 w r.vRngs r.rngs
  rngsA : ∀ x ∈ r.rngs, low x.pfx.addr
  lsr : InRow eRed 5 w r.vLsr r.lsr
  dvr : InRow eRed 5 w r.vDvr r.dvr
  nbrs : InRow eNbr 4 w r.vNbrs r.nbrs
  nbrsA : ∀ x ∈ r.nbrs, low x.addr
  nets : InRow ePfx 2 w r.vNets r.nets
  netsA : ∀ x ∈ r.nets, low x.addr
  aggs : InRow eAggr 3 w r.vAggs r.aggs
  aggsA : ∀ x ∈ r.aggs, low x.pfx.addr
  cnds : InRow eCnd 5 w r.vCnds r.cnds
  cndsA : ∀ x ∈ r.cnds, low x.pfx.addr ∧ low x.iff.addr
  pvr : InRow eRed 5 w r.vPvr r.pvr
theorem RtrIn.keep {w w' : World} {r : Rtr} (h : RtrIn w r) (hb : Below w.heap.size w w') : RtrIn w' r :=
  { h with
    ifs := h.ifs.keep hb, lists := h.lists.keep hb, listsR := fun x hx => (h.listsR x hx).keep hb, maps := h.maps.keep hb, mapsR := fun x hx => (h.mapsR x hx).keep hb, acls := h.acls.keep hb, aclsR := fun x hx => (h.aclsR x hx).keep hb,
    nat := h.nat.keep hb, sts := h.sts.keep hb, rngs := h.rngs.keep hb, lsr := h.lsr.keep hb, dvr := h.dvr.keep hb, nbrs := h.nbrs.keep hb, nets := h.nets.keep hb, aggs := h.aggs.keep hb, cnds := h.cnds.keep hb, pvr := h.pvr.keep hb }
structure NetIn (w : World) (v : Value) (l : List Rtr) : Prop where
  row : InRow eRtr 25 w v l
  each : ∀ r ∈ l, RtrIn w r
theorem NetIn.keep {w w' : World} {v : Value} {l : List Rtr} (h : NetIn w v l) (hb : Below w.heap.size w w') : NetIn w' v l := ⟨h.row.keep hb, fun r hr => (h.each r hr).keep hb⟩

/-- The value of a row is one cell. -/
theorem row_one {z n : Nat} {w : World} {v : Value} {xs : List Value} (h : Rows w z v n xs) : v.oneCell' = true := by
  obtain ⟨_, h⟩ := h
  rcases h with ⟨rfl, _⟩ | ⟨x, cap, rfl, _⟩ <;> rfl
/-- The first elements of a row. -/
theorem row_take {α : Type} {f : α → List Value} {z : Nat} (hz : ∀ x, (f x).length = z) {w : World} {b off n cap : Nat} {l : List α} (h : IsRow f z w (.slice (some ⟨b, off, none⟩) n cap) l) (hn : n = l.length) {i : Nat} (hi : i ≤ n) :
    IsRow f z w (.slice (some ⟨b, off, none⟩) i cap) (l.take i) := by
  obtain ⟨h1, h2⟩ := h
  rcases h2 with ⟨h2, _⟩ | ⟨x, cap', hv, hnc, hc⟩
  · cases h2
  · cases hv
    have hl : (l.take i).length = i := by rw [List.length_take]; omega
    refine ⟨by rw [fl_len hz], .inr ⟨_, cap, by rw [hl], by rw [hl]; omega, fun j u hj => hc j u ?_⟩⟩
    have e : fl f l = fl f (l.take i) ++ fl f (l.drop i) := by rw [← fl_append, List.take_append_drop]
    rw [e, List.getElem?_append_left (by rcases Nat.lt_or_ge j (fl f (l.take i)).length with h | h; exact h; rw [List.getElem?_eq_none h] at hj; cases hj)]
    exact hj
/-- The address of a row that has an element. -/
theorem row_addr {α : Type} {f : α → List Value} {z : Nat} (hz0 : 0 < z) {w : World} {v : Value} {l : List α} (h : IsRow f z w v l) {i : Nat} {x : α} (hx : l[i]? = some x) :
    ∃ b off cap, v = .slice (some ⟨b, off, none⟩) l.length cap ∧ l.length ≤ cap ∧ b < w.heap.size ∧ ∀ j u, (fl f l)[j]? = some u → w.cell? ⟨b, off + j, none⟩ = some u := by
  obtain ⟨a, cap, rfl, hn, hc⟩ := rows_open hz0 h
  have hlt : i < l.length := (List.getElem?_eq_some_iff.1 hx).1
  obtain ⟨b, off, rfl, hb, hcell⟩ := hc (by omega)
  exact ⟨b, off, cap, rfl, hn, hb, hcell⟩
theorem one_str (s : ByteArray) : (Value.string s).oneCell' = true := rfl
theorem one_int (k : IntKind) (n : Int) : (Value.int k n).oneCell' = true := rfl
theorem one_bool (b : Bool) : (Value.bool b).oneCell' = true := rfl
theorem eRtr_one {w : World} {r : Rtr} (h : RtrIn w r) : (eRtr r).toArray.all (·.oneCell') = true := by
  simp [eRtr, row_one h.ifs.row, row_one h.lists.row, row_one h.maps.row, row_one h.acls.row, row_one h.nat.row, row_one h.sts.row, row_one h.rngs.row, row_one h.lsr.row, row_one h.dvr.row, row_one h.nbrs.row, row_one h.nets.row, row_one h.aggs.row, row_one h.cnds.row, row_one h.pvr.row, one_str, one_int, one_bool]
theorem ePList_one {w : World} {x : PList} (h : InRow ePRule 5 w x.v x.rules) : (ePList x).toArray.all (·.oneCell') = true := by simp [ePList, row_one h.row, one_str, one_int, one_bool]
theorem eRMap_one {w : World} {x : RMap} (h : InRow eCla 7 w x.v x.clauses) : (eRMap x).toArray.all (·.oneCell') = true := by simp [eRMap, row_one h.row, one_str, one_int, one_bool]
theorem eAcl_one {w : World} {x : Acl} (h : InRow eRule 10 w x.v x.rules) : (eAcl x).toArray.all (·.oneCell') = true := by simp [eAcl, row_one h.row, one_str, one_int, one_bool]
end Go.Proofs.Ytlhbfpapmolohaa.Mm
namespace Go.Proofs.Ytlhbfpapmolohaa.Mw
open Go.RowKit Kt
/-- A region that draws its order, at the class of worlds that are later than w1. -/
theorem wp_region_base {P : Program} {id : Nat} {Q : Exit → Act → World → Prop} {a : Act} {w : World} {l : List Oper} (w1 : World) (hb : Below w1.heap.size w1 w) (hm : P.follows .mixedOrders = true) (hB : Region.lexB .any l.toArray = true)
    (h : wpQuiet P l.toArray (fun w' => ∃ u : Later w1.heap.size w1, w' = u.w) (fun a' => ∀ w', (∃ u : Later w1.heap.size w1, w' = u.w) → Q .normal a' w') l a) : (Code.region id l.toArray true).wp P Q a w :=
  wp_region_quiet (C := fun w' => ∃ u : Later w1.heap.size w1, w' = u.w) hm hB ⟨⟨_, hb.drew⟩, rfl⟩ (by simpa using h)
end Go.Proofs.Ytlhbfpapmolohaa.Mw
