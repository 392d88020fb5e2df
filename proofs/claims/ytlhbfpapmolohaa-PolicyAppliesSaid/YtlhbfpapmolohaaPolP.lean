/-
  CHAPTER 6 IN PLAIN WORDS: what prefix lists and route maps answer, and what a route is. No program is named here.
-/
import Derived.Test.YtlhbfpapmolohaaModK
namespace Go.Proofs.Ytlhbfpapmolohaa.Mp
set_option linter.unusedSimpArgs false
set_option linter.unusedVariables false
open Am

/-! ### Routes -/
structure Hp where
  ifc : Int
  addr : Nat
  deriving DecidableEq
structure Rte where
  pfx : Pfx
  proto : Int
  cls : Int
  admin : Int
  metric : Int
  inner : Int
  tag : Int
  pref : Int
  vPath : Value
  path : List Int
  frm : Nat
  next : Nat
  vHops : Value
  hops : List Hp
  discard : Bool
def eInt (x : Int) : List Value := [.int .i64 x]
def eHp (x : Hp) : List Value := [.int .i64 x.ifc, .int .u32 (x.addr : Int)]
def eRte (x : Rte) : List Value := [.int .u32 (x.pfx.addr : Int), .int .i64 x.pfx.len, .int .i64 x.proto, .int .i64 x.cls, .int .i64 x.admin, .int .i64 x.metric, .int .i64 x.inner, .int .i64 x.tag, .int .i64 x.pref, x.vPath, .int .u32 (x.frm : Int), .int .u32 (x.next : Int), x.vHops, .bool x.discard]
/-- Equal but for where the two lists lie. -/
structure Like (x y : Rte) : Prop where
  pfx : x.pfx = y.pfx
  proto : x.proto = y.proto
  cls : x.cls = y.cls
  admin : x.admin = y.admin
  metric : x.metric = y.metric
  inner : x.inner = y.inner
  tag : x.tag = y.tag
  pref : x.pref = y.pref
  path : x.path = y.path
  frm : x.frm = y.frm
  next : x.next = y.next
  hops : x.hops = y.hops
  discard : x.discard = y.discard
theorem Like.refl (x : Rte) : Like x x := ⟨rfl, rfl, rfl, rfl, rfl, rfl, rfl, rfl, rfl, rfl, rfl, rfl, rfl⟩
theorem Like.symm {x y : Rte} (h : Like x y) : Like y x := ⟨h.1.symm, h.2.symm, h.3.symm, h.4.symm, h.5.symm, h.6.symm, h.7.symm, h.8.symm, h.9.symm, h.10.symm, h.11.symm, h.12.symm, h.13.symm⟩
theorem Like.trans {x y z : Rte} (h : Like x y) (k : Like y z) : Like x z := ⟨h.1.trans k.1, h.2.trans k.2, h.3.trans k.3, h.4.trans k.4, h.5.trans k.5, h.6.trans k.6, h.7.trans k.7, h.8.trans k.8, h.9.trans k.9, h.10.trans k.10, h.11.trans k.11, h.12.trans k.12, h.13.trans k.13⟩
def zeroRte : Rte := ⟨⟨0, 0⟩, 0, 0, 0, 0, 0, 0, 0, .slice none 0 0, [], 0, 0, .slice none 0 0, [], false⟩
def sameRt (x y : Rte) : Bool := decide (x.pfx = y.pfx) && decide (x.proto = y.proto) && decide (x.cls = y.cls) && decide (x.admin = y.admin) && decide (x.metric = y.metric) && decide (x.inner = y.inner) && decide (x.tag = y.tag) && decide (x.pref = y.pref) && decide (x.frm = y.frm) && decide (x.next = y.next) && decide (x.discard = y.discard) && decide (x.path = y.path) && decide (x.hops = y.hops)
theorem same_like {x y : Rte} : sameRt x y = true ↔ Like x y := by
  unfold sameRt
  simp only [Bool.and_eq_true, decide_eq_true_eq]
  constructor
  · rintro ⟨⟨⟨⟨⟨⟨⟨⟨⟨⟨⟨⟨h1, h2⟩, h3⟩, h4⟩, h5⟩, h6⟩, h7⟩, h8⟩, h9⟩, h10⟩, h11⟩, h12⟩, h13⟩
    exact ⟨h1, h2, h3, h4, h5, h6, h7, h8, h12, h9, h10, h13, h11⟩
  · intro h
    exact ⟨⟨⟨⟨⟨⟨⟨⟨⟨⟨⟨⟨h.pfx, h.proto⟩, h.cls⟩, h.admin⟩, h.metric⟩, h.inner⟩, h.tag⟩, h.pref⟩, h.frm⟩, h.next⟩, h.discard⟩, h.path⟩, h.hops⟩

/-! ### Prefix lists -/
def mtB (x : PRule) (p : Pfx) : Bool := covB x.pfx.addr x.pfx.len p.addr p.len && decide (x.mn ≤ p.len) && decide (p.len ≤ x.mx)
def fpI (l : List PRule) (p : Pfx) : Int := ixB (fun x => mtB x p) l
def cvB (a b : PRule) : Bool := covB a.pfx.addr a.pfx.len b.pfx.addr b.pfx.len && decide (a.mn ≤ b.mn) && decide (b.mx ≤ a.mx)
def lsB (l : List PRule) (p : Pfx) : Bool := match l.find? (fun y => mtB y p) with | none => false | some y => y.permit
def pmB (ls : List PList) (s : ByteArray) (p : Pfx) : Bool :=
  noS s || (match ls.find? (fun x => x.name.toList == s.toList) with | none => false | some x => lsB x.rules p)

/-! ### Route maps -/
def clsOf (ms : List RMap) (s : ByteArray) : List Cla := match ms.find? (fun x => x.name.toList == s.toList) with | none => [] | some m => m.clauses
def cmB (ls : List PList) (p : Pfx) (tag : Int) (c : Cla) : Bool := (decide (c.tag = -1) || decide (c.tag = tag)) && pmB ls c.lst p
def clI (ls : List PList) (ms : List RMap) (s : ByteArray) (p : Pfx) (tag : Int) : Int := ixB (cmB ls p tag) (clsOf ms s)
def permC (ls : List PList) (ms : List RMap) (s : ByteArray) (p : Pfx) (tag : Int) : Option Cla :=
  match (clsOf ms s).find? (cmB ls p tag) with | none => none | some c => if c.permit then some c else none
def prepI (ls : List PList) (ms : List RMap) (s : ByteArray) (p : Pfx) (tag : Int) : Int := match permC ls ms s p tag with | none => 0 | some c => c.prepend
def repI (old set : Int) : Int := if set = -1 then old else set
def setC (x : Rte) (c : Cla) : Rte := { x with metric := repI x.metric c.setMetric, tag := repI x.tag c.setTag, pref := repI x.pref c.setPref }
def appO (ls : List PList) (ms : List RMap) (s : ByteArray) (x : Rte) : Option Rte :=
  if noS s then some x else match permC ls ms s x.pfx x.tag with | none => none | some c => some (setC x c)

/-! ### The index and the element -/
section
variable {α : Type}
theorem ixF_find {p : α → Bool} : ∀ (l : List α) (i : Nat), (ixF p i l = -1 ∧ l.find? p = none) ∨ ∃ (j : Nat) (x : α), ixF p i l = ((i + j : Nat) : Int) ∧ l[j]? = some x ∧ l.find? p = some x ∧ p x = true
  | [], i => .inl ⟨rfl, rfl⟩
  | y :: l, i => by
    unfold ixF
    cases h : p y with
    | true => exact .inr ⟨0, y, by simp, rfl, by simp [h], h⟩
    | false =>
      rcases ixF_find (p := p) l (i + 1) with ⟨h1, h2⟩ | ⟨j, x, h1, h2, h3, h4⟩
      · exact .inl ⟨by simpa using h1, by simp [h, h2]⟩
      · exact .inr ⟨j + 1, x, by simp [h1]; omega, by simpa using h2, by simp [h, h3], h4⟩
theorem ix_find {p : α → Bool} (l : List α) : (ixB p l = -1 ∧ l.find? p = none) ∨ ∃ (j : Nat) (x : α), ixB p l = (j : Int) ∧ l[j]? = some x ∧ l.find? p = some x ∧ p x = true ∧ j < l.length := by
  rcases ixF_find (p := p) l 0 with h | ⟨j, x, h1, h2, h3, h4⟩
  · exact .inl h
  · exact .inr ⟨j, x, by unfold ixB; rw [h1, Nat.zero_add], h2, h3, h4, (List.getElem?_eq_some_iff.1 h2).1⟩
end
end Go.Proofs.Ytlhbfpapmolohaa.Mp
namespace Go.Proofs.Ytlhbfpapmolohaa.Mm
open Go.RowKit Kt Mp
structure RteIn (w : World) (x : Rte) : Prop where
  pfxA : low x.pfx.addr
  path : InRow eInt 1 w x.vPath x.path
  frmA : low x.frm
  nextA : low x.next
  hops : InRow eHp 2 w x.vHops x.hops
  hopsA : ∀ y ∈ x.hops, low y.addr
theorem RteIn.keep {w w' : World} {x : Rte} (h : RteIn w x) (hb : Below w.heap.size w w') : RteIn w' x := { h with path := h.path.keep hb, hops := h.hops.keep hb }
theorem eRte_one {w : World} {x : Rte} (h : RteIn w x) : (eRte x).toArray.all (·.oneCell') = true := by
  simp [eRte, row_one h.path.row, row_one h.hops.row, one_int, one_bool]
theorem eHp_one (x : Hp) : (eHp x).toArray.all (·.oneCell') = true := by simp [eHp, one_int]
end Go.Proofs.Ytlhbfpapmolohaa.Mm
