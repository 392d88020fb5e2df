/-
  THE MODEL OF CHAPTER 5 IN PLAIN WORDS: routers and networks as plain data (a slice field keeps its value in memory beside its list), what CheckRouter, Check, Same and the lookups answer. No program is named here.
-/
import Derived.Test.YtlhbfpapmolohaaScanP
import Derived.Test.YtlhbfpapmolohaaPfxP
namespace Go.Proofs.Ytlhbfpapmolohaa.Mp
set_option linter.unusedSimpArgs false
set_option linter.unusedVariables false
open Am

/-! ### The parts -/
structure Pfx where
  addr : Nat
  len : Int
  deriving DecidableEq
structure Ifc where
  name : ByteArray
  addr : Nat
  len : Int
  vlan : Int
  down : Bool
  ls : Bool
  area : Int
  cost : Int
  dv : Bool
  inn : ByteArray
  out : ByteArray
  side : Int
  deriving DecidableEq
structure PRule where
  permit : Bool
  pfx : Pfx
  mn : Int
  mx : Int
  deriving DecidableEq
structure PList where
  name : ByteArray
  v : Value
  rules : List PRule
structure Cla where
  permit : Bool
  lst : ByteArray
  tag : Int
  setMetric : Int
  setTag : Int
  setPref : Int
  prepend : Int
  deriving DecidableEq
structure RMap where
  name : ByteArray
  v : Value
  clauses : List Cla
structure Wild where
  addr : Nat
  mask : Nat
  deriving DecidableEq
structure Ports where
  lo : Int
  hi : Int
  deriving DecidableEq
structure Rule where
  permit : Bool
  proto : Int
  src : Wild
  dst : Wild
  sp : Ports
  dp : Ports
  deriving DecidableEq
structure Acl where
  name : ByteArray
  v : Value
  rules : List Rule
structure Tran where
  kind : Int
  ins : Nat
  outs : Nat
  proto : Int
  iport : Int
  oport : Int
  lst : ByteArray
  lo : Nat
  hi : Nat
  deriving DecidableEq
structure Stc where
  pfx : Pfx
  next : Nat
  ifc : ByteArray
  discard : Bool
  admin : Int
  tag : Int
  deriving DecidableEq
structure Red where
  frm : Int
  metric : Int
  tag : Int
  mp : ByteArray
  typ : Int
  deriving DecidableEq
structure Rng where
  area : Int
  pfx : Pfx
  deriving DecidableEq
structure Nbr where
  addr : Nat
  asn : Int
  inn : ByteArray
  out : ByteArray
  deriving DecidableEq
structure Aggr where
  pfx : Pfx
  only : Bool
  deriving DecidableEq
structure Cnd where
  pfx : Pfx
  iff : Pfx
  absent : Bool
  deriving DecidableEq
structure Rtr where
  name : ByteArray
  asn : Int
  vIfs : Value
  ifs : List Ifc
  vLists : Value
  lists : List PList
  vMaps : Value
  maps : List RMap
  vAcls : Value
  acls : List Acl
  vNat : Value
  nat : List Tran
  vSts : Value
  sts : List Stc
  lsOn : Bool
  lsAdmin : Int
  vRngs : Value
  rngs : List Rng
  vLsr : Value
  lsr : List Red
  dvOn : Bool
  dvAdmin : Int
  dvIn : ByteArray
  dvOut : ByteArray
  vDvr : Value
  dvr : List Red
  pvOn : Bool
  ext : Int
  intl : Int
  vNbrs : Value
  nbrs : List Nbr
  vNets : Value
  nets : List Pfx
  vAggs : Value
  aggs : List Aggr
  vCnds : Value
  cnds : List Cnd
  vPvr : Value
  pvr : List Red

/-! ### As cells -/
def ePfx (x : Pfx) : List Value := [.int .u32 (x.addr : Int), .int .i64 x.len]
def eIfc (x : Ifc) : List Value := [.string x.name, .int .u32 (x.addr : Int), .int .i64 x.len, .int .i64 x.vlan, .bool x.down, .bool x.ls, .int .i64 x.area, .int .i64 x.cost, .bool x.dv, .string x.inn, .string x.out, .int .i64 x.side]
def ePRule (x : PRule) : List Value := [.bool x.permit, .int .u32 (x.pfx.addr : Int), .int .i64 x.pfx.len, .int .i64 x.mn, .int .i64 x.mx]
def ePList (x : PList) : List Value := [.string x.name, x.v]
def eCla (x : Cla) : List Value := [.bool x.permit, .string x.lst, .int .i64 x.tag, .int .i64 x.setMetric, .int .i64 x.setTag, .int .i64 x.setPref, .int .i64 x.prepend]
def eRMap (x : RMap) : List Value := [.string x.name, x.v]
def eRule (x : Rule) : List Value := [.bool x.permit, .int .i64 x.proto, .int .u32 (x.src.addr : Int), .int .u32 (x.src.mask : Int), .int .u32 (x.dst.addr : Int), .int .u32 (x.dst.mask : Int), .int .i64 x.sp.lo, .int .i64 x.sp.hi, .int .i64 x.dp.lo, .int .i64 x.dp.hi]
def eAcl (x : Acl) : List Value := [.string x.name, x.v]
def eTran (x : Tran) : List Value := [.int .i64 x.kind, .int .u32 (x.ins : Int), .int .u32 (x.outs : Int), .int .i64 x.proto, .int .i64 x.iport, .int .i64 x.oport, .string x.lst, .int .u32 (x.lo : Int), .int .u32 (x.hi : Int)]
def eStc (x : Stc) : List Value := [.int .u32 (x.pfx.addr : Int), .int .i64 x.pfx.len, .int .u32 (x.next : Int), .string x.ifc, .bool x.discard, .int .i64 x.admin, .int .i64 x.tag]
def eRed (x : Red) : List Value := [.int .i64 x.frm, .int .i64 x.metric, .int .i64 x.tag, .string x.mp, .int .i64 x.typ]
def eRng (x : Rng) : List Value := [.int .i64 x.area, .int .u32 (x.pfx.addr : Int), .int .i64 x.pfx.len]
def eNbr (x : Nbr) : List Value := [.int .u32 (x.addr : Int), .int .i64 x.asn, .string x.inn, .string x.out]
def eAggr (x : Aggr) : List Value := [.int .u32 (x.pfx.addr : Int), .int .i64 x.pfx.len, .bool x.only]
def eCnd (x : Cnd) : List Value := [.int .u32 (x.pfx.addr : Int), .int .i64 x.pfx.len, .int .u32 (x.iff.addr : Int), .int .i64 x.iff.len, .bool x.absent]
def eLS (r : Rtr) : List Value := [.bool r.lsOn, .int .i64 r.lsAdmin, r.vRngs, r.vLsr]
def eDV (r : Rtr) : List Value := [.bool r.dvOn, .int .i64 r.dvAdmin, .string r.dvIn, .string r.dvOut, r.vDvr]
def ePV (r : Rtr) : List Value := [.bool r.pvOn, .int .i64 r.ext, .int .i64 r.intl, r.vNbrs, r.vNets, r.vAggs, r.vCnds, r.vPvr]
def eRtr (r : Rtr) : List Value := [.string r.name, .int .i64 r.asn, r.vIfs, r.vLists, r.vMaps, r.vAcls, r.vNat, r.vSts, .bool r.lsOn, .int .i64 r.lsAdmin, r.vRngs, r.vLsr, .bool r.dvOn, .int .i64 r.dvAdmin, .string r.dvIn, .string r.dvOut, r.vDvr, .bool r.pvOn, .int .i64 r.ext, .int .i64 r.intl, r.vNbrs, r.vNets, r.vAggs, r.vCnds, r.vPvr]

/-! ### The first of a list -/
section
variable {α : Type}
/-- The index of the first element that p holds of, or -1; counted from i. -/
def ixF (p : α → Bool) : Nat → List α → Int
  | _, [] => -1
  | i, x :: l => if p x then (i : Int) else ixF p (i + 1) l
def ixB (p : α → Bool) (l : List α) : Int := ixF p 0 l
/-- The first error, counted from i. -/
def firstE (f : Nat → α → Int) : Nat → List α → Int
  | _, [] => 0
  | i, x :: l => if f i x = 0 then firstE f (i + 1) l else f i x
def eachE (m : Nat) (f : Nat → α → Int) (l : List α) : Int := if m < l.length then 7 else firstE f 0 l
theorem ixF_hit {p : α → Bool} {i : Nat} {x : α} {l : List α} (h : p x = true) : ixF p i (x :: l) = i := by simp [ixF, h]
theorem ixF_next {p : α → Bool} {i : Nat} {x : α} {l : List α} (h : p x = false) : ixF p i (x :: l) = ixF p (i + 1) l := by simp [ixF, h]
theorem firstE_hit {f : Nat → α → Int} {i : Nat} {x : α} {l : List α} (h : ¬ f i x = 0) : firstE f i (x :: l) = f i x := by simp [firstE, h]
theorem firstE_next {f : Nat → α → Int} {i : Nat} {x : α} {l : List α} (h : f i x = 0) : firstE f i (x :: l) = firstE f (i + 1) l := by simp [firstE, h]
theorem drop_get {l : List α} {k : Nat} {x : α} (h : l[k]? = some x) : l.drop k = x :: l.drop (k + 1) := by
  obtain ⟨hl, rfl⟩ := List.getElem?_eq_some_iff.1 h
  exact List.drop_eq_getElem_cons hl
theorem drop_end {l : List α} {k : Nat} (h : l.length ≤ k) : l.drop k = [] := List.drop_eq_nil_of_le h
theorem get_some {l : List α} {k : Nat} (h : k < l.length) : ∃ x, l[k]? = some x := ⟨_, List.getElem?_eq_getElem h⟩
theorem get_mem {l : List α} {k : Nat} {x : α} (h : l[k]? = some x) : x ∈ l := List.mem_of_getElem? h
theorem ixF_ge (p : α → Bool) : ∀ (l : List α) (i : Nat), ixF p i l = -1 ∨ (i : Int) ≤ ixF p i l
  | [], i => .inl rfl
  | x :: l, i => by
    unfold ixF
    split
    · right; omega
    · rcases ixF_ge p l (i + 1) with h | h
      · exact .inl h
      · right; omega
theorem ixF_neg {p : α → Bool} : ∀ {l : List α} {i : Nat}, ixF p i l < 0 ↔ l.any p = false
  | [], i => by simp [ixF]
  | x :: l, i => by
    unfold ixF
    cases h : p x with
    | true => simp [h]
    | false => simp only [Bool.false_eq_true, if_false, List.any_cons, h, Bool.false_or]; exact ixF_neg
theorem ixB_neg {p : α → Bool} {l : List α} : ixB p l < 0 ↔ l.any p = false := ixF_neg
theorem ixB_any {p : α → Bool} {l : List α} : decide (ixB p l < 0) = !l.any p := by
  rw [Bool.eq_iff_iff]; simp only [decide_eq_true_eq, ixB_neg, Bool.not_eq_true']
theorem ixB_pos {p : α → Bool} {l : List α} : decide (0 ≤ ixB p l) = l.any p := by
  have := ixB_any (p := p) (l := l)
  rcases ixF_ge p l 0 with h | h
  · have hn : ixB p l < 0 := by unfold ixB; omega
    have : ¬ (0 ≤ ixB p l) := by omega
    rw [decide_eq_false this, ixB_neg.1 hn]
  · have hn : ¬ ixB p l < 0 := by unfold ixB; omega
    have h0 : 0 ≤ ixB p l := by omega
    rw [decide_eq_true h0]
    rw [decide_eq_false hn] at this
    simpa using this
/-- An element that p holds of at i: the first one is earlier exactly if one among the first i is. -/
theorem ixF_lt {p : α → Bool} : ∀ {l : List α} {i j : Nat} {x : α}, l[i]? = some x → p x = true → (decide (ixF p j l < (j + i : Nat)) = (l.take i).any p)
  | [], i, j, x, h, _ => by simp at h
  | y :: l, 0, j, x, h, hp => by
    simp at h; subst h
    simp [ixF, hp]
  | y :: l, i + 1, j, x, h, hp => by
    unfold ixF
    cases hy : p y with
    | true => simp [hy]; omega
    | false =>
      have := ixF_lt (l := l) (i := i) (j := j + 1) (x := x) (by simpa using h) hp
      simp only [Bool.false_eq_true, if_false, List.take_succ_cons, List.any_cons, hy, Bool.false_or]
      rw [← this, show j + 1 + i = j + (i + 1) by omega]
theorem ixB_lt {p : α → Bool} {l : List α} {i : Nat} {x : α} (h : l[i]? = some x) (hp : p x = true) : decide (ixB p l < (i : Int)) = (l.take i).any p := by
  have := ixF_lt (j := 0) h hp
  rw [Nat.zero_add] at this
  exact this
theorem firstE_ok {f : Nat → α → Int} : ∀ {l : List α} {i : Nat}, firstE f i l = 0 ↔ ∀ j x, l[j]? = some x → f (i + j) x = 0
  | [], i => by simp [firstE]
  | y :: l, i => by
    unfold firstE
    split
    · rename_i h
      rw [firstE_ok]
      constructor
      · intro g j x hj
        cases j with
        | zero => simp at hj; subst hj; simpa using h
        | succ j => have := g j x (by simpa using hj); rwa [show i + 1 + j = i + (j + 1) by omega] at this
      · intro g j x hj
        have := g (j + 1) x (by simpa using hj)
        rwa [show i + (j + 1) = i + 1 + j by omega] at this
    · rename_i h
      constructor
      · intro g; exact absurd g h
      · intro g; exact absurd (by simpa using g 0 y rfl) h
theorem firstE_congr {f g : Nat → α → Int} : ∀ {l : List α} {i : Nat}, (∀ j x, l[j]? = some x → f (i + j) x = g (i + j) x) → firstE f i l = firstE g i l
  | [], i, _ => rfl
  | y :: l, i, h => by
    have h0 := h 0 y rfl
    rw [Nat.add_zero] at h0
    unfold firstE
    have hn := firstE_congr (f := f) (g := g) (l := l) (i := i + 1) fun j x hj => by have := h (j + 1) x (by simpa using hj); rwa [show i + (j + 1) = i + 1 + j by omega] at this
    rw [h0, hn]
theorem eachE_congr {f g : Nat → α → Int} {m : Nat} {l : List α} (h : ∀ j x, l[j]? = some x → f j x = g j x) : eachE m f l = eachE m g l := by
  unfold eachE
  have hn := firstE_congr (f := f) (g := g) (l := l) (i := 0) fun j x hj => by rw [Nat.zero_add]; exact h j x hj
  rw [hn]
theorem eachE_ok {f : Nat → α → Int} {m : Nat} {l : List α} : eachE m f l = 0 ↔ l.length ≤ m ∧ ∀ j x, l[j]? = some x → f j x = 0 := by
  unfold eachE
  split
  · rename_i h; simp; omega
  · rename_i h
    rw [firstE_ok]
    simp only [Nat.zero_add]
    constructor
    · exact fun g => ⟨by omega, g⟩
    · exact fun g => g.2
end
/-- The first that is not 0. -/
def orE : List Int → Int
  | [] => 0
  | e :: l => if e = 0 then orE l else e

/-! ### The errors of a router -/
def wi (n a b : Int) : Bool := decide (a ≤ n ∧ n ≤ b)
def nmB (s : ByteArray) : Bool := Sp.nameL s.data.toList
def noS (s : ByteArray) : Bool := s.toList.isEmpty
def vPf (p : Pfx) : Bool := validB p.addr p.len
def ovP (p q : Pfx) : Bool := ovlB p.addr p.len q.addr q.len
def netP (x : Ifc) : Pfx := ⟨net x.addr x.len, (cl x.len : Nat)⟩
def ifIx (l : List Ifc) (s : ByteArray) : Int := ixB (fun x => x.name.toList == s.toList) l
def liIx (l : List PList) (s : ByteArray) : Int := ixB (fun x => x.name.toList == s.toList) l
def maIx (l : List RMap) (s : ByteArray) : Int := ixB (fun x => x.name.toList == s.toList) l
def acIx (l : List Acl) (s : ByteArray) : Int := ixB (fun x => x.name.toList == s.toList) l
def adIx (l : List Ifc) (a : Nat) : Int := ixB (fun x => !decide (x.len = 0) && decide (x.addr = a)) l
def rtIx (l : List Rtr) (s : ByteArray) : Int := ixB (fun x => x.name.toList == s.toList) l
/-- A name that refers to nothing that there is. -/
def unk (s : ByteArray) (i : Int) : Bool := !noS s && decide (i < 0)

def areaOk (x : Ifc) : Bool := if x.ls then wi x.area 0 255 && wi x.cost 1 65535 else decide (x.area = 0) && decide (x.cost = 0)
def bareOk (x : Ifc) : Bool := decide (x.addr = 0) && decide (x.vlan = 0) && !x.ls && decide (x.area = 0) && decide (x.cost = 0) && !x.dv && noS x.inn && noS x.out && decide (x.side = 0)
def ifcOk (x : Ifc) : Bool := if x.len = 0 then bareOk x else !decide (x.addr = 0) && wi x.len 1 32 && wi x.vlan 0 4094 && wi x.side 0 2 && areaOk x
def ovAny (l : List Ifc) (x : Ifc) : Bool := !decide (x.len = 0) && l.any fun y => !decide (y.len = 0) && ovP (netP x) (netP y)
def ifcE (l : List Ifc) (i : Nat) (x : Ifc) : Int :=
  if !nmB x.name then 3 else if (l.take i).any (fun y => y.name.toList == x.name.toList) then 4 else if !ifcOk x then 1 else if ovAny (l.take i) x then 6 else 0
def ifsE (l : List Ifc) : Int := eachE 8 (ifcE l) l

/-- What prefix lists, route maps and access lists have in common. -/
def headE (name : ByteArray) (taken : Bool) (size : Nat) : Int := if !nmB name then 3 else if taken then 4 else if size = 0 then 1 else 0
def pruleOk (x : PRule) : Bool := vPf x.pfx && decide (x.pfx.len ≤ x.mn) && decide (x.mn ≤ x.mx) && decide (x.mx ≤ 32)
def thenE (e f : Int) : Int := if e = 0 then f else e
def plistE (l : List PList) (i : Nat) (x : PList) : Int :=
  thenE (headE x.name ((l.take i).any fun y => y.name.toList == x.name.toList) x.rules.length) (eachE 16 (fun _ y => if pruleOk y then 0 else 1) x.rules)
def listsE (l : List PList) : Int := eachE 8 (plistE l) l
def claOk (c : Cla) : Bool := wi c.tag (-1) 65535 && wi c.setTag (-1) 65535 && wi c.setMetric (-1) 16777215 && wi c.setPref (-1) 1000000 && wi c.prepend 0 8
def claE (li : List PList) (c : Cla) : Int := if unk c.lst (liIx li c.lst) then 5 else if !claOk c then 1 else 0
def rmapE (li : List PList) (l : List RMap) (i : Nat) (x : RMap) : Int :=
  thenE (headE x.name ((l.take i).any fun y => y.name.toList == x.name.toList) x.clauses.length) (eachE 8 (fun _ c => claE li c) x.clauses)
def mapsE (li : List PList) (l : List RMap) : Int := eachE 8 (rmapE li l) l
def wildOk (x : Wild) : Bool := decide (x.addr &&& x.mask = 0)
def portOk (p : Int) : Bool := decide (p = 6) || decide (p = 17)
def portsOk (x : Ports) (p : Int) : Bool := if portOk p then wi x.lo 0 x.hi && decide (x.hi ≤ 65535) else decide (x.lo = 0) && decide (x.hi = 65535)
def ruleOk (x : Rule) : Bool := wi x.proto (-1) 255 && wildOk x.src && wildOk x.dst && portsOk x.sp x.proto && portsOk x.dp x.proto
def aclE (l : List Acl) (i : Nat) (x : Acl) : Int :=
  thenE (headE x.name ((l.take i).any fun y => y.name.toList == x.name.toList) x.rules.length) (eachE 16 (fun _ y => if ruleOk y then 0 else 1) x.rules)
def aclsE (l : List Acl) : Int := eachE 8 (aclE l) l
def tranOk (x : Tran) : Bool :=
  if x.kind = 1 then !decide (x.ins = 0) && !decide (x.outs = 0) && (decide (x.proto = 0) && decide (x.iport = 0) && decide (x.oport = 0) && noS x.lst && decide (x.lo = 0) && decide (x.hi = 0))
  else if x.kind = 2 then !decide (x.lo = 0) && decide (x.lo ≤ x.hi) && decide (x.hi - x.lo < 8) && (decide (x.ins = 0) && decide (x.outs = 0) && decide (x.proto = 0) && decide (x.iport = 0) && decide (x.oport = 0))
  else if x.kind = 3 then !decide (x.ins = 0) && !decide (x.outs = 0) && portOk x.proto && wi x.iport 0 65535 && wi x.oport 0 65535 && noS x.lst && decide (x.lo = 0) && decide (x.hi = 0)
  else false
def tranE (ac : List Acl) (x : Tran) : Int := if !tranOk x then 1 else if decide (x.kind = 2) && decide (acIx ac x.lst < 0) then 5 else 0
def natE (ac : List Acl) (l : List Tran) : Int := eachE 8 (fun _ x => tranE ac x) l
def filtE (ac : List Acl) (x : Ifc) : Int := if unk x.inn (acIx ac x.inn) || unk x.out (acIx ac x.out) then 5 else 0
def filtsE (ac : List Acl) (l : List Ifc) : Int := eachE 8 (fun _ x => filtE ac x) l
def waysN (x : Stc) : Nat := (if x.next = 0 then 0 else 1) + (if noS x.ifc then 0 else 1) + (if x.discard then 1 else 0)
def statOk (x : Stc) : Bool := vPf x.pfx && decide (waysN x = 1) && wi x.admin 1 255 && wi x.tag 0 65535
def lenAt (l : List Ifc) (s : ByteArray) : Int := match l[(ifIx l s).toNat]? with | some x => x.len | none => 1
def statE (ifs : List Ifc) (l : List Stc) (i : Nat) (x : Stc) : Int :=
  if !statOk x || decide (0 ≤ adIx ifs x.next) then 1 else if unk x.ifc (ifIx ifs x.ifc) then 5 else if !noS x.ifc && decide (lenAt ifs x.ifc = 0) then 1
  else if (l.take i).any (fun y => decide (y.pfx = x.pfx) && decide (y.admin = x.admin)) then 6 else 0
def statsE (ifs : List Ifc) (l : List Stc) : Int := eachE 16 (statE ifs l) l
/-- A protocol into which routes are redistributed, with its bounds. -/
structure Into where
  proto : Int
  least : Int
  most : Int
  tleast : Int
  tmost : Int
def redOk (t : Into) (x : Red) : Bool := wi x.frm 1 5 && !decide (x.frm = t.proto) && wi x.metric t.least t.most && wi x.tag 0 65535 && wi x.typ t.tleast t.tmost
def redE (ma : List RMap) (t : Into) (l : List Red) (i : Nat) (x : Red) : Int :=
  if !redOk t x then 1 else if unk x.mp (maIx ma x.mp) then 5 else if (l.take i).any (fun y => decide (y.frm = x.frm)) then 4 else 0
def redsE (ma : List RMap) (t : Into) (l : List Red) : Int := eachE 4 (redE ma t l) l
def rngE (l : List Rng) (i : Nat) (x : Rng) : Int :=
  if !wi x.area 0 255 || !vPf x.pfx then 1 else if (l.take i).any (fun y => decide (y.area = x.area) && ovP y.pfx x.pfx) then 6 else 0
def rngsE (l : List Rng) : Int := eachE 4 (rngE l) l
def lsT : Into := ⟨3, 0, 16777215, 1, 2⟩
def dvT : Into := ⟨4, 1, 15, 0, 0⟩
def pvT : Into := ⟨5, 0, 16777215, 0, 0⟩
def lsE (r : Rtr) : Int :=
  if !r.lsOn then (if !decide (r.lsAdmin = 0) || decide (0 < r.rngs.length) || decide (0 < r.lsr.length) then 1 else 0)
  else if !wi r.lsAdmin 1 255 then 1 else orE [rngsE r.rngs, redsE r.maps lsT r.lsr]
def dvE (r : Rtr) : Int :=
  if !r.dvOn then (if !decide (r.dvAdmin = 0) || !noS r.dvIn || !noS r.dvOut || decide (0 < r.dvr.length) then 1 else 0)
  else if !wi r.dvAdmin 1 255 then 1 else if unk r.dvIn (liIx r.lists r.dvIn) || unk r.dvOut (liIx r.lists r.dvOut) then 5 else redsE r.maps dvT r.dvr
def nbrE (ma : List RMap) (l : List Nbr) (i : Nat) (x : Nbr) : Int :=
  if decide (x.addr = 0) || !wi x.asn 1 65535 then 1 else if unk x.inn (maIx ma x.inn) || unk x.out (maIx ma x.out) then 5 else if (l.take i).any (fun y => decide (y.addr = x.addr)) then 4 else 0
def nbrsE (ma : List RMap) (l : List Nbr) : Int := eachE 8 (nbrE ma l) l
def netE (l : List Pfx) (i : Nat) (x : Pfx) : Int := if !vPf x then 1 else if (l.take i).any (fun y => decide (y = x)) then 4 else 0
def netsE (l : List Pfx) : Int := eachE 8 (netE l) l
def aggE (l : List Aggr) (i : Nat) (x : Aggr) : Int := if !vPf x.pfx then 1 else if (l.take i).any (fun y => decide (y.pfx = x.pfx)) then 4 else 0
def aggsE (l : List Aggr) : Int := eachE 8 (aggE l) l
def cndE (l : List Cnd) (i : Nat) (x : Cnd) : Int := if !vPf x.pfx || !vPf x.iff then 1 else if decide (x.pfx = x.iff) then 6 else if (l.take i).any (fun y => decide (y.pfx = x.pfx)) then 4 else 0
def cndsE (l : List Cnd) : Int := eachE 8 (cndE l) l
def pvE (r : Rtr) : Int :=
  if !r.pvOn then (if !decide (r.ext = 0) || !decide (r.intl = 0) || decide (0 < r.nbrs.length) || decide (0 < r.nets.length) || decide (0 < r.aggs.length) || decide (0 < r.cnds.length) || decide (0 < r.pvr.length) then 1 else 0)
  else if decide (r.asn = 0) || !wi r.ext 1 255 || !wi r.intl 1 255 then 1 else orE [nbrsE r.maps r.nbrs, netsE r.nets, aggsE r.aggs, cndsE r.cnds, redsE r.maps pvT r.pvr]
def idE (r : Rtr) : Int := if !nmB r.name then 3 else if !wi r.asn 0 65535 then 1 else 0
def checks (r : Rtr) : List Int :=
  [idE r, ifsE r.ifs, listsE r.lists, mapsE r.lists r.maps, aclsE r.acls, natE r.acls r.nat, filtsE r.acls r.ifs, statsE r.ifs r.sts, lsE r, dvE r, pvE r]
/-- What CheckRouter answers. -/
def rtrE (r : Rtr) : Int := orE (checks r)
/-- An address of r that an earlier router has. -/
def shares (q : List Rtr) (r : Rtr) : Bool := r.ifs.any fun x => !decide (x.len = 0) && q.any fun s => decide (0 ≤ adIx s.ifs x.addr)
def routerE (l : List Rtr) (i : Nat) (r : Rtr) : Int :=
  if rtrE r = 0 then (if (l.take i).any (fun y => y.name.toList == r.name.toList) || shares (l.take i) r then 4 else 0) else rtrE r
/-- What Check answers. -/
def netwE (l : List Rtr) : Int := eachE 8 (routerE l) l

/-! ### Equality -/
def samePl (a b : PList) : Bool := decide (a.name = b.name) && decide (a.rules = b.rules)
def sameMp (a b : RMap) : Bool := decide (a.name = b.name) && decide (a.clauses = b.clauses)
def sameAc (a b : Acl) : Bool := decide (a.name = b.name) && decide (a.rules = b.rules)
def eqBy {α : Type} (p : α → α → Bool) : List α → List α → Bool
  | [], [] => true
  | x :: l, y :: m => p x y && eqBy p l m
  | _, _ => false
def sameLs (a b : Rtr) : Bool := decide (a.lsOn = b.lsOn) && decide (a.lsAdmin = b.lsAdmin) && decide (a.rngs = b.rngs) && decide (a.lsr = b.lsr)
def sameDv (a b : Rtr) : Bool := decide (a.dvOn = b.dvOn) && decide (a.dvAdmin = b.dvAdmin) && decide (a.dvIn = b.dvIn) && decide (a.dvOut = b.dvOut) && decide (a.dvr = b.dvr)
def samePv (a b : Rtr) : Bool := decide (a.pvOn = b.pvOn) && decide (a.ext = b.ext) && decide (a.intl = b.intl) && decide (a.nbrs = b.nbrs) && decide (a.nets = b.nets) && decide (a.aggs = b.aggs) && decide (a.cnds = b.cnds) && decide (a.pvr = b.pvr)
/-- What Same answers. -/
def sameR (a b : Rtr) : Bool :=
  decide (a.name = b.name) && decide (a.asn = b.asn) && decide (a.ifs = b.ifs) && eqBy samePl a.lists b.lists && eqBy sameMp a.maps b.maps && eqBy sameAc a.acls b.acls && decide (a.nat = b.nat) && decide (a.sts = b.sts) && sameLs a b && sameDv a b && samePv a b
end Go.Proofs.Ytlhbfpapmolohaa.Mp
