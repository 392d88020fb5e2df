/-
  THE CONTRACT OF netverifylaw5.sample.
-/
import Derived.Test.YtlhbfpapmolohaaGreatModN
import Derived.Test.YtlhbfpapmolohaaGreatStoreBox
namespace Go.Proofs.YtlhbfpapmolohaaGreat.Mw
set_option linter.unusedSimpArgs false
set_option linter.unusedVariables false
open Go.RowKit Kt Mm Mp

def bs (l : List UInt8) : ByteArray := ⟨l.toArray⟩
def sl (b n : Nat) : Value := .slice (some ⟨b, 0, none⟩) n n
def noS' : Value := .slice none 0 0
/-- The sample router, its lists in the blocks behind n. -/
def sampleAt (n : Nat) : Rtr :=
  { name := bs [114, 49], asn := 65001
    vIfs := sl (n + 1) 2, ifs := [⟨bs [101, 48], 167772161, 24, 0, false, true, 0, 10, false, bs [97], bs [], 0⟩, ⟨bs [101, 49], 167772417, 24, 0, false, false, 0, 0, true, bs [], bs [], 0⟩]
    vLists := sl (n + 3) 1, lists := [⟨bs [112], sl (n + 2) 1, [⟨true, ⟨167772160, 8⟩, 8, 32⟩]⟩]
    vMaps := sl (n + 5) 1, maps := [⟨bs [109], sl (n + 4) 1, [⟨true, bs [112], -1, 5, -1, -1, 0⟩]⟩]
    vAcls := sl (n + 7) 1, acls := [⟨bs [97], sl (n + 6) 1, [⟨true, 6, ⟨0, 4294967295⟩, ⟨0, 4294967295⟩, ⟨0, 65535⟩, ⟨80, 80⟩⟩]⟩]
    vNat := sl (n + 8) 1, nat := [⟨1, 167772165, 3221225989, 0, 0, 0, bs [], 0, 0⟩]
    vSts := sl (n + 9) 1, sts := [⟨⟨3232235520, 16⟩, 167772418, bs [], false, 1, 0⟩]
    lsOn := true, lsAdmin := 110, vRngs := noS', rngs := [], vLsr := sl (n + 10) 1, lsr := [⟨2, 20, 0, bs [109], 2⟩]
    dvOn := true, dvAdmin := 120, dvIn := bs [], dvOut := bs [112], vDvr := noS', dvr := []
    pvOn := true, ext := 20, intl := 200, vNbrs := sl (n + 11) 1, nbrs := [⟨167772418, 65002, bs [109], bs []⟩], vNets := sl (n + 12) 1, nets := [⟨167772160, 24⟩]
    vAggs := noS', aggs := [], vCnds := noS', cnds := [], vPvr := noS', pvr := [] }
theorem sample_ok (n : Nat) : rtrE (sampleAt n) = 0 := by
  kernel_rfl

def zeroR : Array Value := #[.string ⟨#[]⟩, .int .i64 0, .slice none 0 0, .slice none 0 0, .slice none 0 0, .slice none 0 0, .slice none 0 0, .slice none 0 0, .bool false, .int .i64 0, .slice none 0 0, .slice none 0 0, .bool false, .int .i64 0, .string ⟨#[]⟩, .string ⟨#[]⟩, .slice none 0 0, .bool false, .int .i64 0, .int .i64 0, .slice none 0 0, .slice none 0 0, .slice none 0 0, .slice none 0 0, .slice none 0 0]
/-- What the sample lays. -/
def sObj (n : Nat) : List Obj := [.cells zeroR 41,
  .cells (fl eIfc (sampleAt n).ifs).toArray 53,
  .cells (fl ePRule [⟨true, ⟨167772160, 8⟩, 8, 32⟩]).toArray 107,
  .cells (fl ePList (sampleAt n).lists).toArray 64,
  .cells (fl eCla [⟨true, bs [112], -1, 5, -1, -1, 0⟩]).toArray 114,
  .cells (fl eRMap (sampleAt n).maps).toArray 67,
  .cells (fl eRule [⟨true, 6, ⟨0, 4294967295⟩, ⟨0, 4294967295⟩, ⟨0, 65535⟩, ⟨80, 80⟩⟩]).toArray 126,
  .cells (fl eAcl (sampleAt n).acls).toArray 70,
  .cells (fl eTran (sampleAt n).nat).toArray 85,
  .cells (fl eStc (sampleAt n).sts).toArray 58,
  .cells (fl eRed (sampleAt n).lsr).toArray 154,
  .cells (fl eNbr (sampleAt n).nbrs).toArray 156,
  .cells (fl ePfx (sampleAt n).nets).toArray 56]
def lay (w : World) (l : List Obj) : World := l.foldl World.alloc w
theorem lay_below (B : Nat) : ∀ (l : List Obj) (w w0 : World), Below B w0 w → B ≤ w.heap.size → Below B w0 (lay w l)
  | [], w, w0, h, _ => h
  | o :: l, w, w0, h, hB => lay_below B l (w.alloc o) w0 (h.alloc hB o) (by rw [new_size]; omega)
theorem lay_at : ∀ (l : List Obj) (w : World) (k : Nat) (o : Obj), l[k]? = some o → (lay w l).heap[w.heap.size + k]? = some o
  | [], w, k, o, h => by simp at h
  | x :: l, w, 0, o, h => by
    obtain rfl : x = o := by simpa using h
    exact blk_keep (heap_new w x) (lay_below _ l (w.alloc x) _ (Below.refl _ _) (Nat.le_refl _))
  | x :: l, w, k + 1, o, h => by
    have := lay_at l (w.alloc x) k o (by simpa using h)
    rw [new_size, show w.heap.size + 1 + k = w.heap.size + (k + 1) by omega] at this
    exact this
theorem row_blk {α : Type} {f : α → List Value} {z : Nat} (hz : ∀ x, (f x).length = z) {w : World} {b : Nat} {l : List α} {T : TypeId} {n : Nat} (h : w.heap[b]? = some (.cells (fl f l).toArray T (0, 0))) (hn : n = l.length) (hs : Nat.ble l.length 2 = true) : InRow f z w (sl b n) l := by
  subst hn
  have hs := Nat.le_of_ble_eq_true hs
  refine ⟨rows_at (by rw [fl_len hz]) (Nat.le_refl _) (fun j u hj => ?_), by omega⟩
  rw [Nat.zero_add, blk_cell h, List.getElem?_toArray]
  exact hj
theorem noS_in {α : Type} {f : α → List Value} {z : Nat} {w : World} : InRow f z w noS' ([] : List α) := ⟨rows_nil, by simp⟩
theorem all1 {α : Type} {p : α → Prop} {a : α} (h : p a) : ∀ x ∈ [a], p x := fun x hx => (List.mem_singleton.1 hx).symm ▸ h
theorem all2 {α : Type} {p : α → Prop} {a b : α} (h : p a) (k : p b) : ∀ x ∈ [a, b], p x := fun x hx => by
  rcases List.mem_cons.1 hx with rfl | hx
  · exact h
  · exact all1 k x hx
/-- The sample router lies in a world that holds its blocks. -/
theorem sample_in (n : Nat) (w : World) (h : ∀ k o, k ≠ 0 → (sObj n)[k]? = some o → w.heap[n + k]? = some o) : RtrIn w (sampleAt n) where
  name := by show (2 : Nat) ≤ maxLen; decide
  ifs := row_blk (f := eIfc) (z := 12) (l := (sampleAt n).ifs) (fun _ => rfl) (h 1 _ (by decide) rfl) rfl rfl
  ifsN := all2 (show (2 : Nat) ≤ maxLen by decide) (show (2 : Nat) ≤ maxLen by decide)
  ifsA := all2 (by unfold low; decide) (by unfold low; decide)
  lists := row_blk (f := ePList) (z := 2) (l := (sampleAt n).lists) (fun _ => rfl) (h 3 _ (by decide) rfl) rfl rfl
  listsN := all1 (show (1 : Nat) ≤ maxLen by decide)
  listsR := all1 (row_blk (f := ePRule) (z := 5) (l := [⟨true, ⟨167772160, 8⟩, 8, 32⟩]) (fun _ => rfl) (h 2 _ (by decide) rfl) rfl rfl)
  listsA := all1 (all1 (by unfold low; decide))
  maps := row_blk (f := eRMap) (z := 2) (l := (sampleAt n).maps) (fun _ => rfl) (h 5 _ (by decide) rfl) rfl rfl
  mapsN := all1 (show (1 : Nat) ≤ maxLen by decide)
  mapsR := all1 (row_blk (f := eCla) (z := 7) (l := [⟨true, bs [112], -1, 5, -1, -1, 0⟩]) (fun _ => rfl) (h 4 _ (by decide) rfl) rfl rfl)
  acls := row_blk (f := eAcl) (z := 2) (l := (sampleAt n).acls) (fun _ => rfl) (h 7 _ (by decide) rfl) rfl rfl
  aclsN := all1 (show (1 : Nat) ≤ maxLen by decide)
  aclsR := all1 (row_blk (f := eRule) (z := 10) (l := [⟨true, 6, ⟨0, 4294967295⟩, ⟨0, 4294967295⟩, ⟨0, 65535⟩, ⟨80, 80⟩⟩]) (fun _ => rfl) (h 6 _ (by decide) rfl) rfl rfl)
  aclsA := all1 (all1 (by unfold low; decide))
  nat := row_blk (f := eTran) (z := 9) (l := (sampleAt n).nat) (fun _ => rfl) (h 8 _ (by decide) rfl) rfl rfl
  natA := all1 (by unfold low; decide)
  sts := row_blk (f := eStc) (z := 7) (l := (sampleAt n).sts) (fun _ => rfl) (h 9 _ (by decide) rfl) rfl rfl
  stsA := all1 (by unfold low; decide)
  rngs := noS_in
  rngsA := by intro x hx; cases hx
  lsr := row_blk (f := eRed) (z := 5) (l := (sampleAt n).lsr) (fun _ => rfl) (h 10 _ (by decide) rfl) rfl rfl
  dvr := noS_in
  nbrs := row_blk (f := eNbr) (z := 4) (l := (sampleAt n).nbrs) (fun _ => rfl) (h 11 _ (by decide) rfl) rfl rfl
  nbrsA := all1 (by unfold low; decide)
  nets := row_blk (f := ePfx) (z := 2) (l := (sampleAt n).nets) (fun _ => rfl) (h 12 _ (by decide) rfl) rfl rfl
  netsA := all1 (by unfold low; decide)
  aggs := noS_in
  aggsA := by intro x hx; cases hx
  cnds := noS_in
  cndsA := by intro x hx; cases hx
  pvr := noS_in

theorem stopHere {p : Prop} (h : Hid p) : p := h
set_option maxHeartbeats 8000000 in
set_option maxRecDepth 4000 in
theorem sampleC (w : World) :
    Calls Tryz.prog 40 #[] w fun e w' => e = .returned (.agg (eRtr (sampleAt w.heap.size)).toArray) ∧ RtrIn w' (sampleAt w.heap.size) ∧ Below w.heap.size w w' := by
  have L0 := lay_at (sObj w.heap.size) w
  have LB := lay_below w.heap.size (sObj w.heap.size) w w (Below.refl _ _) (Nat.le_refl _)
  have SI := sample_in w.heap.size
  have hA := eRtr_one (SI _ (fun k o _ h => L0 k o h))
  have H := hid (And.intro L0 (And.intro LB (And.intro SI hA)))
  clear L0 LB SI hA
  go_enter Tryz.func40, Tryz.ntmps40
  repeat' (first | (with_reducible show Oper.wp _ ⟨_, .store _ _ _, _, _, _, _⟩ _ _ _ _; have hstop : True := trivial; refine stopHere ?_) | go_skip | go_guarded | go_step | go_upon)
  refine wp_store_box (w := lay w (sObj w.heap.size)) 41 _ _ rfl (g := w.heap.size) (cur := zeroR) (X := (eRtr (sampleAt w.heap.size)).toArray) rfl rfl Tryz.sizeOf41 (H.out.1 0 _ rfl) rfl H.out.2.2.2 ?_
  intro w' h1 h2 h3
  have HB := hid (H.out.2.1.trans (h3 w.heap.size (Nat.le_refl _)))
  have HR := hid (H.out.2.2.1 w' (fun k o hk ho => by rw [h2 _ (by omega)]; exact H.out.1 k o ho))
  clear H h2 h3
  repeat' (first | go_skip | go_guarded | go_step | go_upon)
  exact result_box (A := (eRtr (sampleAt w.heap.size)).toArray) (fn := Tryz.f40) (t := 41) (b := w.heap.size) rfl rfl Tryz.isAgg41 Tryz.sizeOf41 h1 rfl ⟨rfl, HR.out, HB.out⟩
end Go.Proofs.YtlhbfpapmolohaaGreat.Mw
