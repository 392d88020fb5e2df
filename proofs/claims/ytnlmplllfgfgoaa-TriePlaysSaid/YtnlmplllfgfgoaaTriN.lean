/-
  TREES OF NODES IN MEMORY, AND TABLES. No function of the program is named.
-/
import Derived.Test.YtnlmplllfgfgoaaTriM
namespace Go.Proofs.Ytnlmplllfgfgoaa.Tm
set_option linter.unusedSimpArgs false
set_option linter.unusedVariables false
open Go.RowKit Sm Kt Tp Am Tr

/-- What was there is as it was, but for the blocks of S. -/
structure Keep (S : List Nat) (w w' : World) : Prop where
  os : w'.os = w.os
  tape : w'.tape = w.tape
  output : w'.output = w.output
  size : w.heap.size ≤ w'.heap.size
  block : ∀ k, k < w.heap.size → k ∉ S → w'.heap[k]? = w.heap[k]?
theorem Keep.refl (S : List Nat) (w : World) : Keep S w w := ⟨rfl, rfl, rfl, Nat.le_refl _, fun _ _ _ => rfl⟩
theorem Keep.trans {S S1 : List Nat} {a b c : World} (h : Keep S a b) (k : Keep S1 b c) (hs : ∀ x ∈ S1, x ∈ S ∨ a.heap.size ≤ x) : Keep S a c :=
  ⟨k.os.trans h.os, k.tape.trans h.tape, k.output.trans h.output, Nat.le_trans h.size k.size, fun i hi hn =>
    (k.block i (Nat.lt_of_lt_of_le hi h.size) (fun hm => (hs i hm).elim hn (fun h1 => by omega))).trans (h.block i hi hn)⟩
theorem Keep.of {S : List Nat} {w w' : World} (h : Below w.heap.size w w') : Keep S w w' := ⟨h.os, h.tape, h.output, h.size, fun k hk _ => h.block k hk⟩
theorem Keep.below {S : List Nat} {w w' : World} (h : Keep S w w') {B : Nat} (hS : ∀ x ∈ S, B ≤ x) (hB : B ≤ w.heap.size) : Below B w w' :=
  ⟨h.os, h.tape, h.output, h.size, fun k hk => h.block k (by omega) (fun hm => by have := hS k hm; omega)⟩
theorem Keep.then_ {S : List Nat} {a b c : World} (h : Keep S a b) (k : Below b.heap.size b c) : Keep S a c := h.trans (Keep.of (S := []) k) (fun _ hx => by cases hx)
theorem Keep.mono {S S' : List Nat} {w w' : World} (h : Keep S w w') (hs : ∀ x ∈ S, x ∈ S' ∨ w.heap.size ≤ x) : Keep S' w w' := (Keep.refl S' w).trans h hs
theorem Keep.setCell {S : List Nat} {a w : World} (h : Keep S a w) {p : Addr} (hp : p.block ∈ S ∨ a.heap.size ≤ p.block) (u : Value) : Keep S a (w.setCell p u) :=
  ⟨h.os, h.tape, h.output, Nat.le_trans h.size (by simp [World.setCell]), fun k hk hn => (Below.heap_setCell _ _ _ _ (fun e => by subst e; exact hp.elim hn (fun h1 => by omega))).trans (h.block k hk hn)⟩
theorem Keep.alloc {S : List Nat} {a w : World} (h : Keep S a w) (o : Obj) : Keep S a (w.alloc o) := h.then_ (al1 w o)
theorem Keep.drew {S : List Nat} {a w : World} (h : Keep S a w) : Keep S a w.drew := ⟨h.os, h.tape, h.output, h.size, h.block⟩

/-! ### Nodes -/
end Go.Proofs.Ytnlmplllfgfgoaa.Tm
namespace Go.Proofs.Ytnlmplllfgfgoaa.Tp
set_option linter.unusedSimpArgs false
set_option linter.unusedVariables false
def Tr.ptr : Tr → Value
  | nil => .pointer none
  | node b _ _ _ => .pointer (some ⟨b, 0, none⟩)
end Go.Proofs.Ytnlmplllfgfgoaa.Tp
namespace Go.Proofs.Ytnlmplllfgfgoaa.Tm
set_option linter.unusedSimpArgs false
set_option linter.unusedVariables false
open Go.RowKit Sm Kt Tp Am Tr
theorem sc_same {w : World} {a : Addr} {u v : Value} (h : w.cell? a = some u) : (w.setCell a v).cell? a = some v := World.cell?_setCell_same _ _ _ h
theorem sc_other {w : World} {a b : Addr} {v : Value} (h : a ≠ b) : (w.setCell a v).cell? b = w.cell? b := World.cell?_setCell_other _ _ _ _ h
structure At (w : World) (b : Nat) (e : Option Int) (l r : Value) : Prop where
  c0 : w.cell? ⟨b, 0, none⟩ = some l
  c1 : w.cell? ⟨b, 1, none⟩ = some r
  c2 : w.cell? ⟨b, 2, none⟩ = some (.bool e.isSome)
  c3 : w.cell? ⟨b, 3, none⟩ = some (.int .i64 (e.getD 0))
  fz : ∀ j, w.frozen? ⟨b, j, none⟩ = false
/-- A pointer to block b. -/
abbrev pt (b : Nat) : Value := .pointer (some ⟨b, 0, none⟩)
def In (w : World) : Tr → Prop
  | .nil => True
  | .node b e l r => At w b e l.ptr r.ptr ∧ In w l ∧ In w r
theorem same_cell {w w' : World} {b : Nat} (h : w'.heap[b]? = w.heap[b]?) (j : Nat) : w'.cell? ⟨b, j, none⟩ = w.cell? ⟨b, j, none⟩ := World.cell?_of_block (w := w) h
theorem same_frozen {w w' : World} {b : Nat} (h : w'.heap[b]? = w.heap[b]?) (j : Nat) : w'.frozen? ⟨b, j, none⟩ = w.frozen? ⟨b, j, none⟩ := World.frozen?_of_block (w := w) h
theorem At.keep {w w' : World} {b : Nat} {e : Option Int} {l r : Value} (h : At w b e l r) (k : w'.heap[b]? = w.heap[b]?) : At w' b e l r :=
  ⟨(same_cell k 0).trans h.c0, (same_cell k 1).trans h.c1, (same_cell k 2).trans h.c2, (same_cell k 3).trans h.c3, fun j => (same_frozen k j).trans (h.fz j)⟩
theorem At.lt {w : World} {b : Nat} {e : Option Int} {l r : Value} (h : At w b e l r) : b < w.heap.size := World.block_lt_of_cell? w _ h.c0
theorem In.keep {w w' : World} : ∀ {T : Tr}, In w T → (∀ b ∈ T.blocks, w'.heap[b]? = w.heap[b]?) → In w' T
  | .nil, _, _ => trivial
  | .node b e l r, h, k => ⟨h.1.keep (k b (by simp [Tr.blocks])), In.keep h.2.1 (fun c hc => k c (by simp [Tr.blocks, hc])), In.keep h.2.2 (fun c hc => k c (by simp [Tr.blocks, hc]))⟩
theorem In.lt {w : World} : ∀ {T : Tr}, In w T → ∀ b ∈ T.blocks, b < w.heap.size
  | .nil, _, b, hb => by cases hb
  | .node c e l r, h, b, hb => by
    unfold Tr.blocks at hb
    rw [List.mem_cons, List.mem_append] at hb
    rcases hb with rfl | hb | hb
    · exact h.1.lt
    · exact In.lt h.2.1 b hb
    · exact In.lt h.2.2 b hb
theorem In.below {w w' : World} {T : Tr} (h : In w T) (k : Below w.heap.size w w') : In w' T := h.keep fun b hb => k.block b (h.lt b hb)
theorem In.kept {S : List Nat} {w w' : World} {T : Tr} (h : In w T) (k : Keep S w w') (hs : ∀ b ∈ T.blocks, b ∉ S) : In w' T := h.keep fun b hb => k.block b (h.lt b hb) (hs b hb)
theorem In.sub {w : World} : ∀ (k : Nat) (T : Tr) (a d : Nat), In w T → In w (T.sub a d k)
  | 0, T, a, d, h => by rw [sub_zero]; exact h
  | k + 1, .nil, a, d, h => by rw [sub_nil]; exact h
  | k + 1, .node b e l r, a, d, h => by
    have e3 : (Tr.node b e l r).sub a d (k + 1) = (if bitN a d = 0 then l else r).sub a (d + 1) k := rfl
    rw [e3]
    refine In.sub k _ a (d + 1) ?_
    split
    · exact h.2.1
    · exact h.2.2
theorem ptr_put : ∀ (k : Nat) (T : Tr) (a d : Nat) (Y : Tr), Y.ptr = (T.sub a d k).ptr → (T.put a d k (fun _ => Y)).ptr = T.ptr
  | 0, T, a, d, Y, h => by rw [put_zero]; rw [sub_zero] at h; exact h
  | k + 1, .nil, a, d, Y, h => rfl
  | k + 1, .node b e l r, a, d, Y, h => by unfold Tr.put; split <;> rfl
theorem In.put {w w' : World} : ∀ (k : Nat) (T : Tr) (a d : Nat) (Y : Tr), In w T → T.blocks.Nodup → Y.ptr = (T.sub a d k).ptr → In w' Y →
    (∀ c ∈ T.blocks, c ∉ (T.sub a d k).blocks → w'.heap[c]? = w.heap[c]?) → T.sub a d k ≠ .nil → In w' (T.put a d k (fun _ => Y))
  | 0, T, a, d, Y, _, _, _, hY, _, _ => by rw [put_zero]; exact hY
  | k + 1, .nil, a, d, Y, _, _, _, _, _, hs => absurd (sub_nil a d (k + 1)) hs
  | k + 1, .node b e l r, a, d, Y, h, hnd, hp, hY, hc, hs => by
    have e3 : (Tr.node b e l r).sub a d (k + 1) = (if bitN a d = 0 then l else r).sub a (d + 1) k := rfl
    rw [e3] at hp hc hs
    have hbl : (Tr.node b e l r).blocks = b :: (l.blocks ++ r.blocks) := rfl
    rw [hbl] at hnd hc
    rw [List.nodup_cons, List.nodup_append] at hnd
    obtain ⟨hb, hl, hr, hlr⟩ := hnd
    rw [List.mem_append] at hb
    unfold Tr.put
    by_cases h0 : bitN a d = 0
    · rw [if_pos h0] at hp hc hs ⊢
      have hsub := fun c => blocks_sub k l a (d + 1) c
      refine ⟨?_, In.put k l a (d + 1) Y h.2.1 hl hp hY (fun c h1 h2 => hc c (by simp [h1]) h2) hs, h.2.2.keep fun c h1 => hc c (by simp [h1]) (fun h2 => hlr c (hsub c h2) c h1 rfl)⟩
      rw [ptr_put k l a (d + 1) Y hp]
      exact h.1.keep (hc b (by simp) (fun h2 => hb (.inl (hsub b h2))))
    · rw [if_neg h0] at hp hc hs ⊢
      have hsub := fun c => blocks_sub k r a (d + 1) c
      refine ⟨?_, h.2.1.keep fun c h1 => hc c (by simp [h1]) (fun h2 => hlr c h1 c (hsub c h2) rfl), In.put k r a (d + 1) Y h.2.2 hr hp hY (fun c h1 h2 => hc c (by simp [h1]) h2) hs⟩
      rw [ptr_put k r a (d + 1) Y hp]
      exact h.1.keep (hc b (by simp) (fun h2 => hb (.inr (hsub b h2))))
theorem nodup_part : ∀ (k : Nat) (T : Tr) (a d : Nat), T.blocks.Nodup → (T.sub a d k).blocks.Nodup
  | 0, T, a, d, h => by rw [sub_zero]; exact h
  | k + 1, .nil, a, d, h => by rw [sub_nil]; exact h
  | k + 1, .node b e l r, a, d, h => by
    have e3 : (Tr.node b e l r).sub a d (k + 1) = (if bitN a d = 0 then l else r).sub a (d + 1) k := rfl
    have hbl : (Tr.node b e l r).blocks = b :: (l.blocks ++ r.blocks) := rfl
    rw [hbl, List.nodup_cons, List.nodup_append] at h
    rw [e3]
    refine nodup_part k _ a (d + 1) ?_
    split
    · exact h.2.1
    · exact h.2.2.1
theorem nodup_sub {T : Tr} (h : T.blocks.Nodup) {k a d b : Nat} {e : Option Int} {l r : Tr} (hs : T.sub a d k = .node b e l r) : b ∉ l.blocks ∧ b ∉ r.blocks := by
  have := nodup_part k T a d h
  rw [hs] at this
  have hbl : (Tr.node b e l r).blocks = b :: (l.blocks ++ r.blocks) := rfl
  rw [hbl, List.nodup_cons, List.mem_append] at this
  exact ⟨fun h => this.1 (.inl h), fun h => this.1 (.inr h)⟩
/-- What a store into a node's cell gives. -/
theorem set_at {w : World} {b : Nat} {e : Option Int} {l r : Value} (h : At w b e l r) (j : Nat) (u v : Value) (hj : w.cell? ⟨b, j, none⟩ = some v) :
    (w.setCell ⟨b, j, none⟩ u).cell? ⟨b, j, none⟩ = some u ∧ ∀ i, i ≠ j → (w.setCell ⟨b, j, none⟩ u).cell? ⟨b, i, none⟩ = w.cell? ⟨b, i, none⟩ :=
  ⟨sc_same hj, fun i hi => sc_other (fun e => hi (by injection e with _ e2 _; exact e2.symm))⟩
theorem At.set0 {w : World} {b : Nat} {e : Option Int} {l r : Value} (h : At w b e l r) (u : Value) : At (w.setCell ⟨b, 0, none⟩ u) b e u r := by
  obtain ⟨h1, h2⟩ := set_at h 0 u _ h.c0
  exact ⟨h1, (h2 1 (by decide)).trans h.c1, (h2 2 (by decide)).trans h.c2, (h2 3 (by decide)).trans h.c3, fun j => by rw [World.frozen?_setCell]; exact h.fz j⟩
theorem At.set1 {w : World} {b : Nat} {e : Option Int} {l r : Value} (h : At w b e l r) (u : Value) : At (w.setCell ⟨b, 1, none⟩ u) b e l u := by
  obtain ⟨h1, h2⟩ := set_at h 1 u _ h.c1
  exact ⟨(h2 0 (by decide)).trans h.c0, h1, (h2 2 (by decide)).trans h.c2, (h2 3 (by decide)).trans h.c3, fun j => by rw [World.frozen?_setCell]; exact h.fz j⟩
theorem At.set23 {w : World} {b : Nat} {e e' : Option Int} {l r : Value} (h : At w b e l r) (q : Bool) (v : Int) (hq : q = e'.isSome) (hv : v = e'.getD 0) :
    At ((w.setCell ⟨b, 2, none⟩ (.bool q)).setCell ⟨b, 3, none⟩ (.int .i64 v)) b e' l r := by
  have n1 : ∀ i j : Nat, i ≠ j → (⟨b, i, none⟩ : Addr) ≠ ⟨b, j, none⟩ := fun i j hi e => hi (by injection e)
  refine ⟨?_, ?_, ?_, ?_, fun j => by rw [World.frozen?_setCell, World.frozen?_setCell]; exact h.fz j⟩
  · rw [sc_other (n1 3 0 (by decide)), sc_other (n1 2 0 (by decide))]; exact h.c0
  · rw [sc_other (n1 3 1 (by decide)), sc_other (n1 2 1 (by decide))]; exact h.c1
  · rw [sc_other (n1 3 2 (by decide)), sc_same h.c2, hq]
  · rw [sc_same (u := .int .i64 (e.getD 0)) (by rw [sc_other (n1 2 3 (by decide))]; exact h.c3), hv]
/-- A new node. -/
theorem at_new (w : World) (t : TypeId) : At (w.alloc (.cells #[.pointer none, .pointer none, .bool false, .int .i64 0] t)) w.heap.size none (.pointer none) (.pointer none) :=
  ⟨new_cell w _ t 0, new_cell w _ t 1, new_cell w _ t 2, new_cell w _ t 3, fun j => blk_frozen (heap_new w _) j⟩

/-! ### Tables -/
structure Tab (w : World) (tb : Nat) (T : Tr) (L : List En) : Prop where
  root : ∃ e l r, T = .node tb e l r
  inn : In w T
  nd : T.blocks.Nodup
  deep : T.deep 33
  ents : T.ents 0 0 = L
  size : w.cell? ⟨tb, 4, none⟩ = some (.int .i64 (L.length : Int))
theorem Tab.srt {w : World} {tb : Nat} {T : Tr} {L : List En} (h : Tab w tb T L) : Srt L := by rw [← h.ents]; exact root_srt h.deep
theorem Tab.oks {w : World} {tb : Nat} {T : Tr} {L : List En} (h : Tab w tb T L) : Oks L := by rw [← h.ents]; exact root_oks h.deep
theorem Tab.get {w : World} {tb : Nat} {T : Tr} {L : List En} (h : Tab w tb T L) {a n : Nat} (hp : OkP (a, n)) : getL L (a, n) = T.get a 0 n := by rw [← h.ents]; exact root_get h.deep hp
theorem Tab.mem {w : World} {tb : Nat} {T : Tr} {L : List En} (h : Tab w tb T L) : tb ∈ T.blocks := by
  obtain ⟨e, l, r, rfl⟩ := h.root; simp [Tr.blocks]
theorem Tab.lt {w : World} {tb : Nat} {T : Tr} {L : List En} (h : Tab w tb T L) : ∀ b ∈ T.blocks, b < w.heap.size := h.inn.lt
theorem Tab.keep {w w' : World} {tb : Nat} {T : Tr} {L : List En} (h : Tab w tb T L) (k : ∀ b ∈ T.blocks, w'.heap[b]? = w.heap[b]?) : Tab w' tb T L :=
  ⟨h.root, h.inn.keep k, h.nd, h.deep, h.ents, (same_cell (k tb h.mem) 4).trans h.size⟩
theorem Tab.below {w w' : World} {tb : Nat} {T : Tr} {L : List En} (h : Tab w tb T L) (k : Below w.heap.size w w') : Tab w' tb T L := h.keep fun b hb => k.block b (h.lt b hb)
theorem Tab.kept {S : List Nat} {w w' : World} {tb : Nat} {T : Tr} {L : List En} (h : Tab w tb T L) (k : Keep S w w') (hs : ∀ b ∈ T.blocks, b ∉ S) : Tab w' tb T L := h.keep fun b hb => k.block b (h.lt b hb) (hs b hb)
theorem Tab.ptr {w : World} {tb : Nat} {T : Tr} {L : List En} (h : Tab w tb T L) : T.ptr = .pointer (some ⟨tb, 0, none⟩) := by
  obtain ⟨e, l, r, rfl⟩ := h.root; rfl
theorem tab_new (w : World) (t : TypeId) : Tab (w.alloc (.cells #[.pointer none, .pointer none, .bool false, .int .i64 0, .int .i64 0] t)) w.heap.size (.node w.heap.size none .nil .nil) [] :=
  ⟨⟨none, .nil, .nil, rfl⟩, ⟨⟨new_cell w _ t 0, new_cell w _ t 1, new_cell w _ t 2, new_cell w _ t 3, fun j => blk_frozen (heap_new w _) j⟩, trivial, trivial⟩, by simp [Tr.blocks], ⟨trivial, trivial⟩, rfl, new_cell w _ t 4⟩
end Go.Proofs.Ytnlmplllfgfgoaa.Tm
