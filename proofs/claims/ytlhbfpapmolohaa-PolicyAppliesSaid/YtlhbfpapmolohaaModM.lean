/-
  FACTS ON MEMORY, FOR SLICES WHOSE ELEMENTS ARE SOME CELLS EACH: what a slice reads as, one load of one element, a block that holds one value of some cells, appends. No function of the program is named. (The general part of wip/trie XTriM: never beside that.)
-/
import Derived.Test.YtlhbfpapmolohaaLater
import Derived.Test.YtlhbfpapmolohaaScanM
import Derived.Laws.AppendOwnNone
import Derived.Shelf.SlicesQ.Load
namespace Go.Proofs.Ytlhbfpapmolohaa.Mm
set_option linter.unusedSimpArgs false
set_option linter.unusedVariables false
open Go.RowKit Sm Kt

/-! ### Elements as cells -/
def fl {α : Type} (f : α → List Value) (l : List α) : List Value := l.flatMap f
theorem fl_nil {α : Type} (f : α → List Value) : fl f [] = [] := rfl
theorem fl_one {α : Type} (f : α → List Value) (x : α) : fl f [x] = f x := by unfold fl; simp
theorem fl_append {α : Type} (f : α → List Value) (a b : List α) : fl f (a ++ b) = fl f a ++ fl f b := by unfold fl; simp
theorem fl_len {α : Type} {f : α → List Value} {z : Nat} (hz : ∀ x, (f x).length = z) : ∀ l : List α, (fl f l).length = l.length * z
  | [] => by simp [fl]
  | x :: l => by
    have := fl_len hz l
    unfold fl at *
    rw [List.flatMap_cons, List.length_append, hz, this, List.length_cons, Nat.succ_mul]; omega
theorem fl_get {α : Type} {f : α → List Value} {z : Nat} (hz : ∀ x, (f x).length = z) : ∀ (l : List α) (k : Nat) (x : α), l[k]? = some x → ∀ j, j < z → (fl f l)[k * z + j]? = (f x)[j]?
  | [], k, x, h, j, _ => by simp at h
  | y :: l, 0, x, h, j, hj => by
    simp at h; subst h
    unfold fl
    rw [List.flatMap_cons, Nat.zero_mul, Nat.zero_add, List.getElem?_append_left (by rw [hz]; exact hj)]
  | y :: l, k + 1, x, h, j, hj => by
    have ih := fl_get hz l k x (by simpa using h) j hj
    unfold fl at *
    rw [List.flatMap_cons, List.getElem?_append_right (by rw [hz, Nat.succ_mul]; omega), hz, show (k + 1) * z + j - z = k * z + j by rw [Nat.succ_mul]; omega]
    exact ih
theorem fl_oneCell {α : Type} {f : α → List Value} (h : ∀ x, ∀ u ∈ f x, u.oneCell' = true) (l : List α) : ∀ u ∈ fl f l, u.oneCell' = true := fun u hu => by
  unfold fl at hu
  obtain ⟨x, _, hx⟩ := List.mem_flatMap.1 hu
  exact h x u hx
def Rows (w : World) (z : Nat) (v : Value) (n : Nat) (xs : List Value) : Prop :=
  xs.length = n * z ∧ ((v = .slice none 0 0 ∧ n = 0) ∨ ∃ x cap, v = .slice (some x) n cap ∧ n ≤ cap ∧ ∀ j u, xs[j]? = some u → w.cell? (x.add j) = some u)
theorem add_lit (b off j : Nat) : (⟨b, off, none⟩ : Addr).add j = ⟨b, off + j, none⟩ := by unfold Addr.add; split <;> simp_all
theorem rows_own {w : World} {B e z : Nat} {v : Value} {n : Nat} {xs : List Value} (h : w.ownsRow B e z v n xs) : Rows w z v n xs := by
  obtain ⟨h1, h2⟩ := h
  refine ⟨h1, ?_⟩
  rcases h2 with h2 | ⟨g, cap, cur, rfl, hb, hh, hnc, hcm, hcs, htake⟩
  · exact .inl h2
  · refine .inr ⟨⟨g, 0, none⟩, cap, rfl, hnc, fun j u hj => ?_⟩
    rw [add_lit, Nat.zero_add, cell_of_row w g j cur e (0, 0) hh]
    rw [← htake, List.getElem?_take] at hj
    split at hj
    · simpa using hj
    · cases hj
theorem rows_lit {x : Addr} {w : World} {u : Value} (h : w.cell? (x.add 0) = some u) : x.spot = none ∧ x.block < w.heap.size := by
  have e : x.add 0 = x := by simp [Addr.add]
  rw [e] at h
  exact ⟨World.cell?_spot h, World.block_lt_of_cell? w _ h⟩
theorem rows_below {w w' : World} {B z : Nat} {v : Value} {n : Nat} {xs : List Value} (h : Rows w z v n xs) (hb : Below B w w') (hB : w.heap.size ≤ B) : Rows w' z v n xs := by
  obtain ⟨h1, h2⟩ := h
  refine ⟨h1, ?_⟩
  rcases h2 with h2 | ⟨x, cap, rfl, hnc, hc⟩
  · exact .inl h2
  · refine .inr ⟨x, cap, rfl, hnc, fun j u hj => ?_⟩
    have hcell := hc j u hj
    have hjl : j < xs.length := by
      rcases Nat.lt_or_ge j xs.length with h | h
      · exact h
      · rw [List.getElem?_eq_none h] at hj; cases hj
    have hl := rows_lit (hc 0 (xs[0]'(by omega)) (List.getElem?_eq_getElem (by omega)))
    obtain ⟨b, off, spot⟩ := x
    obtain ⟨rfl, hlt⟩ := hl
    rw [add_lit] at hcell ⊢
    exact (hb.cell (p := ⟨b, off + j, none⟩) (by simp at hlt ⊢; omega)).trans hcell
theorem rows_keep {w w' : World} {z : Nat} {v : Value} {n : Nat} {xs : List Value} (h : Rows w z v n xs) (hb : Below w.heap.size w w') : Rows w' z v n xs := rows_below h hb (Nat.le_refl _)
/-- For a walk: the address is a letter, and is known where there is an element. -/
theorem rows_open {w : World} {z : Nat} {v : Value} {n : Nat} {xs : List Value} (hz : 0 < z) (h : Rows w z v n xs) :
    ∃ a cap, v = .slice a n cap ∧ n ≤ cap ∧ (0 < n → ∃ b off, a = some ⟨b, off, none⟩ ∧ b < w.heap.size ∧ ∀ j u, xs[j]? = some u → w.cell? ⟨b, off + j, none⟩ = some u) := by
  obtain ⟨h1, h2⟩ := h
  rcases h2 with ⟨rfl, rfl⟩ | ⟨x, cap, rfl, hnc, hc⟩
  · exact ⟨none, 0, rfl, Nat.le_refl _, fun h => by omega⟩
  · refine ⟨some x, cap, rfl, hnc, fun h0 => ?_⟩
    have hpos : 0 < xs.length := by rw [h1]; exact Nat.mul_pos h0 hz
    have hl := rows_lit (hc 0 (xs[0]'hpos) (List.getElem?_eq_getElem hpos))
    obtain ⟨b, off, spot⟩ := x
    obtain ⟨rfl, hlt⟩ := hl
    exact ⟨b, off, rfl, hlt, fun j u hj => by rw [← add_lit]; exact hc j u hj⟩
theorem rows_at {w : World} {b off n cap z : Nat} {xs : List Value} (hl : xs.length = n * z) (hn : n ≤ cap) (hc : ∀ j u, xs[j]? = some u → w.cell? ⟨b, off + j, none⟩ = some u) : Rows w z (.slice (some ⟨b, off, none⟩) n cap) n xs :=
  ⟨hl, .inr ⟨_, cap, rfl, hn, fun j u hj => by rw [add_lit]; exact hc j u hj⟩⟩
theorem rows_zero {w : World} {z : Nat} {a : Addr} {cap : Nat} : Rows w z (.slice (some a) 0 cap) 0 [] := ⟨by simp, .inr ⟨a, cap, rfl, Nat.zero_le _, fun j u hj => by simp at hj⟩⟩
theorem rows_nil {w : World} {z : Nat} : Rows w z (.slice none 0 0) 0 [] := ⟨by simp, .inl ⟨rfl, rfl⟩⟩
/-- A slice of elements. -/
abbrev IsRow {α : Type} (f : α → List Value) (z : Nat) (w : World) (v : Value) (s : List α) : Prop := Rows w z v s.length (fl f s)
theorem row_n {α : Type} {f : α → List Value} {z : Nat} {w : World} {v : Value} {s : List α} {n : Nat} (h : IsRow f z w v s) (e : n = s.length) : Rows w z v n (fl f s) := by subst e; exact h
theorem n_row {α : Type} {f : α → List Value} {z : Nat} {w : World} {v : Value} {s : List α} {n : Nat} (h : Rows w z v n (fl f s)) (e : n = s.length) : IsRow f z w v s := by subst e; exact h
/-- The cells of element k. -/
theorem row_cells {α : Type} {f : α → List Value} {z : Nat} (hz : ∀ x, (f x).length = z) {w : World} {b off : Nat} {s : List α} (hc : ∀ j u, (fl f s)[j]? = some u → w.cell? ⟨b, off + j, none⟩ = some u) {k : Nat} {x : α} (hk : s[k]? = some x) :
    ∀ j u, (f x)[j]? = some u → w.cell? ⟨b, off + k * z + j, none⟩ = some u := fun j u hj => by
  have hlt : j < z := by
    rw [← hz x]
    rcases Nat.lt_or_ge j (f x).length with h | h
    · exact h
    · rw [List.getElem?_eq_none h] at hj; cases hj
  rw [Nat.add_assoc]
  exact hc _ _ ((fl_get hz s k x hk j hlt).trans hj)

/-! ### Appends -/
section
variable {P : Program} {ops : Array Oper} {rest : List Oper} {o : Oper} {a : Act} {Q : Exit → Act → World → Prop}
/-- 'append(v, x)': x is laid in a new block, then appended; blocks that are not the row's lie as they lay. -/
theorem app1 (hgd : o.guard = none) (s x : Operand) (t : TypeId)
    (ho : o.op = .call { callee := .builtin .append, args := #[s, x], argTypes := #[t, t] })
    (e : TypeId) (i : TypeInfo) (y : Value) (z bytes : Nat) (ht : P.underlying t = some (.slice e)) (hi : P.info? e = some i) (hz : i.zero = some y)
    (hsize : i.size = z) (hby : i.bytes = bytes) (hzs : y.cells.size = z) (hz0 : 0 < z) (hb32 : bytes ≤ 100)
    (B : Nat) (w w0 : World) (v : Value) (n : Nat) (xs news : List Value) (hs : a.eval s = v) (hown : w0.ownsRow B e z v n xs) (hbel : Below B w w0) (hB : B ≤ w0.heap.size)
    (hx : a.eval x = .slice (some ⟨w0.heap.size, 0, none⟩) 1 1) (hl : news.length = z) (h1 : ∀ u ∈ news, u.oneCell' = true) (hn : n ≤ 10000000000)
    (h : ∀ v' w', w'.ownsRow B e z v' (n + 1) (xs ++ news) → Below B w w' → B ≤ w'.heap.size → (∀ k ob, w0.heap[k]? = some ob → v.ownBlock ≠ some k → w'.heap[k]? = some ob) → wpList P ops Q rest (a.put o.dst v') w') :
    wpList P ops Q (o :: rest) a (w0.alloc (.cells news.toArray e)) := by
  refine wpList_append_own _ hgd s x t ho B e i y z bytes ht hi hz hsize hby hzs hz0 v n xs hs (hown.alloc _) ⟨w0.heap.size, 0, none⟩ 1 1 news hx (by omega) ?_ h1 (by unfold maxLen; omega) ?_ (by simp; omega) ?_
  · intro j u hj
    rw [add_lit, Nat.zero_add, World.cell?_alloc_at _ _ _ _ rfl]
    simpa using hj
  · calc (n + 1) * bytes ≤ 10000000001 * 100 := Nat.mul_le_mul (by omega) hb32
      _ ≤ 140737488355328 := by omega
  · intro v' w' ho' hg _
    have hb2 : Below B w w' := (hbel.alloc hB _).grown hg (by simp; omega) (fun k hk => (hown.lt k hk).1)
    refine h v' w' ho' hb2 (by have := hg.size; simp at this; omega) fun k ob hk hne => ?_
    have hlt := blk_lt hk
    rw [hg.block k (by simp; omega) (fun e => hne e.symm), Below.heap_alloc _ _ _ hlt]; exact hk
/-- 'append(v, u...)', v the call's own. -/
theorem app2 (hgd : o.guard = none) (s x : Operand) (t : TypeId)
    (ho : o.op = .call { callee := .builtin .append, args := #[s, x], argTypes := #[t, t] })
    (e : TypeId) (i : TypeInfo) (y : Value) (z bytes : Nat) (ht : P.underlying t = some (.slice e)) (hi : P.info? e = some i) (hz : i.zero = some y)
    (hsize : i.size = z) (hby : i.bytes = bytes) (hzs : y.cells.size = z) (hz0 : 0 < z) (hb32 : bytes ≤ 100)
    (B : Nat) (w0 : World) (v u : Value) (n m : Nat) (xs ys : List Value) (hs : a.eval s = v) (hown : w0.ownsRow B e z v n xs) (hB : B ≤ w0.heap.size)
    (hx : a.eval x = u) (hu : Rows w0 z u m ys) (h1 : ∀ q ∈ ys, q.oneCell' = true) (hn : n ≤ 10000000000) (hm : m ≤ 10000000000)
    (h : ∀ v' w', w'.ownsRow B e z v' (n + m) (xs ++ ys) → Below B w0 w' → (∀ k ob, w0.heap[k]? = some ob → v.ownBlock ≠ some k → w'.heap[k]? = some ob) → wpList P ops Q rest (a.put o.dst v') w') :
    wpList P ops Q (o :: rest) a w0 := by
  obtain ⟨hl, hu⟩ := hu
  rcases hu with ⟨rfl, rfl⟩ | ⟨ad, cap, rfl, hmc, hc⟩
  · have hys : ys = [] := List.eq_nil_of_length_eq_zero (by simpa using hl)
    subst hys
    exact wpList_append_own_none hgd s x t ho B e i z ht hi v n xs hs hown hx (h v w0 (by simpa using hown) (Below.refl _ _) (fun _ _ hk _ => hk))
  · refine wpList_append_own _ hgd s x t ho B e i y z bytes ht hi hz hsize hby hzs hz0 v n xs hs hown ad m cap ys hx hl hc h1 (by unfold maxLen; omega) ?_ hB ?_
    · calc (n + m) * bytes ≤ 20000000000 * 100 := Nat.mul_le_mul (by omega) hb32
        _ ≤ 140737488355328 := by omega
    · intro v' w' ho' hg' _
      refine h v' w' ho' ((Below.refl B w0).grown hg' hB (fun k hk => (hown.lt k hk).1)) fun k ob hk hne => ?_
      rw [hg'.block k (blk_lt hk) (fun e => hne e.symm)]; exact hk
end

section
variable {P : Program} {ops : Array Oper} {o : Oper} {a : Act} {K : Act → World → Prop} {Q : Exit → Act → World → Prop} {E : Prop}
/-- 'append(v, x)' at a step of a region that draws its order. -/
theorem step1 (hgd : o.guard = none) (s x : Operand) (t : TypeId)
    (ho : o.op = .call { callee := .builtin .append, args := #[s, x], argTypes := #[t, t] })
    (e : TypeId) (i : TypeInfo) (y : Value) (z bytes : Nat) (ht : P.underlying t = some (.slice e)) (hi : P.info? e = some i) (hz : i.zero = some y)
    (hsize : i.size = z) (hby : i.bytes = bytes) (hzs : y.cells.size = z) (hz0 : 0 < z) (hb32 : bytes ≤ 100)
    (B : Nat) (w w0 w1 : World) (v : Value) (n : Nat) (xs news : List Value) (hs : a.eval s = v) (hown : w0.ownsRow B e z v n xs) (hbel : Below B w w0) (hB : B ≤ w0.heap.size)
    (hw1 : w1 = w0.drew.alloc (.cells news.toArray e)) (hx : a.eval x = .slice (some ⟨w0.heap.size, 0, none⟩) 1 1) (hl : news.length = z) (h1 : ∀ u ∈ news, u.oneCell' = true) (hn : n ≤ 10000000000)
    (h : ∀ v' w', w'.ownsRow B e z v' (n + 1) (xs ++ news) → Below B w w' → B ≤ w'.heap.size → (∀ k ob, w0.heap[k]? = some ob → v.ownBlock ≠ some k → w'.heap[k]? = some ob) → K (a.put o.dst v') w') :
    if Region.wanted o (yielded ops a.tmps) = true then Oper.wp P o a w1 K Q else E := by
  subst hw1
  have hw : Region.wanted o (yielded ops a.tmps) = true := by simp [Region.wanted, hgd]
  rw [if_pos hw]
  have hown' : (w0.drew.alloc (.cells news.toArray e)).ownsRow B e z v n xs := hown.alloc _
  refine wp_append_own _ s x t ho B e i y z bytes ht hi hz hsize hby hzs hz0 v n xs hs hown' ⟨w0.heap.size, 0, none⟩ 1 1 news hx (by omega) ?_ h1 (by unfold maxLen; omega) ?_ (by simp; omega) ?_
  · intro j u hj
    rw [add_lit, Nat.zero_add]
    have := World.cell?_alloc_at (w := w0.drew) news.toArray e w0.heap.size j rfl
    rw [this]
    simpa using hj
  · calc (n + 1) * bytes ≤ 10000000001 * 100 := Nat.mul_le_mul (by omega) hb32
      _ ≤ 140737488355328 := by omega
  · intro v' w' ho' hg _
    have hb2 : Below B w w' := (hbel.drew.alloc hB _).grown hg (by simp; omega) (fun k hk => (hown.lt k hk).1)
    refine h v' w' ho' hb2 (by have := hg.size; simp at this; omega) fun k ob hk hne => ?_
    have hlt := blk_lt hk
    rw [hg.block k (by simp; omega) (fun e => hne e.symm)]
    exact (Below.heap_alloc w0.drew _ _ hlt).trans hk
/-- 'append(v, u...)' at a step of a region that draws its order, v the call's own. -/
theorem step2 (hgd : o.guard = none) (s x : Operand) (t : TypeId)
    (ho : o.op = .call { callee := .builtin .append, args := #[s, x], argTypes := #[t, t] })
    (e : TypeId) (i : TypeInfo) (y : Value) (z bytes : Nat) (ht : P.underlying t = some (.slice e)) (hi : P.info? e = some i) (hz : i.zero = some y)
    (hsize : i.size = z) (hby : i.bytes = bytes) (hzs : y.cells.size = z) (hz0 : 0 < z) (hb32 : bytes ≤ 100)
    (B : Nat) (w0 : World) (v u : Value) (n m : Nat) (xs ys : List Value) (hs : a.eval s = v) (hown : w0.ownsRow B e z v n xs) (hB : B ≤ w0.heap.size)
    (hx : a.eval x = u) (hu : Rows w0 z u m ys) (h1 : ∀ q ∈ ys, q.oneCell' = true) (hn : n ≤ 10000000000) (hm : m ≤ 10000000000)
    (h : ∀ v' w', w'.ownsRow B e z v' (n + m) (xs ++ ys) → Below B w0 w' → (∀ k ob, w0.heap[k]? = some ob → v.ownBlock ≠ some k → w'.heap[k]? = some ob) → K (a.put o.dst v') w') :
    if Region.wanted o (yielded ops a.tmps) = true then Oper.wp P o a w0 K Q else E := by
  have hw : Region.wanted o (yielded ops a.tmps) = true := by simp [Region.wanted, hgd]
  rw [if_pos hw]
  obtain ⟨hl, hu⟩ := hu
  rcases hu with ⟨rfl, rfl⟩ | ⟨ad, cap, rfl, hmc, hc⟩
  · have hys : ys = [] := List.eq_nil_of_length_eq_zero (by simpa using hl)
    subst hys
    have hrun := run_append_owned_none (P := P) (w := w0) B t o.type e i z ht hi v n xs hown
    unfold Oper.wp
    simp [execOp, ho, resolve, invoke, builtin, hs, hx, hrun, Result.andThen]
    exact h v w0 (by simpa using hown) (Below.refl _ _) (fun _ _ hk _ => hk)
  · refine wp_append_own _ s x t ho B e i y z bytes ht hi hz hsize hby hzs hz0 v n xs hs hown ad m cap ys hx hl hc h1 (by unfold maxLen; omega) ?_ hB ?_
    · calc (n + m) * bytes ≤ 20000000000 * 100 := Nat.mul_le_mul (by omega) hb32
        _ ≤ 140737488355328 := by omega
    · intro v' w' ho' hg' _
      refine h v' w' ho' ((Below.refl B w0).grown hg' hB (fun k hk => (hown.lt k hk).1)) fun k ob hk hne => ?_
      rw [hg'.block k (blk_lt hk) (fun e => hne e.symm)]; exact hk
end


/-! ### One cell of an own row written -/
theorem own_set {w : World} {B e z g cap n : Nat} {xs : List Value} (h : w.ownsRow B e z (.slice (some ⟨g, 0, none⟩) n cap) n xs) (j : Nat) (u : Value) :
    (w.setCell ⟨g, j, none⟩ u).ownsRow B e z (.slice (some ⟨g, 0, none⟩) n cap) n (xs.set j u) := by
  obtain ⟨h1, h2⟩ := h
  refine ⟨by rw [List.length_set]; exact h1, ?_⟩
  rcases h2 with ⟨h2, _⟩ | ⟨g', cap', cur, hv, hb, hh, hnc, hcm, hcs, htake⟩
  · cases h2
  · cases hv
    refine .inr ⟨g, cap, cur.setIfInBounds j u, rfl, hb, heap_setCell_same w g j cur e u hh, hnc, hcm, by rw [Array.size_setIfInBounds]; exact hcs, ?_⟩
    rw [Array.toList_setIfInBounds, List.take_set, htake]
theorem own_form {w : World} {B e z n : Nat} {v : Value} {xs : List Value} (h : w.ownsRow B e z v n xs) (hn : 0 < n) :
    ∃ g cap, v = .slice (some ⟨g, 0, none⟩) n cap ∧ B ≤ g ∧ g < w.heap.size ∧ n ≤ cap ∧ (∀ j u, xs[j]? = some u → w.cell? ⟨g, j, none⟩ = some u) ∧ ∀ j, w.frozen? ⟨g, j, none⟩ = false := by
  have ho := h
  obtain ⟨h1, h2⟩ := h
  rcases h2 with ⟨_, h2⟩ | ⟨g, cap, cur, rfl, hb, hh, hnc, hcm, hcs, htake⟩
  · omega
  · refine ⟨g, cap, rfl, hb, blk_lt hh, hnc, fun j u hj => ?_, fun j => blk_frozen hh j⟩
    have := ho.cells (g := g) rfl j u hj
    rwa [add_lit, Nat.zero_add] at this
theorem own_ne {w : World} {B e z n : Nat} {v : Value} {xs : List Value} (h : w.ownsRow B e z v n xs) {k : Nat} (hk : w.heap.size ≤ k) : v.ownBlock ≠ some k := fun e => by
  have := (h.lt k e).2; omega
theorem own_less {w : World} {B B' e z n : Nat} {v : Value} {xs : List Value} (h : w.ownsRow B e z v n xs) (hB : B' ≤ B) : w.ownsRow B' e z v n xs := by
  obtain ⟨h1, h2⟩ := h
  refine ⟨h1, ?_⟩
  rcases h2 with h2 | ⟨g, cap, cur, rfl, hg, hh, r⟩
  · exact .inl h2
  · exact .inr ⟨g, cap, cur, rfl, by omega, hh, r⟩
theorem own_new (w : World) (xs : List Value) (e z B n : Nat) (h : xs.length = n * z) (hn : n ≤ 10000000000) (hB : B ≤ w.heap.size) : (w.alloc (.cells xs.toArray e)).ownsRow B e z (.slice (some ⟨w.heap.size, 0, none⟩) n n) n xs :=
  ⟨h, .inr ⟨w.heap.size, n, xs.toArray, rfl, hB, heap_new w _, Nat.le_refl _, by unfold maxLen; omega, by simp [h], by rw [← h]; simp⟩⟩

/-! ### Loads -/
theorem ld_row {α : Type} {f : α → List Value} {z : Nat} (P : Program) (hz : ∀ x, (f x).length = z) {w : World} {b off : Nat} {s : List α} (hc : ∀ j u, (fl f s)[j]? = some u → w.cell? ⟨b, off + j, none⟩ = some u) {k : Nat} {x : α} (hk : s[k]? = some x) :
    Sem.run P (loadCellsFrom ⟨b, off + k * z, none⟩ 0 z #[]) w = .ok (f x).toArray w :=
  run_loadCellsFrom_list P w _ (f x) z (hz x) fun j v hj => by rw [add_lit]; exact row_cells hz hc hk j v hj
theorem ld_box (P : Program) {w : World} {b : Nat} {A : Array Value} {T : TypeId} (h : w.heap[b]? = some (.cells A T (0, 0))) {k : Nat} (hk : A.size = k) :
    Sem.run P (loadCellsFrom ⟨b, 0, none⟩ 0 k #[]) w = .ok A w := by
  have := run_loadCellsFrom_list P w ⟨b, 0, none⟩ A.toList k (by simpa using hk) fun j v hj => by
    rw [add_lit, Nat.zero_add, blk_cell h]; simpa using hj
  simpa using this
theorem ld_part (P : Program) {w : World} {b o : Nat} {A : Array Value} {cs : List Value} {T : TypeId} (h : w.heap[b]? = some (.cells A T (0, 0))) {k : Nat} (hk : cs.length = k) (hcs : ∀ j v, cs[j]? = some v → A[o + j]? = some v) :
    Sem.run P (loadCellsFrom ⟨b, o, none⟩ 0 k #[]) w = .ok cs.toArray w :=
  run_loadCellsFrom_list P w ⟨b, o, none⟩ cs k hk fun j v hj => by rw [add_lit, blk_cell h]; exact hcs j v hj
/-- A cell of a box. -/
theorem box_at {w : World} {b : Nat} {A : Array Value} {T : TypeId} (h : w.heap[b]? = some (.cells A T (0, 0))) {j : Nat} {v : Value} (hj : A[j]? = some v) : w.cell? ⟨b, j, none⟩ = some v := by rw [blk_cell h]; exact hj

/-! ### A function value over a list -/
/-- What is asked of a predicate: at every element of the list, in every later world. -/
def Pred {α : Type} (P : Program) (g : Nat) (lb : Array Value) (f : α → List Value) (p : α → Bool) (l : List α) (w : World) : Prop :=
  ∀ (W : World) (x : α), x ∈ l → Below w.heap.size w W → Calls P g (#[.agg (f x).toArray] ++ lb) W fun e w' => e = .returned (.bool (p x)) ∧ Below W.heap.size W w'
/-- What is asked of a check: at every element of the list, with its index. -/
def Chk {α : Type} (P : Program) (g : Nat) (lb : Array Value) (f : α → List Value) (p : Nat → α → Int) (l : List α) (w : World) : Prop :=
  ∀ (W : World) (i : Nat) (x : α), l[i]? = some x → Below w.heap.size w W → Calls P g (#[.int .i64 (i : Int), .agg (f x).toArray] ++ lb) W fun e w' => e = .returned (.int .i64 (p i x)) ∧ Below W.heap.size W w'
theorem sl_keep {α : Type} {f : α → List Value} {z : Nat} {w w' : World} {v : Value} {s : List α} (h : IsRow f z w v s) (hb : Below w.heap.size w w') : IsRow f z w' v s := rows_keep h hb
end Go.Proofs.Ytlhbfpapmolohaa.Mm
namespace Go.Proofs.Ytlhbfpapmolohaa.Mw
open Go.RowKit
theorem hid {p : Prop} (h : p) : Hid p := h
theorem ret_bool {a b : Bool} (h : a = b) : Ending.returned (.bool a) = .returned (.bool b) := by rw [h]
theorem ret_int {k : IntKind} {a b : Int} (h : a = b) : Ending.returned (.int k a) = .returned (.int k b) := by rw [h]
/-- A call of a function value whose function is known. -/
theorem wp_call_fn {P : Program} {o : Oper} {a : Act} {w : World} {K : Act → World → Prop} {Q : Exit → Act → World → Prop} {g : Nat} {lb : Array Value} (c : Call) (ho : o.op = .call c) (s : Operand) (hc : c.callee = .value s)
    (hs : a.eval s = .func (.func g) #[] lb) (vs : List Value) (hv : c.args.toList.map a.eval = vs) (eg : ∀ args w, (callFunc g args).run P w = .ok (.enter g args) w)
    (h : Calls P g (vs.toArray ++ lb) w fun e w' => ∃ v, e = .returned v ∧ K (a.put o.dst v) w') : Oper.wp P o a w K Q := by
  have hv2 : c.args.map a.eval = vs.toArray := by
    apply Array.ext'
    rw [Array.toList_map, hv]
  have hrun : (execOp a.eval o).run P w = .ok (.enter g (vs.toArray ++ lb)) w := by
    simp [execOp, ho, resolve, hc, hs, Deferred.ofValue, invoke, hv2, eg]
  unfold Oper.wp
  rw [hrun, Oper.upon_enter]
  refine h.mono ?_
  rintro e w' ⟨v, rfl, hk⟩
  exact hk
end Go.Proofs.Ytlhbfpapmolohaa.Mw
