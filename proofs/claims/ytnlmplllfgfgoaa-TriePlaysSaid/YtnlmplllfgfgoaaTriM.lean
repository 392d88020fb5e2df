/-
  FACTS ON MEMORY, FOR SLICES WHOSE ELEMENTS ARE SOME CELLS EACH (prefixes, entries of a table, calls): what a slice reads as; one append behind one law. No function of the program is named.
-/
import Derived.Test.YtnlmplllfgfgoaaTriU
import Derived.Test.YtnlmplllfgfgoaaLater
import Derived.Test.YtnlmplllfgfgoaaScanM
import Derived.Laws.AppendOwnNone
namespace Go.Proofs.Ytnlmplllfgfgoaa.Tm
set_option linter.unusedSimpArgs false
set_option linter.unusedVariables false
open Go.RowKit Sm Kt Tp Am

/-! ### Elements as cells -/
abbrev RPx := Nat × Int
abbrev REn := RPx × Int
def fl {α : Type} (f : α → List Value) (l : List α) : List Value := l.flatMap f
def ePx (p : Px) : List Value := [.int .u32 (p.1 : Int), .int .i64 (p.2 : Int)]
def eEn (x : En) : List Value := [.int .u32 (x.1.1 : Int), .int .i64 (x.1.2 : Int), .int .i64 x.2]
def rPx (p : RPx) : List Value := [.int .u32 (p.1 : Int), .int .i64 p.2]
def rEn (x : REn) : List Value := [.int .u32 (x.1.1 : Int), .int .i64 x.1.2, .int .i64 x.2]
theorem fl_nil {α : Type} (f : α → List Value) : fl f [] = [] := rfl
theorem fl_one {α : Type} (f : α → List Value) (x : α) : fl f [x] = f x := by unfold fl; simp
theorem fl_append {α : Type} (f : α → List Value) (a b : List α) : fl f (a ++ b) = fl f a ++ fl f b := by unfold fl; simp
theorem fl_len {α : Type} {f : α → List Value} {z : Nat} (hz : ∀ x, (f x).length = z) : ∀ l : List α, (fl f l).length = l.length * z
  | [] => by simp [fl]
  | x :: l => by
    have := fl_len hz l
    unfold fl at *
    rw [List.flatMap_cons, List.length_append, hz, this, List.length_cons, Nat.succ_mul]; omega
theorem fl_get {α : Type} {f : α → List Value} {z : Nat} (hz : ∀ x, (f x).length = z) : ∀ (l : List α) (k : Nat) (x : α), l[k]? = some x → ∀ j, j < z → (fl f l)[k * z + j]? = (f x)[j]?
  | [], k, x, h, j, _ => by simp at h
  | y :: l, 0, x, h, j, hj => by
    simp at h; subst h
    unfold fl
    rw [List.flatMap_cons, Nat.zero_mul, Nat.zero_add, List.getElem?_append_left (by rw [hz]; exact hj)]
  | y :: l, k + 1, x, h, j, hj => by
    have ih := fl_get hz l k x (by simpa using h) j hj
    unfold fl at *
    rw [List.flatMap_cons, List.getElem?_append_right (by rw [hz, Nat.succ_mul]; omega), hz, show (k + 1) * z + j - z = k * z + j by rw [Nat.succ_mul]; omega]
    exact ih
theorem fl_oneCell {α : Type} {f : α → List Value} (h : ∀ x, ∀ u ∈ f x, u.oneCell' = true) (l : List α) : ∀ u ∈ fl f l, u.oneCell' = true := fun u hu => by
  unfold fl at hu
  obtain ⟨x, _, hx⟩ := List.mem_flatMap.1 hu
  exact h x u hx
theorem ePx_len (p : Px) : (ePx p).length = 2 := rfl
theorem eEn_len (x : En) : (eEn x).length = 3 := rfl
theorem rPx_len (p : RPx) : (rPx p).length = 2 := rfl
theorem rEn_len (x : REn) : (rEn x).length = 3 := rfl
theorem ePx_one (p : Px) : ∀ u ∈ ePx p, u.oneCell' = true := fun u hu => by
  unfold ePx at hu; simp at hu; rcases hu with rfl | rfl <;> rfl
theorem eEn_one (p : En) : ∀ u ∈ eEn p, u.oneCell' = true := fun u hu => by
  unfold eEn at hu; simp at hu; rcases hu with rfl | rfl | rfl <;> rfl

/-! ### What a slice of such elements reads as -/
def Rows (w : World) (z : Nat) (v : Value) (n : Nat) (xs : List Value) : Prop :=
  xs.length = n * z ∧ ((v = .slice none 0 0 ∧ n = 0) ∨ ∃ x cap, v = .slice (some x) n cap ∧ n ≤ cap ∧ ∀ j u, xs[j]? = some u → w.cell? (x.add j) = some u)
theorem add_lit (b off j : Nat) : (⟨b, off, none⟩ : Addr).add j = ⟨b, off + j, none⟩ := by unfold Addr.add; split <;> simp_all
theorem rows_own {w : World} {B e z : Nat} {v : Value} {n : Nat} {xs : List Value} (h : w.ownsRow B e z v n xs) : Rows w z v n xs := by
  obtain ⟨h1, h2⟩ := h
  refine ⟨h1, ?_⟩
  rcases h2 with h2 | ⟨g, cap, cur, rfl, hb, hh, hnc, hcm, hcs, htake⟩
  · exact .inl h2
  · refine .inr ⟨⟨g, 0, none⟩, cap, rfl, hnc, fun j u hj => ?_⟩
    rw [add_lit, Nat.zero_add, cell_of_row w g j cur e (0, 0) hh]
    rw [← htake, List.getElem?_take] at hj
    split at hj
    · simpa using hj
    · cases hj
theorem rows_lit {x : Addr} {w : World} {u : Value} (h : w.cell? (x.add 0) = some u) : x.spot = none ∧ x.block < w.heap.size := by
  have e : x.add 0 = x := by simp [Addr.add]
  rw [e] at h
  exact ⟨World.cell?_spot h, World.block_lt_of_cell? w _ h⟩
theorem rows_below {w w' : World} {B z : Nat} {v : Value} {n : Nat} {xs : List Value} (h : Rows w z v n xs) (hb : Below B w w') (hB : w.heap.size ≤ B) : Rows w' z v n xs := by
  obtain ⟨h1, h2⟩ := h
  refine ⟨h1, ?_⟩
  rcases h2 with h2 | ⟨x, cap, rfl, hnc, hc⟩
  · exact .inl h2
  · refine .inr ⟨x, cap, rfl, hnc, fun j u hj => ?_⟩
    have hcell := hc j u hj
    have hjl : j < xs.length := by
      rcases Nat.lt_or_ge j xs.length with h | h
      · exact h
      · rw [List.getElem?_eq_none h] at hj; cases hj
    have hl := rows_lit (hc 0 (xs[0]'(by omega)) (List.getElem?_eq_getElem (by omega)))
    obtain ⟨b, off, spot⟩ := x
    obtain ⟨rfl, hlt⟩ := hl
    rw [add_lit] at hcell ⊢
    exact (hb.cell (p := ⟨b, off + j, none⟩) (by simp at hlt ⊢; omega)).trans hcell
theorem rows_keep {w w' : World} {z : Nat} {v : Value} {n : Nat} {xs : List Value} (h : Rows w z v n xs) (hb : Below w.heap.size w w') : Rows w' z v n xs := rows_below h hb (Nat.le_refl _)
/-- For a walk: the address is a letter, and is known where there is an element. -/
theorem rows_open {w : World} {z : Nat} {v : Value} {n : Nat} {xs : List Value} (hz : 0 < z) (h : Rows w z v n xs) :
    ∃ a cap, v = .slice a n cap ∧ n ≤ cap ∧ (0 < n → ∃ b off, a = some ⟨b, off, none⟩ ∧ b < w.heap.size ∧ ∀ j u, xs[j]? = some u → w.cell? ⟨b, off + j, none⟩ = some u) := by
  obtain ⟨h1, h2⟩ := h
  rcases h2 with ⟨rfl, rfl⟩ | ⟨x, cap, rfl, hnc, hc⟩
  · exact ⟨none, 0, rfl, Nat.le_refl _, fun h => by omega⟩
  · refine ⟨some x, cap, rfl, hnc, fun h0 => ?_⟩
    have hpos : 0 < xs.length := by rw [h1]; exact Nat.mul_pos h0 hz
    have hl := rows_lit (hc 0 (xs[0]'hpos) (List.getElem?_eq_getElem hpos))
    obtain ⟨b, off, spot⟩ := x
    obtain ⟨rfl, hlt⟩ := hl
    exact ⟨b, off, rfl, hlt, fun j u hj => by rw [← add_lit]; exact hc j u hj⟩
theorem rows_at {w : World} {b off n cap z : Nat} {xs : List Value} (hl : xs.length = n * z) (hn : n ≤ cap) (hc : ∀ j u, xs[j]? = some u → w.cell? ⟨b, off + j, none⟩ = some u) : Rows w z (.slice (some ⟨b, off, none⟩) n cap) n xs :=
  ⟨hl, .inr ⟨_, cap, rfl, hn, fun j u hj => by rw [add_lit]; exact hc j u hj⟩⟩
theorem rows_zero {w : World} {z : Nat} {a : Addr} {cap : Nat} : Rows w z (.slice (some a) 0 cap) 0 [] := ⟨by simp, .inr ⟨a, cap, rfl, Nat.zero_le _, fun j u hj => by simp at hj⟩⟩
theorem rows_nil {w : World} {z : Nat} : Rows w z (.slice none 0 0) 0 [] := ⟨by simp, .inl ⟨rfl, rfl⟩⟩
/-- A slice of elements. -/
abbrev IsRow {α : Type} (f : α → List Value) (z : Nat) (w : World) (v : Value) (s : List α) : Prop := Rows w z v s.length (fl f s)
theorem row_n {α : Type} {f : α → List Value} {z : Nat} {w : World} {v : Value} {s : List α} {n : Nat} (h : IsRow f z w v s) (e : n = s.length) : Rows w z v n (fl f s) := by subst e; exact h
theorem n_row {α : Type} {f : α → List Value} {z : Nat} {w : World} {v : Value} {s : List α} {n : Nat} (h : Rows w z v n (fl f s)) (e : n = s.length) : IsRow f z w v s := by subst e; exact h
/-- The cells of element k. -/
theorem row_cells {α : Type} {f : α → List Value} {z : Nat} (hz : ∀ x, (f x).length = z) {w : World} {b off : Nat} {s : List α} (hc : ∀ j u, (fl f s)[j]? = some u → w.cell? ⟨b, off + j, none⟩ = some u) {k : Nat} {x : α} (hk : s[k]? = some x) :
    ∀ j u, (f x)[j]? = some u → w.cell? ⟨b, off + k * z + j, none⟩ = some u := fun j u hj => by
  have hlt : j < z := by
    rw [← hz x]
    rcases Nat.lt_or_ge j (f x).length with h | h
    · exact h
    · rw [List.getElem?_eq_none h] at hj; cases hj
  rw [Nat.add_assoc]
  exact hc _ _ ((fl_get hz s k x hk j hlt).trans hj)

/-! ### Appends -/
section
variable {P : Program} {ops : Array Oper} {rest : List Oper} {o : Oper} {a : Act} {Q : Exit → Act → World → Prop}
/-- 'append(v, x)': x is laid in a new block, then appended; blocks that are not the row's lie as they lay. -/
theorem app1 (hgd : o.guard = none) (s x : Operand) (t : TypeId)
    (ho : o.op = .call { callee := .builtin .append, args := #[s, x], argTypes := #[t, t] })
    (e : TypeId) (i : TypeInfo) (y : Value) (z bytes : Nat) (ht : P.underlying t = some (.slice e)) (hi : P.info? e = some i) (hz : i.zero = some y)
    (hsize : i.size = z) (hby : i.bytes = bytes) (hzs : y.cells.size = z) (hz0 : 0 < z) (hb32 : bytes ≤ 100)
    (B : Nat) (w w0 : World) (v : Value) (n : Nat) (xs news : List Value) (hs : a.eval s = v) (hown : w0.ownsRow B e z v n xs) (hbel : Below B w w0) (hB : B ≤ w0.heap.size)
    (hx : a.eval x = .slice (some ⟨w0.heap.size, 0, none⟩) 1 1) (hl : news.length = z) (h1 : ∀ u ∈ news, u.oneCell' = true) (hn : n ≤ 10000000000)
    (h : ∀ v' w', w'.ownsRow B e z v' (n + 1) (xs ++ news) → Below B w w' → B ≤ w'.heap.size → (∀ k ob, w0.heap[k]? = some ob → v.ownBlock ≠ some k → w'.heap[k]? = some ob) → wpList P ops Q rest (a.put o.dst v') w') :
    wpList P ops Q (o :: rest) a (w0.alloc (.cells news.toArray e)) := by
  refine wpList_append_own _ hgd s x t ho B e i y z bytes ht hi hz hsize hby hzs hz0 v n xs hs (hown.alloc _) ⟨w0.heap.size, 0, none⟩ 1 1 news hx (by omega) ?_ h1 (by unfold maxLen; omega) ?_ (by simp; omega) ?_
  · intro j u hj
    rw [add_lit, Nat.zero_add, World.cell?_alloc_at _ _ _ _ rfl]
    simpa using hj
  · calc (n + 1) * bytes ≤ 10000000001 * 100 := Nat.mul_le_mul (by omega) hb32
      _ ≤ 140737488355328 := by omega
  · intro v' w' ho' hg _
    have hb2 : Below B w w' := (hbel.alloc hB _).grown hg (by simp; omega) (fun k hk => (hown.lt k hk).1)
    refine h v' w' ho' hb2 (by have := hg.size; simp at this; omega) fun k ob hk hne => ?_
    have hlt := blk_lt hk
    rw [hg.block k (by simp; omega) (fun e => hne e.symm), Below.heap_alloc _ _ _ hlt]; exact hk
/-- 'append(v, u...)', v the call's own. -/
theorem app2 (hgd : o.guard = none) (s x : Operand) (t : TypeId)
    (ho : o.op = .call { callee := .builtin .append, args := #[s, x], argTypes := #[t, t] })
    (e : TypeId) (i : TypeInfo) (y : Value) (z bytes : Nat) (ht : P.underlying t = some (.slice e)) (hi : P.info? e = some i) (hz : i.zero = some y)
    (hsize : i.size = z) (hby : i.bytes = bytes) (hzs : y.cells.size = z) (hz0 : 0 < z) (hb32 : bytes ≤ 100)
    (B : Nat) (w0 : World) (v u : Value) (n m : Nat) (xs ys : List Value) (hs : a.eval s = v) (hown : w0.ownsRow B e z v n xs) (hB : B ≤ w0.heap.size)
    (hx : a.eval x = u) (hu : Rows w0 z u m ys) (h1 : ∀ q ∈ ys, q.oneCell' = true) (hn : n ≤ 10000000000) (hm : m ≤ 10000000000)
    (h : ∀ v' w', w'.ownsRow B e z v' (n + m) (xs ++ ys) → Below B w0 w' → (∀ k ob, w0.heap[k]? = some ob → v.ownBlock ≠ some k → w'.heap[k]? = some ob) → wpList P ops Q rest (a.put o.dst v') w') :
    wpList P ops Q (o :: rest) a w0 := by
  obtain ⟨hl, hu⟩ := hu
  rcases hu with ⟨rfl, rfl⟩ | ⟨ad, cap, rfl, hmc, hc⟩
  · have hys : ys = [] := List.eq_nil_of_length_eq_zero (by simpa using hl)
    subst hys
    exact wpList_append_own_none hgd s x t ho B e i z ht hi v n xs hs hown hx (h v w0 (by simpa using hown) (Below.refl _ _) (fun _ _ hk _ => hk))
  · refine wpList_append_own _ hgd s x t ho B e i y z bytes ht hi hz hsize hby hzs hz0 v n xs hs hown ad m cap ys hx hl hc h1 (by unfold maxLen; omega) ?_ hB ?_
    · calc (n + m) * bytes ≤ 20000000000 * 100 := Nat.mul_le_mul (by omega) hb32
        _ ≤ 140737488355328 := by omega
    · intro v' w' ho' hg' _
      refine h v' w' ho' ((Below.refl B w0).grown hg' hB (fun k hk => (hown.lt k hk).1)) fun k ob hk hne => ?_
      rw [hg'.block k (blk_lt hk) (fun e => hne e.symm)]; exact hk
end

section
variable {P : Program} {ops : Array Oper} {o : Oper} {a : Act} {K : Act → World → Prop} {Q : Exit → Act → World → Prop} {E : Prop}
/-- 'append(v, x)' at a step of a region that draws its order. -/
theorem step1 (hgd : o.guard = none) (s x : Operand) (t : TypeId)
    (ho : o.op = .call { callee := .builtin .append, args := #[s, x], argTypes := #[t, t] })
    (e : TypeId) (i : TypeInfo) (y : Value) (z bytes : Nat) (ht : P.underlying t = some (.slice e)) (hi : P.info? e = some i) (hz : i.zero = some y)
    (hsize : i.size = z) (hby : i.bytes = bytes) (hzs : y.cells.size = z) (hz0 : 0 < z) (hb32 : bytes ≤ 100)
    (B : Nat) (w w0 w1 : World) (v : Value) (n : Nat) (xs news : List Value) (hs : a.eval s = v) (hown : w0.ownsRow B e z v n xs) (hbel : Below B w w0) (hB : B ≤ w0.heap.size)
    (hw1 : w1 = w0.drew.alloc (.cells news.toArray e)) (hx : a.eval x = .slice (some ⟨w0.heap.size, 0, none⟩) 1 1) (hl : news.length = z) (h1 : ∀ u ∈ news, u.oneCell' = true) (hn : n ≤ 10000000000)
    (h : ∀ v' w', w'.ownsRow B e z v' (n + 1) (xs ++ news) → Below B w w' → B ≤ w'.heap.size → (∀ k ob, w0.heap[k]? = some ob → v.ownBlock ≠ some k → w'.heap[k]? = some ob) → K (a.put o.dst v') w') :
    if Region.wanted o (yielded ops a.tmps) = true then Oper.wp P o a w1 K Q else E := by
  subst hw1
  have hw : Region.wanted o (yielded ops a.tmps) = true := by simp [Region.wanted, hgd]
  rw [if_pos hw]
  have hown' : (w0.drew.alloc (.cells news.toArray e)).ownsRow B e z v n xs := hown.alloc _
  refine wp_append_own _ s x t ho B e i y z bytes ht hi hz hsize hby hzs hz0 v n xs hs hown' ⟨w0.heap.size, 0, none⟩ 1 1 news hx (by omega) ?_ h1 (by unfold maxLen; omega) ?_ (by simp; omega) ?_
  · intro j u hj
    rw [add_lit, Nat.zero_add]
    have := World.cell?_alloc_at (w := w0.drew) news.toArray e w0.heap.size j rfl
    rw [this]
    simpa using hj
  · calc (n + 1) * bytes ≤ 10000000001 * 100 := Nat.mul_le_mul (by omega) hb32
      _ ≤ 140737488355328 := by omega
  · intro v' w' ho' hg _
    have hb2 : Below B w w' := (hbel.drew.alloc hB _).grown hg (by simp; omega) (fun k hk => (hown.lt k hk).1)
    refine h v' w' ho' hb2 (by have := hg.size; simp at this; omega) fun k ob hk hne => ?_
    have hlt := blk_lt hk
    rw [hg.block k (by simp; omega) (fun e => hne e.symm)]
    exact (Below.heap_alloc w0.drew _ _ hlt).trans hk
/-- 'append(v, u...)' at a step of a region that draws its order, v the call's own. -/
theorem step2 (hgd : o.guard = none) (s x : Operand) (t : TypeId)
    (ho : o.op = .call { callee := .builtin .append, args := #[s, x], argTypes := #[t, t] })
    (e : TypeId) (i : TypeInfo) (y : Value) (z bytes : Nat) (ht : P.underlying t = some (.slice e)) (hi : P.info? e = some i) (hz : i.zero = some y)
    (hsize : i.size = z) (hby : i.bytes = bytes) (hzs : y.cells.size = z) (hz0 : 0 < z) (hb32 : bytes ≤ 100)
    (B : Nat) (w0 : World) (v u : Value) (n m : Nat) (xs ys : List Value) (hs : a.eval s = v) (hown : w0.ownsRow B e z v n xs) (hB : B ≤ w0.heap.size)
    (hx : a.eval x = u) (hu : Rows w0 z u m ys) (h1 : ∀ q ∈ ys, q.oneCell' = true) (hn : n ≤ 10000000000) (hm : m ≤ 10000000000)
    (h : ∀ v' w', w'.ownsRow B e z v' (n + m) (xs ++ ys) → Below B w0 w' → (∀ k ob, w0.heap[k]? = some ob → v.ownBlock ≠ some k → w'.heap[k]? = some ob) → K (a.put o.dst v') w') :
    if Region.wanted o (yielded ops a.tmps) = true then Oper.wp P o a w0 K Q else E := by
  have hw : Region.wanted o (yielded ops a.tmps) = true := by simp [Region.wanted, hgd]
  rw [if_pos hw]
  obtain ⟨hl, hu⟩ := hu
  rcases hu with ⟨rfl, rfl⟩ | ⟨ad, cap, rfl, hmc, hc⟩
  · have hys : ys = [] := List.eq_nil_of_length_eq_zero (by simpa using hl)
    subst hys
    have hrun := run_append_owned_none (P := P) (w := w0) B t o.type e i z ht hi v n xs hown
    unfold Oper.wp
    simp [execOp, ho, resolve, invoke, builtin, hs, hx, hrun, Result.andThen]
    exact h v w0 (by simpa using hown) (Below.refl _ _) (fun _ _ hk _ => hk)
  · refine wp_append_own _ s x t ho B e i y z bytes ht hi hz hsize hby hzs hz0 v n xs hs hown ad m cap ys hx hl hc h1 (by unfold maxLen; omega) ?_ hB ?_
    · calc (n + m) * bytes ≤ 20000000000 * 100 := Nat.mul_le_mul (by omega) hb32
        _ ≤ 140737488355328 := by omega
    · intro v' w' ho' hg' _
      refine h v' w' ho' ((Below.refl B w0).grown hg' hB (fun k hk => (hown.lt k hk).1)) fun k ob hk hne => ?_
      rw [hg'.block k (blk_lt hk) (fun e => hne e.symm)]; exact hk
end

/-! ### One cell of an own row written -/
theorem own_set {w : World} {B e z g cap n : Nat} {xs : List Value} (h : w.ownsRow B e z (.slice (some ⟨g, 0, none⟩) n cap) n xs) (j : Nat) (u : Value) :
    (w.setCell ⟨g, j, none⟩ u).ownsRow B e z (.slice (some ⟨g, 0, none⟩) n cap) n (xs.set j u) := by
  obtain ⟨h1, h2⟩ := h
  refine ⟨by rw [List.length_set]; exact h1, ?_⟩
  rcases h2 with ⟨h2, _⟩ | ⟨g', cap', cur, hv, hb, hh, hnc, hcm, hcs, htake⟩
  · cases h2
  · cases hv
    refine .inr ⟨g, cap, cur.setIfInBounds j u, rfl, hb, heap_setCell_same w g j cur e u hh, hnc, hcm, by rw [Array.size_setIfInBounds]; exact hcs, ?_⟩
    rw [Array.toList_setIfInBounds, List.take_set, htake]
theorem own_form {w : World} {B e z n : Nat} {v : Value} {xs : List Value} (h : w.ownsRow B e z v n xs) (hn : 0 < n) :
    ∃ g cap, v = .slice (some ⟨g, 0, none⟩) n cap ∧ B ≤ g ∧ g < w.heap.size ∧ n ≤ cap ∧ (∀ j u, xs[j]? = some u → w.cell? ⟨g, j, none⟩ = some u) ∧ ∀ j, w.frozen? ⟨g, j, none⟩ = false := by
  have ho := h
  obtain ⟨h1, h2⟩ := h
  rcases h2 with ⟨_, h2⟩ | ⟨g, cap, cur, rfl, hb, hh, hnc, hcm, hcs, htake⟩
  · omega
  · refine ⟨g, cap, rfl, hb, blk_lt hh, hnc, fun j u hj => ?_, fun j => blk_frozen hh j⟩
    have := ho.cells (g := g) rfl j u hj
    rwa [add_lit, Nat.zero_add] at this
theorem own_ne {w : World} {B e z n : Nat} {v : Value} {xs : List Value} (h : w.ownsRow B e z v n xs) {k : Nat} (hk : w.heap.size ≤ k) : v.ownBlock ≠ some k := fun e => by
  have := (h.lt k e).2; omega
theorem own_less {w : World} {B B' e z n : Nat} {v : Value} {xs : List Value} (h : w.ownsRow B e z v n xs) (hB : B' ≤ B) : w.ownsRow B' e z v n xs := by
  obtain ⟨h1, h2⟩ := h
  refine ⟨h1, ?_⟩
  rcases h2 with h2 | ⟨g, cap, cur, rfl, hg, hh, r⟩
  · exact .inl h2
  · exact .inr ⟨g, cap, cur, rfl, by omega, hh, r⟩
theorem own_new (w : World) (xs : List Value) (e z B n : Nat) (h : xs.length = n * z) (hn : n ≤ 10000000000) (hB : B ≤ w.heap.size) : (w.alloc (.cells xs.toArray e)).ownsRow B e z (.slice (some ⟨w.heap.size, 0, none⟩) n n) n xs :=
  ⟨h, .inr ⟨w.heap.size, n, xs.toArray, rfl, hB, heap_new w _, Nat.le_refl _, by unfold maxLen; omega, by simp [h], by rw [← h]; simp⟩⟩
theorem own_nil {w : World} {B e z n : Nat} {v : Value} (h : n = 0) (hv : v = .slice none 0 0) : w.ownsRow B e z v n [] := by
  subst h hv; exact World.ownsRow_nil _ _ _ _
end Go.Proofs.Ytnlmplllfgfgoaa.Tm
