/-
  FACTS ON MEMORY, FOR SLICES WHOSE ELEMENTS ARE TWO CELLS EACH (intervals, prefixes): what a slice reads as; one append behind one law; one cell of an own row written; a sorted row. No function of the program is named.
-/
import Derived.Test.YtmcoccfbbhnmfaaDoorScanM
import Derived.Test.YtmcoccfbbhnmfaaDoorIvlQ
import Derived.Test.YtmcoccfbbhnmfaaDoorLater
import Derived.Laws.AppendOwnNone
import Derived.Shelf.SlSortCmp.WholeK
namespace Go.Proofs.YtmcoccfbbhnmfaaDoor.Im
set_option linter.unusedSimpArgs false
set_option linter.unusedVariables false
open Go.RowKit Sm Ip Kt

/-! ### The cells of intervals and of prefixes -/
def iv2 : List Iv → List Value
  | [] => []
  | x :: r => .int .u32 (x.1 : Int) :: .int .u32 (x.2 : Int) :: iv2 r
def px2 : List Px → List Value
  | [] => []
  | x :: r => .int .u32 (x.1 : Int) :: .int .i64 (x.2 : Int) :: px2 r
theorem iv2_length : ∀ l : List Iv, (iv2 l).length = l.length * 2
  | [] => rfl
  | x :: r => by rw [iv2, List.length_cons, List.length_cons, List.length_cons, iv2_length r]; omega
theorem px2_length : ∀ l : List Px, (px2 l).length = l.length * 2
  | [] => rfl
  | x :: r => by rw [px2, List.length_cons, List.length_cons, List.length_cons, px2_length r]; omega
theorem iv2_append : ∀ a b : List Iv, iv2 (a ++ b) = iv2 a ++ iv2 b
  | [], _ => rfl
  | x :: r, b => by rw [List.cons_append, iv2, iv2, iv2_append r b]; rfl
theorem px2_append : ∀ a b : List Px, px2 (a ++ b) = px2 a ++ px2 b
  | [], _ => rfl
  | x :: r, b => by rw [List.cons_append, px2, px2, px2_append r b]; rfl
theorem iv2_one : ∀ (l : List Iv), ∀ u ∈ iv2 l, u.oneCell' = true
  | x :: r, u, h => by
    rw [iv2] at h
    rcases List.mem_cons.1 h with rfl | h
    · rfl
    · rcases List.mem_cons.1 h with rfl | h
      · rfl
      · exact iv2_one r u h
theorem px2_one : ∀ (l : List Px), ∀ u ∈ px2 l, u.oneCell' = true
  | x :: r, u, h => by
    rw [px2] at h
    rcases List.mem_cons.1 h with rfl | h
    · rfl
    · rcases List.mem_cons.1 h with rfl | h
      · rfl
      · exact px2_one r u h
/-- Element k. -/
def nth (l : List (Nat × Nat)) (k : Nat) : Nat × Nat := l.getD k (0, 0)
theorem nth_get {l : List (Nat × Nat)} {k : Nat} (h : k < l.length) : nth l k = l[k]'h := by unfold nth; rw [List.getD_eq_getElem?_getD, List.getElem?_eq_getElem h]; rfl
theorem nth_mem {l : List (Nat × Nat)} {k : Nat} (h : k < l.length) : nth l k ∈ l := by rw [nth_get h]; exact List.getElem_mem h
theorem nth_drop {l : List (Nat × Nat)} {k : Nat} (h : k < l.length) : l.drop k = nth l k :: l.drop (k + 1) := by rw [nth_get h]; exact List.drop_eq_getElem_cons h
theorem nth_take {l : List (Nat × Nat)} {k : Nat} (h : k < l.length) : l.take (k + 1) = l.take k ++ [nth l k] := by rw [nth_get h]; exact List.take_succ_eq_append_getElem h
theorem iv2_get : ∀ (l : List Iv) (k : Nat), k < l.length → (iv2 l)[k * 2]? = some (.int .u32 ((nth l k).1 : Int)) ∧ (iv2 l)[k * 2 + 1]? = some (.int .u32 ((nth l k).2 : Int))
  | [], k, h => by cases h
  | x :: r, 0, _ => ⟨rfl, rfl⟩
  | x :: r, k + 1, h => by
    have ih := iv2_get r k (by simpa using h)
    have e1 : (k + 1) * 2 = k * 2 + 1 + 1 := by omega
    rw [iv2, e1]
    simpa [nth] using ih
theorem px2_get : ∀ (l : List Px) (k : Nat), k < l.length → (px2 l)[k * 2]? = some (.int .u32 ((nth l k).1 : Int)) ∧ (px2 l)[k * 2 + 1]? = some (.int .i64 ((nth l k).2 : Int))
  | [], k, h => by cases h
  | x :: r, 0, _ => ⟨rfl, rfl⟩
  | x :: r, k + 1, h => by
    have ih := px2_get r k (by simpa using h)
    have e1 : (k + 1) * 2 = k * 2 + 1 + 1 := by omega
    rw [px2, e1]
    simpa [nth] using ih
theorem iv2_set (acc : List Iv) (l : Iv) (h : Nat) : (iv2 (acc ++ [l])).set (acc.length * 2 + 1) (.int .u32 (h : Int)) = iv2 (acc ++ [(l.1, h)]) := by
  rw [iv2_append, iv2_append, List.set_append_right _ _ (by rw [iv2_length]; omega), iv2_length, show acc.length * 2 + 1 - acc.length * 2 = 1 by omega]
  rfl

/-! ### What a slice of such elements reads as -/
def Rows (w : World) (v : Value) (n : Nat) (xs : List Value) : Prop :=
  xs.length = n * 2 ∧ ((v = .slice none 0 0 ∧ n = 0) ∨ ∃ x cap, v = .slice (some x) n cap ∧ n ≤ cap ∧ ∀ j u, xs[j]? = some u → w.cell? (x.add j) = some u)
theorem add_lit (b off j : Nat) : (⟨b, off, none⟩ : Addr).add j = ⟨b, off + j, none⟩ := by unfold Addr.add; split <;> simp_all
theorem rows_own {w : World} {B e : Nat} {v : Value} {n : Nat} {xs : List Value} (h : w.ownsRow B e 2 v n xs) : Rows w v n xs := by
  obtain ⟨h1, h2⟩ := h
  refine ⟨h1, ?_⟩
  rcases h2 with h2 | ⟨g, cap, cur, rfl, hb, hh, hnc, hcm, hcs, htake⟩
  · exact .inl h2
  · refine .inr ⟨⟨g, 0, none⟩, cap, rfl, hnc, fun j u hj => ?_⟩
    rw [add_lit, Nat.zero_add, cell_of_row w g j cur e (0, 0) hh]
    rw [← htake, List.getElem?_take] at hj
    split at hj
    · simpa using hj
    · cases hj
theorem rows_lit {x : Addr} {w : World} {u : Value} (h : w.cell? (x.add 0) = some u) : x.spot = none ∧ x.block < w.heap.size := by
  have e : x.add 0 = x := by simp [Addr.add]
  rw [e] at h
  exact ⟨World.cell?_spot h, World.block_lt_of_cell? w _ h⟩
theorem rows_below {w w' : World} {B : Nat} {v : Value} {n : Nat} {xs : List Value} (h : Rows w v n xs) (hb : Below B w w') (hB : w.heap.size ≤ B) : Rows w' v n xs := by
  obtain ⟨h1, h2⟩ := h
  refine ⟨h1, ?_⟩
  rcases h2 with h2 | ⟨x, cap, rfl, hnc, hc⟩
  · exact .inl h2
  · refine .inr ⟨x, cap, rfl, hnc, fun j u hj => ?_⟩
    have hcell := hc j u hj
    have hjl : j < xs.length := by
      rcases Nat.lt_or_ge j xs.length with h | h
      · exact h
      · rw [List.getElem?_eq_none h] at hj; cases hj
    have hl := rows_lit (hc 0 (xs[0]'(by omega)) (List.getElem?_eq_getElem (by omega)))
    obtain ⟨b, off, spot⟩ := x
    obtain ⟨rfl, hlt⟩ := hl
    rw [add_lit] at hcell ⊢
    exact (hb.cell (p := ⟨b, off + j, none⟩) (by simp at hlt ⊢; omega)).trans hcell
theorem rows_keep {w w' : World} {v : Value} {n : Nat} {xs : List Value} (h : Rows w v n xs) (hb : Below w.heap.size w w') : Rows w' v n xs := rows_below h hb (Nat.le_refl _)
/-- For a walk: the address is a letter, and is known where there is an element. -/
theorem rows_open {w : World} {v : Value} {n : Nat} {xs : List Value} (h : Rows w v n xs) :
    ∃ a cap, v = .slice a n cap ∧ (0 < n → ∃ b off, a = some ⟨b, off, none⟩ ∧ b < w.heap.size ∧ ∀ j u, xs[j]? = some u → w.cell? ⟨b, off + j, none⟩ = some u) := by
  obtain ⟨h1, h2⟩ := h
  rcases h2 with ⟨rfl, rfl⟩ | ⟨x, cap, rfl, hnc, hc⟩
  · exact ⟨none, 0, rfl, fun h => by omega⟩
  · refine ⟨some x, cap, rfl, fun h0 => ?_⟩
    have hl := rows_lit (hc 0 (xs[0]'(by omega)) (List.getElem?_eq_getElem (by omega)))
    obtain ⟨b, off, spot⟩ := x
    obtain ⟨rfl, hlt⟩ := hl
    exact ⟨b, off, rfl, hlt, fun j u hj => by rw [← add_lit]; exact hc j u hj⟩
theorem rows_cap {w : World} {a : Option Addr} {m n cap : Nat} {xs : List Value} (h : Rows w (.slice a m cap) n xs) : n ≤ cap ∧ m = n := by
  obtain ⟨h1, h2⟩ := h
  rcases h2 with ⟨h2, h3⟩ | ⟨x, c, h2, hnc, hc⟩
  · injection h2 with e1 e2 e3; omega
  · injection h2 with e1 e2 e3; omega
/-- A slice of intervals by its address, and the same for what is left behind the first k of them. -/
theorem rows_at {w : World} {b off n cap : Nat} {xs : List Value} (hl : xs.length = n * 2) (hn : n ≤ cap) (hc : ∀ j u, xs[j]? = some u → w.cell? ⟨b, off + j, none⟩ = some u) : Rows w (.slice (some ⟨b, off, none⟩) n cap) n xs :=
  ⟨hl, .inr ⟨_, cap, rfl, hn, fun j u hj => by rw [add_lit]; exact hc j u hj⟩⟩
theorem rows_new (w : World) (xs : List Value) (T : TypeId) (n : Nat) (h : xs.length = n * 2) : Rows (w.alloc (.cells xs.toArray T)) (.slice (some ⟨w.heap.size, 0, none⟩) n n) n xs :=
  ⟨h, .inr ⟨_, n, rfl, Nat.le_refl _, fun j u hj => by
    rw [add_lit, Nat.zero_add, World.cell?_alloc_at _ _ _ _ rfl]
    simpa using hj⟩⟩
theorem rows_zero {w : World} {a : Addr} {cap : Nat} : Rows w (.slice (some a) 0 cap) 0 [] := ⟨rfl, .inr ⟨a, cap, rfl, Nat.zero_le _, fun j u hj => by simp at hj⟩⟩
theorem rows_len {w : World} {v : Value} {n : Nat} {xs : List Value} (h : Rows w v n xs) : xs.length = n * 2 := h.1

/-- A slice of intervals; a slice of prefixes. -/
abbrev IsIv (w : World) (v : Value) (s : List Iv) : Prop := Rows w v s.length (iv2 s)
abbrev IsPx (w : World) (v : Value) (s : List Px) : Prop := Rows w v s.length (px2 s)
theorem iv_n {w : World} {v : Value} {s : List Iv} {n : Nat} (h : IsIv w v s) (e : n = s.length) : Rows w v n (iv2 s) := by subst e; exact h
theorem n_iv {w : World} {v : Value} {s : List Iv} {n : Nat} (h : Rows w v n (iv2 s)) (e : n = s.length) : IsIv w v s := by subst e; exact h
theorem px_n {w : World} {v : Value} {s : List Px} {n : Nat} (h : IsPx w v s) (e : n = s.length) : Rows w v n (px2 s) := by subst e; exact h
theorem n_px {w : World} {v : Value} {s : List Px} {n : Nat} (h : Rows w v n (px2 s)) (e : n = s.length) : IsPx w v s := by subst e; exact h
theorem iv_cells {w : World} {b off : Nat} {s : List Iv} (hc : ∀ j u, (iv2 s)[j]? = some u → w.cell? ⟨b, off + j, none⟩ = some u) {k : Nat} (hk : k < s.length) :
    w.cell? ⟨b, off + k * 2, none⟩ = some (.int .u32 ((nth s k).1 : Int)) ∧ w.cell? ⟨b, off + k * 2 + 1, none⟩ = some (.int .u32 ((nth s k).2 : Int)) :=
  ⟨hc _ _ (iv2_get s k hk).1, by rw [Nat.add_assoc]; exact hc _ _ (iv2_get s k hk).2⟩
theorem px_cells {w : World} {b off : Nat} {s : List Px} (hc : ∀ j u, (px2 s)[j]? = some u → w.cell? ⟨b, off + j, none⟩ = some u) {k : Nat} (hk : k < s.length) :
    w.cell? ⟨b, off + k * 2, none⟩ = some (.int .u32 ((nth s k).1 : Int)) ∧ w.cell? ⟨b, off + k * 2 + 1, none⟩ = some (.int .i64 ((nth s k).2 : Int)) :=
  ⟨hc _ _ (px2_get s k hk).1, by rw [Nat.add_assoc]; exact hc _ _ (px2_get s k hk).2⟩

/-! ### Appends -/
section
variable {P : Program} {ops : Array Oper} {rest : List Oper} {o : Oper} {a : Act} {Q : Exit → Act → World → Prop}
/-- 'append(v, x)': x is laid in a new block, then appended. -/
theorem app1 (hgd : o.guard = none) (s x : Operand) (t : TypeId)
    (ho : o.op = .call { callee := .builtin .append, args := #[s, x], argTypes := #[t, t] })
    (e : TypeId) (i : TypeInfo) (z : Value) (bytes : Nat) (ht : P.underlying t = some (.slice e)) (hi : P.info? e = some i) (hz : i.zero = some z)
    (hsize : i.size = 2) (hby : i.bytes = bytes) (hzs : z.cells.size = 2) (hb32 : bytes ≤ 100)
    (B : Nat) (w w0 : World) (v : Value) (n : Nat) (xs news : List Value) (hs : a.eval s = v) (hown : w0.ownsRow B e 2 v n xs) (hbel : Below B w w0) (hB : B ≤ w0.heap.size)
    (hx : a.eval x = .slice (some ⟨w0.heap.size, 0, none⟩) 1 1) (hl : news.length = 2) (h1 : ∀ u ∈ news, u.oneCell' = true) (hn : n ≤ 10000000000)
    (h : ∀ v' w', w'.ownsRow B e 2 v' (n + 1) (xs ++ news) → Below B w w' → B ≤ w'.heap.size → wpList P ops Q rest (a.put o.dst v') w') :
    wpList P ops Q (o :: rest) a (w0.alloc (.cells news.toArray e)) := by
  refine wpList_append_own _ hgd s x t ho B e i z 2 bytes ht hi hz hsize hby hzs (by decide) v n xs hs (hown.alloc _) ⟨w0.heap.size, 0, none⟩ 1 1 news hx (by omega) ?_ h1 (by unfold maxLen; omega) ?_ (by simp; omega) ?_
  · intro j u hj
    rw [add_lit, Nat.zero_add, World.cell?_alloc_at _ _ _ _ rfl]
    simpa using hj
  · calc (n + 1) * bytes ≤ 10000000001 * 100 := Nat.mul_le_mul (by omega) hb32
      _ ≤ 140737488355328 := by omega
  · intro v' w' ho' hg _
    have hb2 : Below B w w' := (hbel.alloc hB _).grown hg (by simp; omega) (fun k hk => (hown.lt k hk).1)
    exact h v' w' ho' hb2 (by have := hg.size; simp at this; omega)
/-- The same, and blocks that are not the row's lie as they lay. -/
theorem app1k (hgd : o.guard = none) (s x : Operand) (t : TypeId)
    (ho : o.op = .call { callee := .builtin .append, args := #[s, x], argTypes := #[t, t] })
    (e : TypeId) (i : TypeInfo) (z : Value) (bytes : Nat) (ht : P.underlying t = some (.slice e)) (hi : P.info? e = some i) (hz : i.zero = some z)
    (hsize : i.size = 2) (hby : i.bytes = bytes) (hzs : z.cells.size = 2) (hb32 : bytes ≤ 100)
    (B : Nat) (w w0 : World) (v : Value) (n : Nat) (xs news : List Value) (hs : a.eval s = v) (hown : w0.ownsRow B e 2 v n xs) (hbel : Below B w w0) (hB : B ≤ w0.heap.size)
    (hx : a.eval x = .slice (some ⟨w0.heap.size, 0, none⟩) 1 1) (hl : news.length = 2) (h1 : ∀ u ∈ news, u.oneCell' = true) (hn : n ≤ 10000000000)
    (h : ∀ v' w', w'.ownsRow B e 2 v' (n + 1) (xs ++ news) → Below B w w' → B ≤ w'.heap.size → (∀ k ob, w0.heap[k]? = some ob → v.ownBlock ≠ some k → w'.heap[k]? = some ob) → wpList P ops Q rest (a.put o.dst v') w') :
    wpList P ops Q (o :: rest) a (w0.alloc (.cells news.toArray e)) := by
  refine wpList_append_own _ hgd s x t ho B e i z 2 bytes ht hi hz hsize hby hzs (by decide) v n xs hs (hown.alloc _) ⟨w0.heap.size, 0, none⟩ 1 1 news hx (by omega) ?_ h1 (by unfold maxLen; omega) ?_ (by simp; omega) ?_
  · intro j u hj
    rw [add_lit, Nat.zero_add, World.cell?_alloc_at _ _ _ _ rfl]
    simpa using hj
  · calc (n + 1) * bytes ≤ 10000000001 * 100 := Nat.mul_le_mul (by omega) hb32
      _ ≤ 140737488355328 := by omega
  · intro v' w' ho' hg _
    have hb2 : Below B w w' := (hbel.alloc hB _).grown hg (by simp; omega) (fun k hk => (hown.lt k hk).1)
    refine h v' w' ho' hb2 (by have := hg.size; simp at this; omega) fun k ob hk hne => ?_
    have hlt := blk_lt hk
    rw [hg.block k (by simp; omega) (fun e => hne e.symm), Below.heap_alloc _ _ _ hlt]; exact hk
/-- 'append(v, u...)', v the call's own. -/
theorem app2 (hgd : o.guard = none) (s x : Operand) (t : TypeId)
    (ho : o.op = .call { callee := .builtin .append, args := #[s, x], argTypes := #[t, t] })
    (e : TypeId) (i : TypeInfo) (z : Value) (bytes : Nat) (ht : P.underlying t = some (.slice e)) (hi : P.info? e = some i) (hz : i.zero = some z)
    (hsize : i.size = 2) (hby : i.bytes = bytes) (hzs : z.cells.size = 2) (hb32 : bytes ≤ 100)
    (B : Nat) (w0 : World) (v u : Value) (n m : Nat) (xs ys : List Value) (hs : a.eval s = v) (hown : w0.ownsRow B e 2 v n xs) (hB : B ≤ w0.heap.size)
    (hx : a.eval x = u) (hu : Rows w0 u m ys) (h1 : ∀ q ∈ ys, q.oneCell' = true) (hn : n ≤ 10000000000) (hm : m ≤ 10000000000)
    (h : ∀ v' w', w'.ownsRow B e 2 v' (n + m) (xs ++ ys) → Below B w0 w' → wpList P ops Q rest (a.put o.dst v') w') :
    wpList P ops Q (o :: rest) a w0 := by
  obtain ⟨hl, hu⟩ := hu
  rcases hu with ⟨rfl, rfl⟩ | ⟨ad, cap, rfl, hmc, hc⟩
  · have hys : ys = [] := List.eq_nil_of_length_eq_zero (by simpa using hl)
    subst hys
    exact wpList_append_own_none hgd s x t ho B e i 2 ht hi v n xs hs hown hx (h v w0 (by simpa using hown) (Below.refl _ _))
  · refine wpList_append_own _ hgd s x t ho B e i z 2 bytes ht hi hz hsize hby hzs (by decide) v n xs hs hown ad m cap ys hx hl hc h1 (by unfold maxLen; omega) ?_ hB ?_
    · calc (n + m) * bytes ≤ 20000000000 * 100 := Nat.mul_le_mul (by omega) hb32
        _ ≤ 140737488355328 := by omega
    · intro v' w' ho' hg' _
      exact h v' w' ho' ((Below.refl B w0).grown hg' hB (fun k hk => (hown.lt k hk).1))
end

section
variable {P : Program} {ops : Array Oper} {o : Oper} {a : Act} {K : Act → World → Prop} {Q : Exit → Act → World → Prop} {E : Prop}
/-- 'append(v, x)' at a step of a region that draws its order. -/
theorem step1 (hgd : o.guard = none) (s x : Operand) (t : TypeId)
    (ho : o.op = .call { callee := .builtin .append, args := #[s, x], argTypes := #[t, t] })
    (e : TypeId) (i : TypeInfo) (z : Value) (bytes : Nat) (ht : P.underlying t = some (.slice e)) (hi : P.info? e = some i) (hz : i.zero = some z)
    (hsize : i.size = 2) (hby : i.bytes = bytes) (hzs : z.cells.size = 2) (hb32 : bytes ≤ 100)
    (B : Nat) (w w0 w1 : World) (v : Value) (n : Nat) (xs news : List Value) (hs : a.eval s = v) (hown : w0.ownsRow B e 2 v n xs) (hbel : Below B w w0) (hB : B ≤ w0.heap.size)
    (hw1 : w1 = w0.drew.alloc (.cells news.toArray e)) (hx : a.eval x = .slice (some ⟨w0.heap.size, 0, none⟩) 1 1) (hl : news.length = 2) (h1 : ∀ u ∈ news, u.oneCell' = true) (hn : n ≤ 10000000000)
    (h : ∀ v' w', w'.ownsRow B e 2 v' (n + 1) (xs ++ news) → Below B w w' → B ≤ w'.heap.size → K (a.put o.dst v') w') :
    if Region.wanted o (yielded ops a.tmps) = true then Oper.wp P o a w1 K Q else E := by
  subst hw1
  have hw : Region.wanted o (yielded ops a.tmps) = true := by simp [Region.wanted, hgd]
  rw [if_pos hw]
  have hown' : (w0.drew.alloc (.cells news.toArray e)).ownsRow B e 2 v n xs := hown.alloc _
  refine wp_append_own _ s x t ho B e i z 2 bytes ht hi hz hsize hby hzs (by decide) v n xs hs hown' ⟨w0.heap.size, 0, none⟩ 1 1 news hx (by omega) ?_ h1 (by unfold maxLen; omega) ?_ (by simp; omega) ?_
  · intro j u hj
    rw [add_lit, Nat.zero_add]
    have := World.cell?_alloc_at (w := w0.drew) news.toArray e w0.heap.size j rfl
    rw [this]
    simpa using hj
  · calc (n + 1) * bytes ≤ 10000000001 * 100 := Nat.mul_le_mul (by omega) hb32
      _ ≤ 140737488355328 := by omega
  · intro v' w' ho' hg _
    have hb2 : Below B w w' := (hbel.drew.alloc hB _).grown hg (by simp; omega) (fun k hk => (hown.lt k hk).1)
    exact h v' w' ho' hb2 (by have := hg.size; simp at this; omega)
end

section
variable {P : Program} {ops : Array Oper} {o : Oper} {a : Act} {K : Act → World → Prop} {Q : Exit → Act → World → Prop} {E : Prop}
/-- 'append(v, u...)' at a step of a region that draws its order, v the call's own. -/
theorem step2 (hgd : o.guard = none) (s x : Operand) (t : TypeId)
    (ho : o.op = .call { callee := .builtin .append, args := #[s, x], argTypes := #[t, t] })
    (e : TypeId) (i : TypeInfo) (z : Value) (bytes : Nat) (ht : P.underlying t = some (.slice e)) (hi : P.info? e = some i) (hz : i.zero = some z)
    (hsize : i.size = 2) (hby : i.bytes = bytes) (hzs : z.cells.size = 2) (hb32 : bytes ≤ 100)
    (B : Nat) (w0 : World) (v u : Value) (n m : Nat) (xs ys : List Value) (hs : a.eval s = v) (hown : w0.ownsRow B e 2 v n xs) (hB : B ≤ w0.heap.size)
    (hx : a.eval x = u) (hu : Rows w0 u m ys) (h1 : ∀ q ∈ ys, q.oneCell' = true) (hn : n ≤ 10000000000) (hm : m ≤ 10000000000)
    (h : ∀ v' w', w'.ownsRow B e 2 v' (n + m) (xs ++ ys) → Below B w0 w' → K (a.put o.dst v') w') :
    if Region.wanted o (yielded ops a.tmps) = true then Oper.wp P o a w0 K Q else E := by
  have hw : Region.wanted o (yielded ops a.tmps) = true := by simp [Region.wanted, hgd]
  rw [if_pos hw]
  obtain ⟨hl, hu⟩ := hu
  rcases hu with ⟨rfl, rfl⟩ | ⟨ad, cap, rfl, hmc, hc⟩
  · have hys : ys = [] := List.eq_nil_of_length_eq_zero (by simpa using hl)
    subst hys
    have hrun := run_append_owned_none (P := P) (w := w0) B t o.type e i 2 ht hi v n xs hown
    unfold Oper.wp
    simp [execOp, ho, resolve, invoke, builtin, hs, hx, hrun, Result.andThen]
    exact h v w0 (by simpa using hown) (Below.refl _ _)
  · refine wp_append_own _ s x t ho B e i z 2 bytes ht hi hz hsize hby hzs (by decide) v n xs hs hown ad m cap ys hx hl hc h1 (by unfold maxLen; omega) ?_ hB ?_
    · calc (n + m) * bytes ≤ 20000000000 * 100 := Nat.mul_le_mul (by omega) hb32
        _ ≤ 140737488355328 := by omega
    · intro v' w' ho' hg' _
      exact h v' w' ho' ((Below.refl B w0).grown hg' hB (fun k hk => (hown.lt k hk).1))
end

/-! ### One cell of an own row written -/
theorem own_set {w : World} {B e g cap n : Nat} {xs : List Value} (h : w.ownsRow B e 2 (.slice (some ⟨g, 0, none⟩) n cap) n xs) (j : Nat) (u : Value) :
    (w.setCell ⟨g, j, none⟩ u).ownsRow B e 2 (.slice (some ⟨g, 0, none⟩) n cap) n (xs.set j u) := by
  obtain ⟨h1, h2⟩ := h
  refine ⟨by rw [List.length_set]; exact h1, ?_⟩
  rcases h2 with ⟨h2, _⟩ | ⟨g', cap', cur, hv, hb, hh, hnc, hcm, hcs, htake⟩
  · cases h2
  · cases hv
    refine .inr ⟨g, cap, cur.setIfInBounds j u, rfl, hb, heap_setCell_same w g j cur e u hh, hnc, hcm, by rw [Array.size_setIfInBounds]; exact hcs, ?_⟩
    rw [Array.toList_setIfInBounds, List.take_set, htake]
theorem own_form {w : World} {B e n : Nat} {v : Value} {xs : List Value} (h : w.ownsRow B e 2 v n xs) (hn : 0 < n) :
    ∃ g cap, v = .slice (some ⟨g, 0, none⟩) n cap ∧ B ≤ g ∧ g < w.heap.size ∧ n ≤ cap ∧ (∀ j u, xs[j]? = some u → w.cell? ⟨g, j, none⟩ = some u) ∧ ∀ j, w.frozen? ⟨g, j, none⟩ = false := by
  have ho := h
  obtain ⟨h1, h2⟩ := h
  rcases h2 with ⟨_, h2⟩ | ⟨g, cap, cur, rfl, hb, hh, hnc, hcm, hcs, htake⟩
  · omega
  · refine ⟨g, cap, rfl, hb, blk_lt hh, hnc, fun j u hj => ?_, fun j => blk_frozen hh j⟩
    have := ho.cells (g := g) rfl j u hj
    rwa [add_lit, Nat.zero_add] at this
theorem own_ne {w : World} {B e n : Nat} {v : Value} {xs : List Value} (h : w.ownsRow B e 2 v n xs) {k : Nat} (hk : w.heap.size ≤ k) : v.ownBlock ≠ some k := fun e => by
  have := (h.lt k e).2; omega
theorem own_less {w : World} {B B' e n : Nat} {v : Value} {xs : List Value} (h : w.ownsRow B e 2 v n xs) (hB : B' ≤ B) : w.ownsRow B' e 2 v n xs := by
  obtain ⟨h1, h2⟩ := h
  refine ⟨h1, ?_⟩
  rcases h2 with h2 | ⟨g, cap, cur, rfl, hg, hh, r⟩
  · exact .inl h2
  · exact .inr ⟨g, cap, cur, rfl, by omega, hh, r⟩
theorem own_new (w : World) (xs : List Value) (e B n : Nat) (h : xs.length = n * 2) (hn : n ≤ 10000000000) (hB : B ≤ w.heap.size) : (w.alloc (.cells xs.toArray e)).ownsRow B e 2 (.slice (some ⟨w.heap.size, 0, none⟩) n n) n xs :=
  ⟨h, .inr ⟨w.heap.size, n, xs.toArray, rfl, hB, heap_new w _, Nat.le_refl _, by unfold maxLen; omega, by simp [h], by rw [← h]; simp⟩⟩
theorem own_nil {w : World} {B e n : Nat} {v : Value} (h : n = 0) (hv : v = .slice none 0 0) : w.ownsRow B e 2 v n [] := by
  subst h hv; exact World.ownsRow_nil _ _ _ _

/-! ### A sorted row -/
def encIv (x : Iv) : List Value := [.int .u32 (x.1 : Int), .int .u32 (x.2 : Int)]
theorem flat_iv (d : Array Iv) : (Sort.flatK encIv 2 d).toList = iv2 d.toList := by
  apply List.ext_getElem?
  intro t
  have hs : (Sort.flatK encIv 2 d).size = d.size * 2 := Sort.size_flatK _ _ _
  by_cases ht : t < d.size * 2
  · have hk : t / 2 < d.toList.length := by simp; omega
    have g := iv2_get d.toList (t / 2) hk
    have hn : nth d.toList (t / 2) = d[t / 2]! := by
      rw [nth_get hk, getElem!_pos d (t / 2) (by omega)]; rfl
    have e : (Sort.flatK encIv 2 d).toList[t]? = some ((Sort.flatK encIv 2 d)[t]!) := by
      rw [Array.getElem?_toList, getElem!_pos _ t (by omega)]; exact Array.getElem?_eq_getElem (by omega)
    rw [e, Sort.get_flatK _ _ _ _ ht]
    rcases Nat.mod_two_eq_zero_or_one t with h | h
    · rw [h, ← hn]
      rw [show t / 2 * 2 = t by omega] at g
      rw [g.1]; rfl
    · rw [h, ← hn]
      rw [show t / 2 * 2 + 1 = t by omega] at g
      rw [g.2]; rfl
  · rw [List.getElem?_eq_none (by simp; omega), List.getElem?_eq_none (by rw [iv2_length]; simp; omega)]
theorem holds_iff {w : World} {g : Nat} {d : Array Iv} : Sort.HoldsK encIv 2 w g 0 d ↔ (∀ j u, (iv2 d.toList)[j]? = some u → w.cell? ⟨g, j, none⟩ = some u ∧ w.frozen? ⟨g, j, none⟩ = false) := by
  unfold Sort.HoldsK Sort.Holds
  rw [← flat_iv]
  constructor
  · intro h j u hj
    have hlt : j < (Sort.flatK encIv 2 d).size := by
      rcases Nat.lt_or_ge j (Sort.flatK encIv 2 d).size with h | h
      · exact h
      · rw [List.getElem?_eq_none (by simpa using h)] at hj; cases hj
    have := h j hlt
    rw [Nat.zero_add, getElem!_pos _ j hlt] at this
    rw [Array.getElem?_toList, Array.getElem?_eq_getElem hlt] at hj
    cases hj
    exact this
  · intro h j hj
    rw [Nat.zero_add, getElem!_pos _ j hj]
    exact h j _ (by rw [Array.getElem?_toList, Array.getElem?_eq_getElem hj]; rfl)
theorem sorted_below {w : World} {g n : Nat} {d : Array Iv} {os : Array Obj} {B : Nat} (hB : B ≤ g) (hg : g < w.heap.size) : Below B w (sortWorldK encIv 2 w g 0 n d os) := by
  have hs : (Sort.putRowK encIv 2 (Sort.ahead w n) g 0 d).heap.size = w.heap.size := by simp [Sort.putRowK, Sort.putRow, Sort.mapBlock, Sort.ahead]
  refine ⟨rfl, rfl, rfl, ?_, ?_⟩
  · show w.heap.size ≤ (Sort.grow (Sort.putRowK encIv 2 (Sort.ahead w n) g 0 d) os).heap.size
    rw [Sort.size_grow, hs]; omega
  · intro k hk
    show (Sort.grow (Sort.putRowK encIv 2 (Sort.ahead w n) g 0 d) os).heap[k]? = _
    rw [Sort.heap_grow_old _ _ (by rw [hs]; omega)]
    show (w.heap.modify g _)[k]? = _
    rw [Array.getElem?_modify, if_neg (by omega)]
theorem sorted_rows {w : World} {g n cap : Nat} {d0 d : Array Iv} {os : Array Obj} (hg : g < w.heap.size) (h0 : Sort.HoldsK encIv 2 w g 0 d0) (hs : d.size = d0.size) (hcap : d.size ≤ cap) :
    IsIv (sortWorldK encIv 2 w g 0 n d os) (.slice (some ⟨g, 0, none⟩) d.size cap) d.toList := by
  have h := holds_iff.1 (holdsK_sortWorldK encIv 2 w g 0 n d0 d os hg h0 hs)
  refine ⟨iv2_length _, .inr ⟨⟨g, 0, none⟩, cap, by rw [Array.length_toList], by rw [Array.length_toList]; exact hcap, fun j u hj => ?_⟩⟩
  rw [add_lit, Nat.zero_add]
  exact (h j u hj).1
end Go.Proofs.YtmcoccfbbhnmfaaDoor.Im
