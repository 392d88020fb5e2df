/-
  APPENDS OF STRUCTS OF UP TO A THOUSAND BYTES, AND WHAT AN OWN ROW KEEPS WHEN A CELL OF ANOTHER BLOCK IS WRITTEN. No function of the program is named.
-/
import Derived.Test.YtlhbfpapmolohaaModK
import Derived.Laws.AppendOwn
import Derived.Laws.AppendOwnNone
namespace Go.Proofs.Ytlhbfpapmolohaa.Mm
set_option linter.unusedSimpArgs false
set_option linter.unusedVariables false
open Go.RowKit Sm Kt
section
variable {P : Program} {ops : Array Oper} {rest : List Oper} {o : Oper} {a : Act} {Q : Exit → Act → World → Prop}
/-- 'append(v, x)': x is laid in a new block, then appended; blocks that are not the row's lie as they lay. -/
theorem app1w (hgd : o.guard = none) (s x : Operand) (t : TypeId)
    (ho : o.op = .call { callee := .builtin .append, args := #[s, x], argTypes := #[t, t] })
    (e : TypeId) (i : TypeInfo) (y : Value) (z bytes : Nat) (ht : P.underlying t = some (.slice e)) (hi : P.info? e = some i) (hz : i.zero = some y)
    (hsize : i.size = z) (hby : i.bytes = bytes) (hzs : y.cells.size = z) (hz0 : 0 < z) (hb32 : bytes ≤ 1000)
    (B : Nat) (w w0 : World) (v : Value) (n : Nat) (xs news : List Value) (hs : a.eval s = v) (hown : w0.ownsRow B e z v n xs) (hbel : Below B w w0) (hB : B ≤ w0.heap.size)
    (hx : a.eval x = .slice (some ⟨w0.heap.size, 0, none⟩) 1 1) (hl : news.length = z) (h1 : ∀ u ∈ news, u.oneCell' = true) (hn : n ≤ 10000000000)
    (h : ∀ v' w', w'.ownsRow B e z v' (n + 1) (xs ++ news) → Below B w w' → B ≤ w'.heap.size → (∀ k ob, w0.heap[k]? = some ob → v.ownBlock ≠ some k → w'.heap[k]? = some ob) → wpList P ops Q rest (a.put o.dst v') w') :
    wpList P ops Q (o :: rest) a (w0.alloc (.cells news.toArray e)) := by
  refine wpList_append_own _ hgd s x t ho B e i y z bytes ht hi hz hsize hby hzs hz0 v n xs hs (hown.alloc _) ⟨w0.heap.size, 0, none⟩ 1 1 news hx (by omega) ?_ h1 (by unfold maxLen; omega) ?_ (by simp; omega) ?_
  · intro j u hj
    rw [add_lit, Nat.zero_add, World.cell?_alloc_at _ _ _ _ rfl]
    simpa using hj
  · calc (n + 1) * bytes ≤ 10000000001 * 1000 := Nat.mul_le_mul (by omega) hb32
      _ ≤ 140737488355328 := by omega
  · intro v' w' ho' hg _
    have hb2 : Below B w w' := (hbel.alloc hB _).grown hg (by simp; omega) (fun k hk => (hown.lt k hk).1)
    refine h v' w' ho' hb2 (by have := hg.size; simp at this; omega) fun k ob hk hne => ?_
    have hlt := blk_lt hk
    rw [hg.block k (by simp; omega) (fun e => hne e.symm), Below.heap_alloc _ _ _ hlt]; exact hk
/-- 'append(v, u...)', v the call's own. -/
theorem app2w (hgd : o.guard = none) (s x : Operand) (t : TypeId)
    (ho : o.op = .call { callee := .builtin .append, args := #[s, x], argTypes := #[t, t] })
    (e : TypeId) (i : TypeInfo) (y : Value) (z bytes : Nat) (ht : P.underlying t = some (.slice e)) (hi : P.info? e = some i) (hz : i.zero = some y)
    (hsize : i.size = z) (hby : i.bytes = bytes) (hzs : y.cells.size = z) (hz0 : 0 < z) (hb32 : bytes ≤ 1000)
    (B : Nat) (w0 : World) (v u : Value) (n m : Nat) (xs ys : List Value) (hs : a.eval s = v) (hown : w0.ownsRow B e z v n xs) (hB : B ≤ w0.heap.size)
    (hx : a.eval x = u) (hu : Rows w0 z u m ys) (h1 : ∀ q ∈ ys, q.oneCell' = true) (hn : n ≤ 10000000000) (hm : m ≤ 10000000000)
    (h : ∀ v' w', w'.ownsRow B e z v' (n + m) (xs ++ ys) → Below B w0 w' → (∀ k ob, w0.heap[k]? = some ob → v.ownBlock ≠ some k → w'.heap[k]? = some ob) → wpList P ops Q rest (a.put o.dst v') w') :
    wpList P ops Q (o :: rest) a w0 := by
  obtain ⟨hl, hu⟩ := hu
  rcases hu with ⟨rfl, rfl⟩ | ⟨ad, cap, rfl, hmc, hc⟩
  · have hys : ys = [] := List.eq_nil_of_length_eq_zero (by simpa using hl)
    subst hys
    exact wpList_append_own_none hgd s x t ho B e i z ht hi v n xs hs hown hx (h v w0 (by simpa using hown) (Below.refl _ _) (fun _ _ hk _ => hk))
  · refine wpList_append_own _ hgd s x t ho B e i y z bytes ht hi hz hsize hby hzs hz0 v n xs hs hown ad m cap ys hx hl hc h1 (by unfold maxLen; omega) ?_ hB ?_
    · calc (n + m) * bytes ≤ 20000000000 * 1000 := Nat.mul_le_mul (by omega) hb32
        _ ≤ 140737488355328 := by omega
    · intro v' w' ho' hg' _
      refine h v' w' ho' ((Below.refl B w0).grown hg' hB (fun k hk => (hown.lt k hk).1)) fun k ob hk hne => ?_
      rw [hg'.block k (blk_lt hk) (fun e => hne e.symm)]; exact hk
end

theorem own_set_other {w : World} {B e z n g j : Nat} {v u : Value} {xs : List Value} (h : w.ownsRow B e z v n xs) (hg : g < B) : (w.setCell ⟨g, j, none⟩ u).ownsRow B e z v n xs := by
  obtain ⟨h1, h2⟩ := h
  refine ⟨h1, ?_⟩
  rcases h2 with h2 | ⟨k, cap, cur, rfl, hb, hh, r⟩
  · exact .inl h2
  · exact .inr ⟨k, cap, cur, rfl, hb, by rw [Go.heap_setCell_other _ _ _ _ (by show k ≠ g; omega)]; exact hh, r⟩
theorem own_made {w : World} {B e z : Nat} (hB : B ≤ w.heap.size) : (w.alloc (.cells #[] e)).ownsRow B e z (.slice (some ⟨w.heap.size, 0, none⟩) 0 0) 0 [] := World.ownsRow_made w #[] 0 hB (Nat.zero_le _) (by simp)
theorem infoOf {P : Program} {e : TypeId} {z : Value} {n b : Nat} (h : (P.info? e).map (fun i => (i.zero, i.size, i.bytes)) = some (some z, n, b)) : ∃ i, P.info? e = some i ∧ i.zero = some z ∧ i.size = n ∧ i.bytes = b := by
  cases hi : P.info? e with
  | none => rw [hi] at h; cases h
  | some i => rw [hi] at h; simp at h; exact ⟨i, rfl, h.1, h.2.1, h.2.2⟩
end Go.Proofs.Ytlhbfpapmolohaa.Mm
