/-
  'append(v, u...)' WHERE BOTH ROWS ARE THE CALL's OWN, behind one law. No function of the program is named.
-/
import Derived.Test.YtlhocklcfhkbnaaScanM
import Derived.Laws.AppendOwnNone
namespace Go.Proofs.Ytlhocklcfhkbnaa.Sm
open Go.RowKit

theorem app_row {P : Program} {ops : Array Oper} {rest : List Oper} {o : Oper} {a : Act} {Q : Exit → Act → World → Prop} (hgd : o.guard = none) (s x : Operand) (t : TypeId)
    (ho : o.op = .call { callee := .builtin .append, args := #[s, x], argTypes := #[t, t] })
    (e : TypeId) (i : TypeInfo) (z : Value) (size bytes : Nat) (ht : P.underlying t = some (.slice e)) (hi : P.info? e = some i) (hz : i.zero = some z)
    (hsize : i.size = size) (hby : i.bytes = bytes) (hzs : z.cells.size = size) (hsz : 0 < size) (hb32 : bytes ≤ 1000000)
    (B B2 : Nat) (w w0 : World) (v u : Value) (n m : Nat) (xs ys : List Value) (hs : a.eval s = v) (hown : w0.ownsRow B e size v n xs) (hbel : Below B w w0) (hB : B ≤ w0.heap.size)
    (hx : a.eval x = u) (howu : w0.ownsRow B2 e size u m ys) (h1 : ∀ q ∈ ys, q.oneCell' = true) (hn : n ≤ 1000000) (hm : m ≤ 1000000)
    (h : ∀ v' w', w'.ownsRow B e size v' (n + m) (xs ++ ys) → Below B w w' → Below B w0 w' → wpList P ops Q rest (a.put o.dst v') w') :
    wpList P ops Q (o :: rest) a w0 := by
  have hu := howu.2
  have hl := howu.1
  rcases hu with ⟨rfl, rfl⟩ | ⟨g, cap, cur, rfl, hbg, hg, hnc, hcm, hcs, htake⟩
  · have hys : ys = [] := List.eq_nil_of_length_eq_zero (by simpa using hl)
    subst hys
    exact wpList_append_own_none hgd s x t ho B e i size ht hi v n xs hs hown hx (h v w0 (by simpa using hown) hbel (Below.refl _ _))
  · refine wpList_append_own _ hgd s x t ho B e i z size bytes ht hi hz hsize hby hzs hsz v n xs hs hown ⟨g, 0, none⟩ m cap ys hx hl (howu.cells (g := g) rfl) h1 (by unfold maxLen; omega) ?_ hB ?_
    · calc (n + m) * bytes ≤ 2000000 * 1000000 := Nat.mul_le_mul (by omega) hb32
        _ ≤ 140737488355328 := by omega
    · intro v' w' ho' hg' _
      exact h v' w' ho' (hbel.grown hg' hB (fun k hk => (hown.lt k hk).1)) ((Below.refl B w0).grown hg' hB (fun k hk => (hown.lt k hk).1))

theorem wpList_wanted {P : Program} {ops : Array Oper} {rest : List Oper} {o : Oper} {a : Act} {w : World} {Q : Exit → Act → World → Prop} (hw : Region.wanted o (yielded ops a.tmps) = true)
    (h : ∀ K : Act → World → Prop, (∀ a w, wpList P ops Q rest a w → K a w) → o.wp P a w K Q) : wpList P ops Q (o :: rest) a w :=
  wpList_step fun K hK => by rw [if_pos hw]; exact h K hK

/-- The same where the operation is guarded and the guard says yes. -/
theorem app_row_g {P : Program} {ops : Array Oper} {rest : List Oper} {o : Oper} {a : Act} {Q : Exit → Act → World → Prop} (s x : Operand) (t : TypeId)
    (e : TypeId) (i : TypeInfo) (z : Value) (size bytes : Nat) (ht : P.underlying t = some (.slice e)) (hi : P.info? e = some i) (hz : i.zero = some z)
    (hsize : i.size = size) (hby : i.bytes = bytes) (hzs : z.cells.size = size) (hsz : 0 < size) (hb32 : bytes ≤ 1000000)
    (B B2 : Nat) (w w0 : World) (v u : Value) (n m : Nat) (xs ys : List Value) (hown : w0.ownsRow B e size v n xs) (hbel : Below B w w0) (hB : B ≤ w0.heap.size)
    (howu : w0.ownsRow B2 e size u m ys) (h1 : ∀ q ∈ ys, q.oneCell' = true) (hn : n ≤ 1000000) (hm : m ≤ 1000000)
    (hw : Region.wanted o (yielded ops a.tmps) = true) (ho : o.op = .call { callee := .builtin .append, args := #[s, x], argTypes := #[t, t] }) (hs : a.eval s = v) (hx : a.eval x = u)
    (h : ∀ v' w', w'.ownsRow B e size v' (n + m) (xs ++ ys) → Below B w w' → Below B w0 w' → wpList P ops Q rest (a.put o.dst v') w') :
    wpList P ops Q (o :: rest) a w0 := by
  refine wpList_wanted hw fun K hK => ?_
  have hu := howu.2
  have hl := howu.1
  rcases hu with ⟨rfl, rfl⟩ | ⟨g, cap, cur, rfl, hbg, hg, hnc, hcm, hcs, htake⟩
  · have hys : ys = [] := List.eq_nil_of_length_eq_zero (by simpa using hl)
    subst hys
    have hrun := run_append_owned_none (P := P) (w := w0) B t o.type e i size ht hi v n xs hown
    unfold Oper.wp
    simp [execOp, ho, resolve, invoke, builtin, hs, hx, hrun, Result.andThen]
    exact hK _ _ (h v w0 (by simpa using hown) hbel (Below.refl _ _))
  · refine wp_append_own _ s x t ho B e i z size bytes ht hi hz hsize hby hzs hsz v n xs hs hown ⟨g, 0, none⟩ m cap ys hx hl (howu.cells (g := g) rfl) h1 (by unfold maxLen; omega) ?_ hB ?_
    · calc (n + m) * bytes ≤ 2000000 * 1000000 := Nat.mul_le_mul (by omega) hb32
        _ ≤ 140737488355328 := by omega
    · intro v' w' ho' hg' _
      exact hK _ _ (h v' w' ho' (hbel.grown hg' hB (fun k hk => (hown.lt k hk).1)) ((Below.refl B w0).grown hg' hB (fun k hk => (hown.lt k hk).1)))

theorem strs_one (l : List ByteArray) : ∀ q ∈ strs l, q.oneCell' = true := by
  intro q hq
  obtain ⟨s, _, rfl⟩ := List.mem_map.1 hq
  rfl

theorem own_mono {w : World} {B B' e size : Nat} {v : Value} {n : Nat} {xs : List Value} (h : w.ownsRow B e size v n xs) (hB : B' ≤ B) : w.ownsRow B' e size v n xs := by
  obtain ⟨h1, h2⟩ := h
  refine ⟨h1, ?_⟩
  rcases h2 with h2 | ⟨g, cap, cur, rfl, hg, hh, r⟩
  · exact .inl h2
  · exact .inr ⟨g, cap, cur, rfl, by omega, hh, r⟩

/-- Pairs of a number and a string, two cells each. -/
def pairs : List (Nat × ByteArray) → List Value
  | [] => []
  | (n, s) :: r => .int .i64 n :: .string s :: pairs r
theorem pairs_length : ∀ l : List (Nat × ByteArray), (pairs l).length = l.length * 2
  | [] => rfl
  | (n, s) :: r => by rw [pairs, List.length_cons, List.length_cons, List.length_cons, pairs_length r]; omega
theorem pairs_append : ∀ a b : List (Nat × ByteArray), pairs (a ++ b) = pairs a ++ pairs b
  | [], _ => rfl
  | (n, s) :: r, b => by rw [List.cons_append, pairs, pairs, pairs_append r b]; rfl
theorem pairs_get : ∀ (l : List (Nat × ByteArray)) (k : Nat) (h : k < l.length), (pairs l)[2 * k]? = some (.int .i64 (l[k]'h).1) ∧ (pairs l)[2 * k + 1]? = some (.string (l[k]'h).2)
  | [], k, h => by cases h
  | (n, s) :: r, 0, _ => ⟨rfl, rfl⟩
  | (n, s) :: r, k + 1, h => by
    have ih := pairs_get r k (by simpa using h)
    have e1 : 2 * (k + 1) = 2 * k + 1 + 1 := by omega
    rw [pairs, e1]
    simpa using ih
end Go.Proofs.Ytlhocklcfhkbnaa.Sm
