/-
  A STORE OF A WHOLE STRUCT INTO A BLOCK OF ITS OWN, AND A RESULT THAT LIES IN ONE, EACH BEHIND ONE LAW (no cell is told one by one). No function of the program is named.
-/
import Derived.Test.YtlhbfpapmolohaaModM
import Derived.Laws.Tables
namespace Go.Proofs.Ytlhbfpapmolohaa.Kt
set_option linter.unusedSimpArgs false
set_option linter.unusedVariables false
open Go.RowKit Mm

theorem setRow_other (w : World) (g : Nat) (cs : Array Value) (k : Nat) (h : k ≠ g) : (w.setRow g cs).heap[k]? = w.heap[k]? := by
  simp only [World.setRow, Array.getElem?_modify]
  rw [if_neg (fun e => h e.symm)]
theorem setRow_below (w : World) (g : Nat) (cs : Array Value) (B : Nat) (h : B ≤ g) : Below B w (w.setRow g cs) :=
  ⟨rfl, rfl, rfl, by simp [World.setRow], fun k hk => setRow_other w g cs k (by omega)⟩
theorem wp_store_box {P : Program} {o : Oper} {a : Act} {w : World} {K : Act → World → Prop} {Q : Exit → Act → World → Prop} (t : TypeId) (s x : Operand) (ho : o.op = .store t s x) {g : Nat} {cur X : Array Value}
    (hs : a.eval s = .pointer (some ⟨g, 0, none⟩)) (hx : a.eval x = .agg X) (hsz : ∀ w, (sizeOf t).run P w = .ok X.size w) (hg : w.heap[g]? = some (.cells cur t (0, 0))) (hcs : cur.size = X.size) (h1 : X.all (·.oneCell') = true)
    (h : ∀ w' : World, w'.heap[g]? = some (.cells X t (0, 0)) → (∀ k, k ≠ g → w'.heap[k]? = w.heap[k]?) → (∀ B, B ≤ g → Below B w w') → K (a.put o.dst undef) w') : Oper.wp P o a w K Q := by
  have h1' : ∀ v ∈ X.toList, v.oneCell' = true := fun v hv => by
    have := Array.all_eq_true'.1 h1 v (by simpa using hv)
    exact this
  have hst := run_storeCells_from (P := P) g t X.toList 0 cur w hg (by simp [hcs]) h1'
  simp only [List.take_zero, List.nil_append, Array.toArray_toList] at hst
  have hrun : (execOp a.eval o).run P w = .ok .skip (w.setRow g X) := by
    simp [execOp, ho, hs, hx, Instr.storeAt, Instr.sureAddr, storeVar, hsz, Value.cells, hst, Result.andThen]
  unfold Oper.wp
  rw [hrun, Oper.upon_skip]
  refine h _ (setRow_heap w g cur X t (0, 0) hg) (fun k hk => setRow_other w g X k hk) (fun B hB => setRow_below w g X B hB)
/-- A result that lies in a block of its own. -/
theorem result_box {P : Program} {fn : Func} {R : Ending → World → Prop} {a : Act} {w : World} {s : Nat} {t : TypeId} {b : Nat} {A : Array Value} (hf : fn.results = #[.cell s t]) (hp : a.tmps.getD s undef = .pointer (some ⟨b, 0, none⟩))
    (hag : ∀ w, (isAgg t).run P w = .ok true w) (hsz : ∀ w, (sizeOf t).run P w = .ok A.size w) (hb : w.heap[b]? = some (.cells A t (0, 0))) (hd : a.defers = []) (hR : R (.returned (.agg A)) w) : bodyPost P fn R .ret a w := by
  have hl := ld_box P hb (k := A.size) rfl
  refine bodyPost_ret ?_ hd hR
  have hp' : (a.tmps[s]?).getD undef = .pointer (some ⟨b, 0, none⟩) := by rw [← hp]; simp [Array.getD_eq_getD_getElem?]
  simp [results, hf, hp', asAddr, loadVar, hag, hsz, loadCells, hl, Result.andThen]
end Go.Proofs.Ytlhbfpapmolohaa.Kt
