/-
  THE CONTRACTS OF model's LOOKUPS.
-/
import Derived.Test.YtlhbfpapmolohaaModI
import Derived.WalkKit
namespace Go.Proofs.Ytlhbfpapmolohaa.Mw
set_option linter.unusedSimpArgs false
set_option linter.unusedVariables false
open Go.RowKit Kt Mm Mp

set_option maxHeartbeats 1000000 in
theorem clPList (x : PList) (s : ByteArray) (B : Nat) (w : World) (hB : w.heap[B]? = some (.cells #[.string s] 9 (0, 0))) :
    Calls Try.prog 57 #[.agg (ePList x).toArray, .pointer (some ⟨B, 0, none⟩)] w fun e w' => e = .returned (.bool (x.name.toList == s.toList)) ∧ Below w.heap.size w w' := by
  obtain ⟨X, hX⟩ : ∃ X, X = (ePList x).toArray := ⟨_, rfl⟩
  have h0 : X[0]? = some (.string x.name) := by rw [hX]; rfl
  rw [← hX]
  have c1 : (w.alloc (.cells X 24)).cell? ⟨w.heap.size, 0, none⟩ = some (.string x.name) := (new_cell w X _ 0).trans h0
  have c2 : (w.alloc (.cells X 24)).cell? ⟨B, 0, none⟩ = some (.string s) := ((new_below w _).cell (p := ⟨B, 0, none⟩) (blk_lt hB)).trans (blk_cell hB 0)
  clear hX h0 hB
  go_enter Try.func57, Try.ntmps57
  repeat (first | go_skip | go_guarded | go_step | go_upon)
  go_ret
  exact ⟨rfl, al1 w _⟩
theorem prPList (l : List PList) (s : ByteArray) (B : Nat) (w : World) (hB : w.heap[B]? = some (.cells #[.string s] 9 (0, 0))) : Pred Try.prog 57 #[.pointer (some ⟨B, 0, none⟩)] ePList (fun x => x.name.toList == s.toList) l w :=
  fun W x _ hb => clPList x s B W (blk_keep hB hb)
set_option maxHeartbeats 1000000 in
theorem lkPList (A : Array Value) (v : Value) (l : List PList) (s : ByteArray) (w : World) (hv : A[3]? = some v) (hrow : IsRow ePList 2 w v l) (hl : l.length ≤ 9223372036854775807) :
    Calls Try.prog 34 #[.agg A, .string s] w fun e w' => e = .returned (.int .i64 (ixB (fun x : PList => x.name.toList == s.toList) l)) ∧ Below w.heap.size w w' := by
  have hB : ((w.alloc (.cells A 55)).alloc (.cells #[.string s] 9)).heap[w.heap.size + 1]? = some (.cells #[.string s] 9 (0, 0)) := by
    have h := heap_new (w.alloc (.cells A 55)) (.cells #[.string s] 9 (0, 0))
    rwa [new_size] at h
  have hc := ixPList v l _ 57 #[.pointer (some ⟨w.heap.size + 1, 0, none⟩)] (enters_of Try.func57 (by kernel_rfl) rfl) ((w.alloc (.cells A 55)).alloc (.cells #[.string s] 9)) (rows_keep hrow (al2 w _ _)) hl (prPList l s _ _ hB)
  have c1 : ((w.alloc (.cells A 55)).alloc (.cells #[.string s] 9)).cell? ⟨w.heap.size, 3, none⟩ = some v :=
    box_at (T := 55) (by rw [Below.heap_alloc _ _ _ (by simp), heap_new]) hv
  obtain ⟨i, hi⟩ : ∃ i, i = ixB (fun x : PList => x.name.toList == s.toList) l := ⟨_, rfl⟩
  rw [← hi] at hc ⊢
  clear hB hrow hv hi
  go_enter Try.func34, Try.ntmps34
  repeat (first | (go_at_call 56; refine hc.mono ?_; rintro e w' ⟨rfl, hb'⟩; dsimp only) | go_skip | go_guarded | go_step | go_upon)
  go_ret
  exact ⟨rfl, then_ (al2 w _ _) hb'⟩

set_option maxHeartbeats 1000000 in
theorem clRMap (x : RMap) (s : ByteArray) (B : Nat) (w : World) (hB : w.heap[B]? = some (.cells #[.string s] 9 (0, 0))) :
    Calls Try.prog 72 #[.agg (eRMap x).toArray, .pointer (some ⟨B, 0, none⟩)] w fun e w' => e = .returned (.bool (x.name.toList == s.toList)) ∧ Below w.heap.size w w' := by
  obtain ⟨X, hX⟩ : ∃ X, X = (eRMap x).toArray := ⟨_, rfl⟩
  have h0 : X[0]? = some (.string x.name) := by rw [hX]; rfl
  rw [← hX]
  have c1 : (w.alloc (.cells X 65)).cell? ⟨w.heap.size, 0, none⟩ = some (.string x.name) := (new_cell w X _ 0).trans h0
  have c2 : (w.alloc (.cells X 65)).cell? ⟨B, 0, none⟩ = some (.string s) := ((new_below w _).cell (p := ⟨B, 0, none⟩) (blk_lt hB)).trans (blk_cell hB 0)
  clear hX h0 hB
  go_enter Try.func72, Try.ntmps72
  repeat (first | go_skip | go_guarded | go_step | go_upon)
  go_ret
  exact ⟨rfl, al1 w _⟩
theorem prRMap (l : List RMap) (s : ByteArray) (B : Nat) (w : World) (hB : w.heap[B]? = some (.cells #[.string s] 9 (0, 0))) : Pred Try.prog 72 #[.pointer (some ⟨B, 0, none⟩)] eRMap (fun x => x.name.toList == s.toList) l w :=
  fun W x _ hb => clRMap x s B W (blk_keep hB hb)
set_option maxHeartbeats 1000000 in
theorem lkRMap (A : Array Value) (v : Value) (l : List RMap) (s : ByteArray) (w : World) (hv : A[4]? = some v) (hrow : IsRow eRMap 2 w v l) (hl : l.length ≤ 9223372036854775807) :
    Calls Try.prog 60 #[.agg A, .string s] w fun e w' => e = .returned (.int .i64 (ixB (fun x : RMap => x.name.toList == s.toList) l)) ∧ Below w.heap.size w w' := by
  have hB : ((w.alloc (.cells A 55)).alloc (.cells #[.string s] 9)).heap[w.heap.size + 1]? = some (.cells #[.string s] 9 (0, 0)) := by
    have h := heap_new (w.alloc (.cells A 55)) (.cells #[.string s] 9 (0, 0))
    rwa [new_size] at h
  have hc := ixRMap v l _ 72 #[.pointer (some ⟨w.heap.size + 1, 0, none⟩)] (enters_of Try.func72 (by kernel_rfl) rfl) ((w.alloc (.cells A 55)).alloc (.cells #[.string s] 9)) (rows_keep hrow (al2 w _ _)) hl (prRMap l s _ _ hB)
  have c1 : ((w.alloc (.cells A 55)).alloc (.cells #[.string s] 9)).cell? ⟨w.heap.size, 4, none⟩ = some v :=
    box_at (T := 55) (by rw [Below.heap_alloc _ _ _ (by simp), heap_new]) hv
  obtain ⟨i, hi⟩ : ∃ i, i = ixB (fun x : RMap => x.name.toList == s.toList) l := ⟨_, rfl⟩
  rw [← hi] at hc ⊢
  clear hB hrow hv hi
  go_enter Try.func60, Try.ntmps60
  repeat (first | (go_at_call 71; refine hc.mono ?_; rintro e w' ⟨rfl, hb'⟩; dsimp only) | go_skip | go_guarded | go_step | go_upon)
  go_ret
  exact ⟨rfl, then_ (al2 w _ _) hb'⟩

end Go.Proofs.Ytlhbfpapmolohaa.Mw
