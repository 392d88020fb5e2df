/-
  THE CONTRACTS OF model's LOOKUPS.
-/
import Derived.Test.YtlhbfpapmolohaaGreatModI
import Derived.WalkKit
namespace Go.Proofs.YtlhbfpapmolohaaGreat.Mw
set_option linter.unusedSimpArgs false
set_option linter.unusedVariables false
open Go.RowKit Kt Mm Mp

set_option maxHeartbeats 1000000 in
theorem clIfc (x : Ifc) (s : ByteArray) (B : Nat) (w : World) (hB : w.heap[B]? = some (.cells #[.string s] 9 (0, 0))) :
    Calls Tryz.prog 116 #[.agg (eIfc x).toArray, .pointer (some ⟨B, 0, none⟩)] w fun e w' => e = .returned (.bool (x.name.toList == s.toList)) ∧ Below w.heap.size w w' := by
  obtain ⟨X, hX⟩ : ∃ X, X = (eIfc x).toArray := ⟨_, rfl⟩
  have h0 : X[0]? = some (.string x.name) := by rw [hX]; rfl
  rw [← hX]
  have c1 : (w.alloc (.cells X 53)).cell? ⟨w.heap.size, 0, none⟩ = some (.string x.name) := (new_cell w X _ 0).trans h0
  have c2 : (w.alloc (.cells X 53)).cell? ⟨B, 0, none⟩ = some (.string s) := ((new_below w _).cell (p := ⟨B, 0, none⟩) (blk_lt hB)).trans (blk_cell hB 0)
  clear hX h0 hB
  go_enter Tryz.func116, Tryz.ntmps116
  repeat (first | go_skip | go_guarded | go_step | go_upon)
  go_ret
  exact ⟨rfl, al1 w _⟩
theorem prIfc (l : List Ifc) (s : ByteArray) (B : Nat) (w : World) (hB : w.heap[B]? = some (.cells #[.string s] 9 (0, 0))) : Pred Tryz.prog 116 #[.pointer (some ⟨B, 0, none⟩)] eIfc (fun x => x.name.toList == s.toList) l w :=
  fun W x _ hb => clIfc x s B W (blk_keep hB hb)
set_option maxHeartbeats 1000000 in
theorem lkIfc (A : Array Value) (v : Value) (l : List Ifc) (s : ByteArray) (w : World) (hv : A[2]? = some v) (hrow : IsRow eIfc 12 w v l) (hl : l.length ≤ 9223372036854775807) :
    Calls Tryz.prog 41 #[.agg A, .string s] w fun e w' => e = .returned (.int .i64 (ixB (fun x : Ifc => x.name.toList == s.toList) l)) ∧ Below w.heap.size w w' := by
  have hB : ((w.alloc (.cells A 41)).alloc (.cells #[.string s] 9)).heap[w.heap.size + 1]? = some (.cells #[.string s] 9 (0, 0)) := by
    have h := heap_new (w.alloc (.cells A 41)) (.cells #[.string s] 9 (0, 0))
    rwa [new_size] at h
  have hc := ixIfc v l _ 116 #[.pointer (some ⟨w.heap.size + 1, 0, none⟩)] (enters_of Tryz.func116 (by kernel_rfl) rfl) ((w.alloc (.cells A 41)).alloc (.cells #[.string s] 9)) (rows_keep hrow (al2 w _ _)) hl (prIfc l s _ _ hB)
  have c1 : ((w.alloc (.cells A 41)).alloc (.cells #[.string s] 9)).cell? ⟨w.heap.size, 2, none⟩ = some v :=
    box_at (T := 41) (by rw [Below.heap_alloc _ _ _ (by simp), heap_new]) hv
  obtain ⟨i, hi⟩ : ∃ i, i = ixB (fun x : Ifc => x.name.toList == s.toList) l := ⟨_, rfl⟩
  rw [← hi] at hc ⊢
  clear hB hrow hv hi
  go_enter Tryz.func41, Tryz.ntmps41
  repeat (first | (go_at_call 115; refine hc.mono ?_; rintro e w' ⟨rfl, hb'⟩; dsimp only) | go_skip | go_guarded | go_step | go_upon)
  go_ret
  exact ⟨rfl, then_ (al2 w _ _) hb'⟩

set_option maxHeartbeats 1000000 in
theorem clPList (x : PList) (s : ByteArray) (B : Nat) (w : World) (hB : w.heap[B]? = some (.cells #[.string s] 9 (0, 0))) :
    Calls Tryz.prog 142 #[.agg (ePList x).toArray, .pointer (some ⟨B, 0, none⟩)] w fun e w' => e = .returned (.bool (x.name.toList == s.toList)) ∧ Below w.heap.size w w' := by
  obtain ⟨X, hX⟩ : ∃ X, X = (ePList x).toArray := ⟨_, rfl⟩
  have h0 : X[0]? = some (.string x.name) := by rw [hX]; rfl
  rw [← hX]
  have c1 : (w.alloc (.cells X 64)).cell? ⟨w.heap.size, 0, none⟩ = some (.string x.name) := (new_cell w X _ 0).trans h0
  have c2 : (w.alloc (.cells X 64)).cell? ⟨B, 0, none⟩ = some (.string s) := ((new_below w _).cell (p := ⟨B, 0, none⟩) (blk_lt hB)).trans (blk_cell hB 0)
  clear hX h0 hB
  go_enter Tryz.func142, Tryz.ntmps142
  repeat (first | go_skip | go_guarded | go_step | go_upon)
  go_ret
  exact ⟨rfl, al1 w _⟩
theorem prPList (l : List PList) (s : ByteArray) (B : Nat) (w : World) (hB : w.heap[B]? = some (.cells #[.string s] 9 (0, 0))) : Pred Tryz.prog 142 #[.pointer (some ⟨B, 0, none⟩)] ePList (fun x => x.name.toList == s.toList) l w :=
  fun W x _ hb => clPList x s B W (blk_keep hB hb)
set_option maxHeartbeats 1000000 in
theorem lkPList (A : Array Value) (v : Value) (l : List PList) (s : ByteArray) (w : World) (hv : A[3]? = some v) (hrow : IsRow ePList 2 w v l) (hl : l.length ≤ 9223372036854775807) :
    Calls Tryz.prog 72 #[.agg A, .string s] w fun e w' => e = .returned (.int .i64 (ixB (fun x : PList => x.name.toList == s.toList) l)) ∧ Below w.heap.size w w' := by
  have hB : ((w.alloc (.cells A 41)).alloc (.cells #[.string s] 9)).heap[w.heap.size + 1]? = some (.cells #[.string s] 9 (0, 0)) := by
    have h := heap_new (w.alloc (.cells A 41)) (.cells #[.string s] 9 (0, 0))
    rwa [new_size] at h
  have hc := ixPList v l _ 142 #[.pointer (some ⟨w.heap.size + 1, 0, none⟩)] (enters_of Tryz.func142 (by kernel_rfl) rfl) ((w.alloc (.cells A 41)).alloc (.cells #[.string s] 9)) (rows_keep hrow (al2 w _ _)) hl (prPList l s _ _ hB)
  have c1 : ((w.alloc (.cells A 41)).alloc (.cells #[.string s] 9)).cell? ⟨w.heap.size, 3, none⟩ = some v :=
    box_at (T := 41) (by rw [Below.heap_alloc _ _ _ (by simp), heap_new]) hv
  obtain ⟨i, hi⟩ : ∃ i, i = ixB (fun x : PList => x.name.toList == s.toList) l := ⟨_, rfl⟩
  rw [← hi] at hc ⊢
  clear hB hrow hv hi
  go_enter Tryz.func72, Tryz.ntmps72
  repeat (first | (go_at_call 141; refine hc.mono ?_; rintro e w' ⟨rfl, hb'⟩; dsimp only) | go_skip | go_guarded | go_step | go_upon)
  go_ret
  exact ⟨rfl, then_ (al2 w _ _) hb'⟩

set_option maxHeartbeats 1000000 in
theorem clRMap (x : RMap) (s : ByteArray) (B : Nat) (w : World) (hB : w.heap[B]? = some (.cells #[.string s] 9 (0, 0))) :
    Calls Tryz.prog 146 #[.agg (eRMap x).toArray, .pointer (some ⟨B, 0, none⟩)] w fun e w' => e = .returned (.bool (x.name.toList == s.toList)) ∧ Below w.heap.size w w' := by
  obtain ⟨X, hX⟩ : ∃ X, X = (eRMap x).toArray := ⟨_, rfl⟩
  have h0 : X[0]? = some (.string x.name) := by rw [hX]; rfl
  rw [← hX]
  have c1 : (w.alloc (.cells X 67)).cell? ⟨w.heap.size, 0, none⟩ = some (.string x.name) := (new_cell w X _ 0).trans h0
  have c2 : (w.alloc (.cells X 67)).cell? ⟨B, 0, none⟩ = some (.string s) := ((new_below w _).cell (p := ⟨B, 0, none⟩) (blk_lt hB)).trans (blk_cell hB 0)
  clear hX h0 hB
  go_enter Tryz.func146, Tryz.ntmps146
  repeat (first | go_skip | go_guarded | go_step | go_upon)
  go_ret
  exact ⟨rfl, al1 w _⟩
theorem prRMap (l : List RMap) (s : ByteArray) (B : Nat) (w : World) (hB : w.heap[B]? = some (.cells #[.string s] 9 (0, 0))) : Pred Tryz.prog 146 #[.pointer (some ⟨B, 0, none⟩)] eRMap (fun x => x.name.toList == s.toList) l w :=
  fun W x _ hb => clRMap x s B W (blk_keep hB hb)
set_option maxHeartbeats 1000000 in
theorem lkRMap (A : Array Value) (v : Value) (l : List RMap) (s : ByteArray) (w : World) (hv : A[4]? = some v) (hrow : IsRow eRMap 2 w v l) (hl : l.length ≤ 9223372036854775807) :
    Calls Tryz.prog 78 #[.agg A, .string s] w fun e w' => e = .returned (.int .i64 (ixB (fun x : RMap => x.name.toList == s.toList) l)) ∧ Below w.heap.size w w' := by
  have hB : ((w.alloc (.cells A 41)).alloc (.cells #[.string s] 9)).heap[w.heap.size + 1]? = some (.cells #[.string s] 9 (0, 0)) := by
    have h := heap_new (w.alloc (.cells A 41)) (.cells #[.string s] 9 (0, 0))
    rwa [new_size] at h
  have hc := ixRMap v l _ 146 #[.pointer (some ⟨w.heap.size + 1, 0, none⟩)] (enters_of Tryz.func146 (by kernel_rfl) rfl) ((w.alloc (.cells A 41)).alloc (.cells #[.string s] 9)) (rows_keep hrow (al2 w _ _)) hl (prRMap l s _ _ hB)
  have c1 : ((w.alloc (.cells A 41)).alloc (.cells #[.string s] 9)).cell? ⟨w.heap.size, 4, none⟩ = some v :=
    box_at (T := 41) (by rw [Below.heap_alloc _ _ _ (by simp), heap_new]) hv
  obtain ⟨i, hi⟩ : ∃ i, i = ixB (fun x : RMap => x.name.toList == s.toList) l := ⟨_, rfl⟩
  rw [← hi] at hc ⊢
  clear hB hrow hv hi
  go_enter Tryz.func78, Tryz.ntmps78
  repeat (first | (go_at_call 145; refine hc.mono ?_; rintro e w' ⟨rfl, hb'⟩; dsimp only) | go_skip | go_guarded | go_step | go_upon)
  go_ret
  exact ⟨rfl, then_ (al2 w _ _) hb'⟩

set_option maxHeartbeats 1000000 in
theorem clAcl (x : Acl) (s : ByteArray) (B : Nat) (w : World) (hB : w.heap[B]? = some (.cells #[.string s] 9 (0, 0))) :
    Calls Tryz.prog 148 #[.agg (eAcl x).toArray, .pointer (some ⟨B, 0, none⟩)] w fun e w' => e = .returned (.bool (x.name.toList == s.toList)) ∧ Below w.heap.size w w' := by
  obtain ⟨X, hX⟩ : ∃ X, X = (eAcl x).toArray := ⟨_, rfl⟩
  have h0 : X[0]? = some (.string x.name) := by rw [hX]; rfl
  rw [← hX]
  have c1 : (w.alloc (.cells X 70)).cell? ⟨w.heap.size, 0, none⟩ = some (.string x.name) := (new_cell w X _ 0).trans h0
  have c2 : (w.alloc (.cells X 70)).cell? ⟨B, 0, none⟩ = some (.string s) := ((new_below w _).cell (p := ⟨B, 0, none⟩) (blk_lt hB)).trans (blk_cell hB 0)
  clear hX h0 hB
  go_enter Tryz.func148, Tryz.ntmps148
  repeat (first | go_skip | go_guarded | go_step | go_upon)
  go_ret
  exact ⟨rfl, al1 w _⟩
theorem prAcl (l : List Acl) (s : ByteArray) (B : Nat) (w : World) (hB : w.heap[B]? = some (.cells #[.string s] 9 (0, 0))) : Pred Tryz.prog 148 #[.pointer (some ⟨B, 0, none⟩)] eAcl (fun x => x.name.toList == s.toList) l w :=
  fun W x _ hb => clAcl x s B W (blk_keep hB hb)
set_option maxHeartbeats 1000000 in
theorem lkAcl (A : Array Value) (v : Value) (l : List Acl) (s : ByteArray) (w : World) (hv : A[5]? = some v) (hrow : IsRow eAcl 2 w v l) (hl : l.length ≤ 9223372036854775807) :
    Calls Tryz.prog 85 #[.agg A, .string s] w fun e w' => e = .returned (.int .i64 (ixB (fun x : Acl => x.name.toList == s.toList) l)) ∧ Below w.heap.size w w' := by
  have hB : ((w.alloc (.cells A 41)).alloc (.cells #[.string s] 9)).heap[w.heap.size + 1]? = some (.cells #[.string s] 9 (0, 0)) := by
    have h := heap_new (w.alloc (.cells A 41)) (.cells #[.string s] 9 (0, 0))
    rwa [new_size] at h
  have hc := ixAcl v l _ 148 #[.pointer (some ⟨w.heap.size + 1, 0, none⟩)] (enters_of Tryz.func148 (by kernel_rfl) rfl) ((w.alloc (.cells A 41)).alloc (.cells #[.string s] 9)) (rows_keep hrow (al2 w _ _)) hl (prAcl l s _ _ hB)
  have c1 : ((w.alloc (.cells A 41)).alloc (.cells #[.string s] 9)).cell? ⟨w.heap.size, 5, none⟩ = some v :=
    box_at (T := 41) (by rw [Below.heap_alloc _ _ _ (by simp), heap_new]) hv
  obtain ⟨i, hi⟩ : ∃ i, i = ixB (fun x : Acl => x.name.toList == s.toList) l := ⟨_, rfl⟩
  rw [← hi] at hc ⊢
  clear hB hrow hv hi
  go_enter Tryz.func85, Tryz.ntmps85
  repeat (first | (go_at_call 147; refine hc.mono ?_; rintro e w' ⟨rfl, hb'⟩; dsimp only) | go_skip | go_guarded | go_step | go_upon)
  go_ret
  exact ⟨rfl, then_ (al2 w _ _) hb'⟩

set_option maxHeartbeats 1000000 in
theorem clRtr (x : Rtr) (s : ByteArray) (B : Nat) (w : World) (hB : w.heap[B]? = some (.cells #[.string s] 9 (0, 0))) :
    Calls Tryz.prog 119 #[.agg (eRtr x).toArray, .pointer (some ⟨B, 0, none⟩)] w fun e w' => e = .returned (.bool (x.name.toList == s.toList)) ∧ Below w.heap.size w w' := by
  obtain ⟨X, hX⟩ : ∃ X, X = (eRtr x).toArray := ⟨_, rfl⟩
  have h0 : X[0]? = some (.string x.name) := by rw [hX]; rfl
  rw [← hX]
  have c1 : (w.alloc (.cells X 41)).cell? ⟨w.heap.size, 0, none⟩ = some (.string x.name) := (new_cell w X _ 0).trans h0
  have c2 : (w.alloc (.cells X 41)).cell? ⟨B, 0, none⟩ = some (.string s) := ((new_below w _).cell (p := ⟨B, 0, none⟩) (blk_lt hB)).trans (blk_cell hB 0)
  clear hX h0 hB
  go_enter Tryz.func119, Tryz.ntmps119
  repeat (first | go_skip | go_guarded | go_step | go_upon)
  go_ret
  exact ⟨rfl, al1 w _⟩
theorem prRtr (l : List Rtr) (s : ByteArray) (B : Nat) (w : World) (hB : w.heap[B]? = some (.cells #[.string s] 9 (0, 0))) : Pred Tryz.prog 119 #[.pointer (some ⟨B, 0, none⟩)] eRtr (fun x => x.name.toList == s.toList) l w :=
  fun W x _ hb => clRtr x s B W (blk_keep hB hb)
set_option maxHeartbeats 1000000 in
theorem lkRtr (A : Array Value) (v : Value) (l : List Rtr) (s : ByteArray) (w : World) (hv : A[0]? = some v) (hrow : IsRow eRtr 25 w v l) (hl : l.length ≤ 9223372036854775807) :
    Calls Tryz.prog 45 #[.agg A, .string s] w fun e w' => e = .returned (.int .i64 (ixB (fun x : Rtr => x.name.toList == s.toList) l)) ∧ Below w.heap.size w w' := by
  have hB : ((w.alloc (.cells A 48)).alloc (.cells #[.string s] 9)).heap[w.heap.size + 1]? = some (.cells #[.string s] 9 (0, 0)) := by
    have h := heap_new (w.alloc (.cells A 48)) (.cells #[.string s] 9 (0, 0))
    rwa [new_size] at h
  have hc := ixRtr v l _ 119 #[.pointer (some ⟨w.heap.size + 1, 0, none⟩)] (enters_of Tryz.func119 (by kernel_rfl) rfl) ((w.alloc (.cells A 48)).alloc (.cells #[.string s] 9)) (rows_keep hrow (al2 w _ _)) hl (prRtr l s _ _ hB)
  have c1 : ((w.alloc (.cells A 48)).alloc (.cells #[.string s] 9)).cell? ⟨w.heap.size, 0, none⟩ = some v :=
    box_at (T := 48) (by rw [Below.heap_alloc _ _ _ (by simp), heap_new]) hv
  obtain ⟨i, hi⟩ : ∃ i, i = ixB (fun x : Rtr => x.name.toList == s.toList) l := ⟨_, rfl⟩
  rw [← hi] at hc ⊢
  clear hB hrow hv hi
  go_enter Tryz.func45, Tryz.ntmps45
  repeat (first | (go_at_call 118; refine hc.mono ?_; rintro e w' ⟨rfl, hb'⟩; dsimp only) | go_skip | go_guarded | go_step | go_upon)
  go_ret
  exact ⟨rfl, then_ (al2 w _ _) hb'⟩

set_option maxHeartbeats 1000000 in
theorem clAdr (x : Ifc) (a : Nat) (B : Nat) (w : World) (hB : w.heap[B]? = some (.cells #[.int .u32 (a : Int)] 51 (0, 0))) :
    Calls Tryz.prog 117 #[.agg (eIfc x).toArray, .pointer (some ⟨B, 0, none⟩)] w fun e w' => e = .returned (.bool (!decide (x.len = 0) && decide (x.addr = a))) ∧ Below w.heap.size w w' := by
  obtain ⟨X, hX⟩ : ∃ X, X = (eIfc x).toArray := ⟨_, rfl⟩
  have h0 : X[1]? = some (.int .u32 (x.addr : Int)) := by rw [hX]; rfl
  have h1 : X[2]? = some (.int .i64 x.len) := by rw [hX]; rfl
  rw [← hX]
  have c1 : (w.alloc (.cells X 53)).cell? ⟨w.heap.size, 1, none⟩ = some (.int .u32 (x.addr : Int)) := (new_cell w X _ 1).trans h0
  have c0 : (w.alloc (.cells X 53)).cell? ⟨w.heap.size, 2, none⟩ = some (.int .i64 x.len) := (new_cell w X _ 2).trans h1
  have c2 : (w.alloc (.cells X 53)).cell? ⟨B, 0, none⟩ = some (.int .u32 (a : Int)) := ((new_below w _).cell (p := ⟨B, 0, none⟩) (blk_lt hB)).trans (blk_cell hB 0)
  clear hX h0 h1 hB
  by_cases hz : x.len = 0
  · have R := hid (show (!decide (x.len = 0) && decide (x.addr = a)) = false by rw [hz]; rfl)
    go_enter Tryz.func117, Tryz.ntmps117
    repeat (first | go_skip | go_guarded | go_step | go_upon)
    go_ret
    exact ⟨ret_bool R.out.symm, al1 w _⟩
  · have R := hid (show (!decide (x.len = 0) && decide (x.addr = a)) = decide ((x.addr : Int) = (a : Int)) by rw [decide_eq_false hz, Bool.eq_iff_iff]; simp; omega)
    have hzb : (x.len != 0) = true := by simpa using hz
    go_enter Tryz.func117, Tryz.ntmps117
    repeat (first | go_skip | go_guarded | go_step | go_upon)
    go_ret
    exact ⟨ret_bool (by rw [R.out]; first | rfl | (rw [Bool.eq_iff_iff]; simp [hz])), al1 w _⟩
theorem prAdr (l : List Ifc) (a : Nat) (B : Nat) (w : World) (hB : w.heap[B]? = some (.cells #[.int .u32 (a : Int)] 51 (0, 0))) : Pred Tryz.prog 117 #[.pointer (some ⟨B, 0, none⟩)] eIfc (fun x => !decide (x.len = 0) && decide (x.addr = a)) l w :=
  fun W x _ hb => clAdr x a B W (blk_keep hB hb)
set_option maxHeartbeats 1000000 in
theorem lkAdr (A : Array Value) (v : Value) (l : List Ifc) (a : Nat) (w : World) (hv : A[2]? = some v) (hrow : IsRow eIfc 12 w v l) (hl : l.length ≤ 9223372036854775807) :
    Calls Tryz.prog 42 #[.agg A, .int .u32 (a : Int)] w fun e w' => e = .returned (.int .i64 (adIx l a)) ∧ Below w.heap.size w w' := by
  have hB : ((w.alloc (.cells A 41)).alloc (.cells #[.int .u32 (a : Int)] 51)).heap[w.heap.size + 1]? = some (.cells #[.int .u32 (a : Int)] 51 (0, 0)) := by
    have h := heap_new (w.alloc (.cells A 41)) (.cells #[.int .u32 (a : Int)] 51 (0, 0))
    rwa [new_size] at h
  have hc := ixIfc v l _ 117 #[.pointer (some ⟨w.heap.size + 1, 0, none⟩)] (enters_of Tryz.func117 (by kernel_rfl) rfl) ((w.alloc (.cells A 41)).alloc (.cells #[.int .u32 (a : Int)] 51)) (rows_keep hrow (al2 w _ _)) hl (prAdr l a _ _ hB)
  have c1 : ((w.alloc (.cells A 41)).alloc (.cells #[.int .u32 (a : Int)] 51)).cell? ⟨w.heap.size, 2, none⟩ = some v :=
    box_at (T := 41) (by rw [Below.heap_alloc _ _ _ (by simp), heap_new]) hv
  obtain ⟨i, hi⟩ : ∃ i, i = ixB (fun x : Ifc => !decide (x.len = 0) && decide (x.addr = a)) l := ⟨_, rfl⟩
  unfold adIx
  rw [← hi] at hc ⊢
  clear hB hrow hv hi
  go_enter Tryz.func42, Tryz.ntmps42
  repeat (first | (go_at_call 115; refine hc.mono ?_; rintro e w' ⟨rfl, hb'⟩; dsimp only) | go_skip | go_guarded | go_step | go_upon)
  go_ret
  exact ⟨rfl, then_ (al2 w _ _) hb'⟩

end Go.Proofs.YtlhbfpapmolohaaGreat.Mw
