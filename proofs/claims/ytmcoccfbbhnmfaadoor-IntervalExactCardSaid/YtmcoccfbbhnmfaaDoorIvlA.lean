/-
  THE CONTRACTS OF interval's SMALL FUNCTIONS (isEmpty, after, gap, compareLo), OF THE SORT BY THEM, AND OF slices.Clone AND slices.ContainsFunc AS interval CALLS THEM.
-/
import Derived.Test.YtmcoccfbbhnmfaaDoorIvlM
import Derived.Test.YtmcoccfbbhnmfaaDoorShelf
import Derived.Deep.QuietTactic
import Derived.BigQuiet
import Derived.Handy
import Derived.IntWalk
namespace Go.Proofs.YtmcoccfbbhnmfaaDoor.Iw
set_option linter.unusedSimpArgs false
set_option linter.unusedVariables false
open Go.RowKit Sm Ip Im Kt

theorem ret_int {k : IntKind} {a b : Int} (h : a = b) : Ending.returned (.int k a) = .returned (.int k b) := by rw [h]
theorem ret_bool {a b : Bool} (h : a = b) : Ending.returned (.bool a) = .returned (.bool b) := by rw [h]
/-- An interval as the program holds it. -/
abbrev iv (x : Iv) : Value := .agg #[.int .u32 (x.1 : Int), .int .u32 (x.2 : Int)]

set_option maxHeartbeats 1000000 in
theorem isEmpty (x : Iv) (w : World) :
    Calls Tryd.prog 41 #[iv x] w fun e w' => e = .returned (.bool (decide (x.2 < x.1))) ∧ Below w.heap.size w w' := by
  go_enter Tryd.func41, Tryd.ntmps41
  go_wp2
  go_ret
  exact ⟨by first | rfl | exact ret_bool (by rw [Bool.eq_iff_iff]; simp), al1 w _⟩

set_option maxHeartbeats 1000000 in
theorem after (x : Iv) (w : World) (h : x.2 < 4294967296) :
    Calls Tryd.prog 47 #[iv x] w fun e w' => e = .returned (.int .u64 ((x.2 + 1 : Nat) : Int)) ∧ Below w.heap.size w w' := by
  go_enter Tryd.func47, Tryd.ntmps47
  go_wp2
  go_ret
  exact ⟨rfl, al1 w _⟩

def gapB (x y : Iv) : Bool := decide (x.2 + 1 < y.1)
set_option maxHeartbeats 1000000 in
theorem gap (x y : Iv) (w : World) (h : x.2 < 4294967296) (hy : y.1 < 4294967296) :
    Calls Tryd.prog 42 #[iv x, iv y] w fun e w' => e = .returned (.bool (gapB x y)) ∧ Below w.heap.size w w' := by
  have hA := fun wx => after x wx h
  have c0 := two_0 w (.int .u32 (x.1 : Int)) (.int .u32 (x.2 : Int)) (.int .u32 (y.1 : Int)) (.int .u32 (y.2 : Int)) 45 45
  have c1 := two_1 w (.int .u32 (x.1 : Int)) (.int .u32 (x.2 : Int)) (.int .u32 (y.1 : Int)) (.int .u32 (y.2 : Int)) 45 45
  have c2 := two_2 w (.int .u32 (x.1 : Int)) (.int .u32 (x.2 : Int)) (.int .u32 (y.1 : Int)) (.int .u32 (y.2 : Int)) 45 45
  go_enter Tryd.func42, Tryd.ntmps42
  go_wp2_with (fail)
  refine wp_region_later (w.heap.size + 2) (by kernel_rfl) (by kernel_rfl) ?_
  repeat (go_big_quiet_step ((go_at_call 47; exact later_of (by simp) (hA _))))
  refine wpQuiet_nil ?_
  rintro _ ⟨u, rfl⟩
  go_wp2
  go_ret
  exact ⟨ret_bool (by unfold gapB; rw [Bool.eq_iff_iff]; simp; omega), two_below w _ _ _ _ _ _ u⟩

set_option maxHeartbeats 1000000 in
theorem compare32 (x y : Int) (w : World) :
    Calls Tryd.prog 54 #[.int .u32 x, .int .u32 y] w fun e w' => e = .returned (.int .i64 (Lib.compareInt x y)) ∧ w = w' := by
  go_enter Tryd.func54, Tryd.ntmps54
  go_wp2
  all_goals go_ret
  all_goals exact ⟨ret_int (by unfold Lib.compareInt; split <;> first | rfl | (exfalso; omega) | (split <;> first | rfl | (exfalso; omega))), rfl⟩

set_option maxHeartbeats 1000000 in
theorem compareLo (x y : Iv) (W : World) : Calls Tryd.prog 40 #[iv x, iv y] W fun e w' => e = .returned (.int .i64 (Lib.compareInt x.1 y.1)) ∧ ∃ q os', w' = Sort.grow (W.drewN q) os' := by
  have hcon := fun W' => compare32 x.1 y.1 W'
  generalize Lib.compareInt x.1 y.1 = r at hcon ⊢
  go_enter Tryd.func40, Tryd.ntmps40
  go_wp2_with (go_at_call 54; refine (hcon _).mono ?_; rintro e w' ⟨rfl, rfl⟩)
  go_ret
  exact ⟨rfl, 0, _, by rw [Sort.alloc_eq_grow, Sort.alloc_eq_grow, Sort.grow_grow]; rfl⟩

/-! ### The sort -/
def loCmp (x y : Iv) : Int := Lib.compareInt x.1 y.1
theorem ltLo (x y : Iv) : ltOf loCmp x y = decide (x.1 < y.1) := by
  unfold ltOf loCmp Lib.compareInt
  by_cases h1 : x.1 < y.1
  · simp [h1]
  · by_cases h2 : y.1 < x.1 <;> simp [h1, h2]
theorem swoLo : Sort.SWO (ltOf loCmp) where
  irrefl x := by rw [ltLo]; simp
  trans x y z h1 h2 := by rw [ltLo] at *; simp at *; omega
  ntrans x y z h1 h2 := by rw [ltLo] at *; simp at *; omega
theorem sort_perm {d d' : Array Iv} (h : Sort.PermIn 0 d.size d d') : d'.size = d.size ∧ d'.toList.Perm d.toList := by
  obtain ⟨hs, _, hp⟩ := h
  refine ⟨hs, ?_⟩
  have e1 : d'.extract 0 d.size = d' := by rw [← hs]; exact Array.extract_size
  have e2 : d.extract 0 d.size = d := Array.extract_size
  rwa [e1, e2] at hp
theorem sort_sorted {d : Array Iv} {n : Nat} (hn : n = d.size) (h : Sort.SortedIn (ltOf loCmp) 0 n d) : d.toList.Pairwise fun x y => x.1 ≤ y.1 := by
  subst hn
  rw [List.pairwise_iff_getElem]
  intro i j hi hj hij
  have := h i j (Nat.zero_le _) hij (by simpa using hj)
  rw [ltLo, getElem!_pos d i (by simpa using hi), getElem!_pos d j (by simpa using hj)] at this
  simp at this
  simpa using this
theorem cmpLays (blk off size : Nat) (w : World) : CmpLays Tryd.prog 40 #[] encIv 2 loCmp blk off size w :=
  fun _ _ _ _ x y => compareLo x y _
theorem enters_cmp : ∀ args w, (callFunc 40 args).run Tryd.prog w = .ok (.enter 40 args) w := enters_of Tryd.func40 (by kernel_rfl) rfl

/-- slices.SortFunc with compareLo on a row of the call's own. -/
theorem sortRow (g cap : Nat) (s : List Iv) (w : World) (hg : g < w.heap.size) (hc : ∀ j u, (iv2 s)[j]? = some u → w.cell? ⟨g, j, none⟩ = some u) (hf : ∀ j, w.frozen? ⟨g, j, none⟩ = false) (hs : s.length ≤ 10000000000) (hcap : s.length ≤ cap) :
    Calls Tryd.prog 39 #[.slice (some ⟨g, 0, none⟩) s.length cap, .func (.func 40) #[] #[]] w fun e w' =>
      e = .returned (.tuple #[]) ∧ ∃ t : List Iv, t.Perm s ∧ (t.Pairwise fun x y => x.1 ≤ y.1) ∧ IsIv w' (.slice (some ⟨g, 0, none⟩) t.length cap) t ∧ Below g w w' := by
  have hH : Sort.HoldsK encIv 2 w g 0 s.toArray := holds_iff.2 fun j u hj => ⟨hc j u (by simpa using hj), hf j⟩
  have hcon := AnyQ.slices_SortFunc Tryd.sortIv 2 Tryd.isAgg45 Tryd.sizeOf45 encIv (fun _ => rfl) (fun x v hv => by simp [encIv] at hv; rcases hv with rfl | rfl <;> rfl) loCmp swoLo 40 #[] g 0 cap s.toArray w enters_cmp (cmpLays g 0 _ w) hH hg (by simp; omega)
  change Calls Tryd.prog 39 _ _ _ at hcon
  refine hcon.mono ?_
  rintro e w' ⟨rfl, d', n, os, hp, hso, rfl⟩
  have hp' := sort_perm hp
  have hsz : d'.size = s.length := by rw [hp'.1]; simp
  refine ⟨rfl, d'.toList, by simpa using hp'.2, sort_sorted hp'.1.symm (by rw [hp'.1] at *; exact hso), ?_, sorted_below (Nat.le_refl _) hg⟩
  have hr := sorted_rows (n := n) (cap := cap) (os := os) hg hH hp'.1 (by omega)
  rwa [← Array.length_toList] at hr

/-! ### slices.Clone -/
theorem ivInfo : (Tryd.prog.info? 45).map (fun i => (i.zero, i.size, i.bytes)) = some (some (.agg #[.int .u32 0, .int .u32 0]), 2, 8) := by kernel_rfl
theorem pxInfo : (Tryd.prog.info? 37).map (fun i => (i.zero, i.size, i.bytes)) = some (some (.agg #[.int .u32 0, .int .i64 0]), 2, 16) := by kernel_rfl

set_option maxHeartbeats 1000000 in
theorem clone (v : Value) (s : List Iv) (w : World) (h : IsIv w v s) (hs : s.length ≤ 10000000000) :
    Calls Tryd.prog 38 #[v] w fun e w' => ∃ v', e = .returned v' ∧ w'.ownsRow w.heap.size 45 2 v' s.length (iv2 s) ∧ Below w.heap.size w w' := by
  obtain ⟨i0, hi, hz0, hz1, hz2⟩ := info_parts ivInfo
  have q22 : ∀ (w : World) (a : Option Addr) (n c n' c' : Nat), (binOp .eql 22 (.slice a n c) (.slice none n' c')).run Tryd.prog w = .ok (.bool a.isNone) w := fun w a n c n' c' => Lib.run_eql_slice_nil w _ _ a n c n' c' Tryd.underlying22
  obtain ⟨h1, h2⟩ := h
  rcases h2 with ⟨rfl, h0⟩ | ⟨x, cap, rfl, hnc, hc⟩
  · have hl : s = [] := List.eq_nil_of_length_eq_zero h0
    subst hl
    clear h0 h1
    go_enter Tryd.func38, Tryd.ntmps38
    go_wp2
    go_ret
    exact ⟨_, rfl, World.ownsRow_nil _ _ _ _, Below.refl _ _⟩
  · have H := hid hc
    clear hc
    obtain ⟨n, hn⟩ : ∃ n, s.length = n := ⟨_, rfl⟩
    rw [hn] at h1 hs ⊢
    clear hn
    go_enter Tryd.func38, Tryd.ntmps38
    go_wp2_with (at_builtin; refine wpList_append_own _ rfl _ _ 22 rfl w.heap.size 45 i0 _ 2 8 Tryd.underlying22 hi hz0 hz1 hz2 rfl (by decide) _ _ _ rfl (World.ownsRow_made w #[] 0 (Nat.le_refl _) (Nat.zero_le _) (by simp)) x n cap (iv2 s) rfl ?qc1 ?qc2 ?qc3 ?qc4 ?qc5 ?qc6 ?_)
    case qc1 => exact h1
    case qc2 =>
      intro j u hj
      have hcell := H.out j u hj
      exact Lib.cell?_alloc_some _ hcell
    case qc3 => exact iv2_one s
    case qc4 => unfold maxLen; omega
    case qc5 => omega
    case qc6 => simp
    intro v' w1 hown hgrow hnil
    go_wp2
    go_ret
    refine ⟨v', rfl, by simpa using hown, ?_⟩
    exact ((Below.refl _ w).alloc (Nat.le_refl _) _).grown hgrow (by simp) (by intro k hk; simp [Value.ownBlock] at hk; omega)
end Go.Proofs.YtmcoccfbbhnmfaaDoor.Iw
