/-
  THE CONTRACTS OF cmp.Or AND OF model's fitsTranslation, fitsStatic, target.fits, AND OF THE CHECKS OF ONE RULE.
-/
import Derived.Test.YtlhbfpapmolohaaGreatModU
import Derived.Deep.LoopGhost
import Derived.BigQuiet
import Derived.Deep.QuietTactic
namespace Go.Proofs.YtlhbfpapmolohaaGreat.Mw
set_option linter.unusedSimpArgs false
set_option linter.unusedVariables false
open Go.RowKit Kt Mm Mp

theorem ne_int' {a b : Int} (h : ¬ a = b) : (a == b) = false := by simpa using h
theorem orE_hit {e : Int} {l : List Int} (h : ¬ e = 0) : orE (e :: l) = e := by unfold orE; rw [if_neg h]
theorem orE_next {l : List Int} : orE (0 :: l) = orE l := rfl

set_option maxHeartbeats 1000000 in
theorem orC (es : List Int) (b n : Nat) (w : World) (hn : n = es.length) (hl : n ≤ 1000) (hc : ∀ j e, es[j]? = some e → w.cell? ⟨b, j, none⟩ = some (.int .i64 e)) :
    Calls Tryz.prog 97 #[.slice (some ⟨b, 0, none⟩) n n] w fun e w' => e = .returned (.int .i64 (orE es)) ∧ w = w' := by
  have N := hid hn
  clear hn
  go_enter Tryz.func97, Tryz.ntmps97
  repeat' (first | go_skip | go_guarded | go_step | go_upon)
  go_loopg [8] n (fun gg s8 wr => ∃ k : Nat, k ≤ n ∧ n - k ≤ gg ∧ s8 = .int .i64 k ∧ wr = w ∧ Aside (orE es = orE (es.drop k)))
  case atStart => exact ⟨0, Nat.zero_le _, by omega, rfl, rfl, rfl⟩
  case round =>
    obtain ⟨k, hk, hg, rfl, rfl, E⟩ := hrel
    by_cases hlt : k < n
    · have hlti : (k : Int) < (n : Int) := by omega
      obtain ⟨e, hx⟩ := get_some (l := es) (k := k) (by have := N.out; omega)
      have c1 := hc k e hx
      have D : Aside (es.drop k = e :: es.drop (k + 1)) := drop_get hx
      clear hc hx
      by_cases h0 : e = 0
      · subst h0
        repeat' (first | go_skip | go_guarded | go_step | go_upon)
        go_roundg (n - (k + 1))
        case measure => omega
        case rel =>
          refine ⟨k + 1, by omega, by omega, by go_num, rfl, ?_⟩
          show _ = _
          rw [E.out, D.out]; rfl
      · have h0b : (e != 0) = true := by simpa using h0
        repeat' (first | go_skip | go_guarded | go_step | go_upon)
        go_ret
        refine ⟨ret_int ?_, rfl⟩
        rw [E.out, D.out, orE_hit h0]
    · have hlti : ¬ (k : Int) < (n : Int) := by omega
      have D : Aside (es.drop k = []) := drop_end (by have := N.out; omega)
      clear hc
      repeat' (first | go_skip | go_guarded | go_step | go_upon)
      go_ret
      refine ⟨ret_int ?_, rfl⟩
      rw [E.out, D.out]
      rfl

def eInto (t : Into) : List Value := [.int .i64 t.proto, .int .i64 t.least, .int .i64 t.most, .int .i64 t.tleast, .int .i64 t.tmost]

set_option maxHeartbeats 1000000 in
theorem tgtFits (t : Into) (x : Red) (w : World) :
    Calls Tryz.prog 161 #[.agg (eInto t).toArray, .agg (eRed x).toArray] w fun e w' => e = .returned (.bool (redOk t x)) ∧ Below w.heap.size w w' := by
  obtain ⟨A, hA⟩ : ∃ A, A = (eInto t).toArray := ⟨_, rfl⟩
  obtain ⟨B, hB⟩ : ∃ B, B = (eRed x).toArray := ⟨_, rfl⟩
  obtain ⟨w2, hw2⟩ : ∃ w2, (w.alloc (.cells A 138)).alloc (.cells B 154) = w2 := ⟨_, rfl⟩
  have b1 : w2.heap[w.heap.size]? = some (.cells A 138 (0, 0)) := by rw [← hw2, Below.heap_alloc _ _ _ (by simp), heap_new]
  have b2 : w2.heap[w.heap.size + 1]? = some (.cells B 154 (0, 0)) := by rw [← hw2]; have h := heap_new (w.alloc (.cells A 138)) (.cells B 154 (0, 0)); rwa [new_size] at h
  have a0 := box_at b1 (j := 0) (v := .int .i64 t.proto) (by rw [hA]; rfl)
  have a1 := box_at b1 (j := 1) (v := .int .i64 t.least) (by rw [hA]; rfl)
  have a2 := box_at b1 (j := 2) (v := .int .i64 t.most) (by rw [hA]; rfl)
  have a3 := box_at b1 (j := 3) (v := .int .i64 t.tleast) (by rw [hA]; rfl)
  have a4 := box_at b1 (j := 4) (v := .int .i64 t.tmost) (by rw [hA]; rfl)
  have c0 := box_at b2 (j := 0) (v := .int .i64 x.frm) (by rw [hB]; rfl)
  have c1 := box_at b2 (j := 1) (v := .int .i64 x.metric) (by rw [hB]; rfl)
  have c2 := box_at b2 (j := 2) (v := .int .i64 x.tag) (by rw [hB]; rfl)
  have c4 := box_at b2 (j := 4) (v := .int .i64 x.typ) (by rw [hB]; rfl)
  have H := hid (show Below w.heap.size w w2 by rw [← hw2]; exact al2 _ _ _)
  rw [← hA, ← hB]
  clear hA hB b1 b2
  go_enter Tryz.func161, Tryz.ntmps161
  repeat' (first | (go_at_call 64; with_reducible refine (within _ _ _ _).mono ?_; rintro e w' ⟨rfl, rfl⟩; try dsimp only) | go_skip | go_guarded | go_step | go_upon)
  all_goals go_ret
  all_goals exact ⟨ret_bool (by unfold redOk; simp_all), H.out⟩

set_option maxHeartbeats 2000000 in
set_option maxRecDepth 100000 in
theorem fitsTran (x : Tran) (w : World) (h1 : x.ins < 4294967296) (h2 : x.outs < 4294967296) (h3 : x.lo < 4294967296) (h4 : x.hi < 4294967296) :
    Calls Tryz.prog 91 #[.agg (eTran x).toArray] w fun e w' => e = .returned (.bool (tranOk x)) ∧ Below w.heap.size w w' := by
  have hgd : ∀ (op : BinOp) (a b : Operand) (X Y : Array Value) (w : World), (eqGuard op 85 a b (.agg X) (.agg Y)).run Tryz.prog w = .ok () w := fun op a b X Y w => run_eqGuard_agg w op _ a b X Y (by kernel_rfl)
  have hH := fun wx => hasPorts x.proto wx
  obtain ⟨k, hk⟩ : ∃ k, k = x.kind := ⟨_, rfl⟩
  simp only [eTran]
  rw [← hk]
  have K := hid hk
  have cs := fun j => new_cell w #[.int .i64 k, .int .u32 (x.ins : Int), .int .u32 (x.outs : Int), .int .i64 x.proto, .int .i64 x.iport, .int .i64 x.oport, .string x.lst, .int .u32 (x.lo : Int), .int .u32 (x.hi : Int)] 85 j
  have c0 := cs 0; have c1 := cs 1; have c2 := cs 2; have c3 := cs 3; have c4 := cs 4; have c5 := cs 5; have c6 := cs 6; have c7 := cs 7; have c8 := cs 8
  clear cs hk
  obtain ⟨w1, hw1⟩ : ∃ w1, w.alloc (.cells #[.int .i64 k, .int .u32 (x.ins : Int), .int .u32 (x.outs : Int), .int .i64 x.proto, .int .i64 x.iport, .int .i64 x.oport, .string x.lst, .int .u32 (x.lo : Int), .int .u32 (x.hi : Int)] 85) = w1 := ⟨_, rfl⟩
  have H := hid (show Below w.heap.size w w1 by rw [← hw1]; exact al1 _ _)
  rw [hw1] at c0 c1 c2 c3 c4 c5 c6 c7 c8
  simp only [List.getElem?_toArray, List.getElem?_cons_zero, List.getElem?_cons_succ] at c0 c1 c2 c3 c4 c5 c6 c7 c8
  by_cases k1 : k = 1
  · subst k1
    clear h1 h2 h3 h4
    go_enter Tryz.func91, Tryz.ntmps91
    repeat' (first | go_skip | go_guarded | go_step | go_upon)
    all_goals go_ret
    all_goals exact ⟨ret_bool (by have hk := K.out; unfold tranOk noS; rw [← hk]; first | (simp_all; done) | (simp_all; rw [Bool.eq_iff_iff]; simp; omega) | (rw [Bool.eq_iff_iff]; simp_all; omega)), H.out⟩
  have T1 := ne_int' k1
  by_cases k2 : k = 2
  · subst k2
    clear k1
    by_cases hle : x.lo ≤ x.hi
    · have hw : IntKind.u32.wrap ((x.hi : Int) - (x.lo : Int)) = ((x.hi - x.lo : Nat) : Int) := by
        simp [IntKind.wrap, IntKind.signed, IntKind.bits]; omega
      have hle' : (x.lo : Int) ≤ (x.hi : Int) := by omega
      clear h1 h2 h3 h4
      go_enter Tryz.func91, Tryz.ntmps91
      repeat' (first | go_skip | go_guarded | go_step | go_upon)
      all_goals go_ret
      all_goals exact ⟨ret_bool (by have hk := K.out; unfold tranOk noS; rw [← hk]; first | (simp_all; done) | (simp_all; rw [Bool.eq_iff_iff]; simp; omega) | (rw [Bool.eq_iff_iff]; simp_all; omega)), H.out⟩
    · have hle' : ¬ (x.lo : Int) ≤ (x.hi : Int) := by omega
      clear h1 h2 h3 h4
      go_enter Tryz.func91, Tryz.ntmps91
      repeat' (first | go_skip | go_guarded | go_step | go_upon)
      all_goals go_ret
      all_goals exact ⟨ret_bool (by have hk := K.out; unfold tranOk noS; rw [← hk]; first | (simp_all; done) | (simp_all; rw [Bool.eq_iff_iff]; simp; omega) | (rw [Bool.eq_iff_iff]; simp_all; omega)), H.out⟩
  have T2 := ne_int' k2
  clear h1 h2 h3 h4
  by_cases k3 : k = 3
  · subst k3
    clear k1 k2
    go_enter Tryz.func91, Tryz.ntmps91
    repeat' (first | (go_at_call 64; with_reducible refine (within _ _ _ _).mono ?_; rintro e w' ⟨rfl, rfl⟩; try dsimp only) | (go_at_call 151; with_reducible refine (hH _).mono ?_; rintro e w' ⟨rfl, rfl⟩; try dsimp only) | go_skip | go_guarded | go_step | go_upon)
    all_goals go_ret
    all_goals exact ⟨ret_bool (by have hk := K.out; unfold tranOk noS; rw [← hk]; first | (simp_all; done) | (simp_all; rw [Bool.eq_iff_iff]; simp; omega) | (rw [Bool.eq_iff_iff]; simp_all; omega)), H.out⟩
  · have N := hid (show tranOk x = false by unfold tranOk; rw [← K.out, if_neg k1, if_neg k2, if_neg k3])
    have T3 := ne_int' k3
    clear k1 k2 k3
    go_enter Tryz.func91, Tryz.ntmps91
    repeat' (first | go_skip | go_guarded | go_step | go_upon)
    all_goals go_ret
    all_goals exact ⟨ret_bool N.out.symm, H.out⟩
end Go.Proofs.YtlhbfpapmolohaaGreat.Mw
