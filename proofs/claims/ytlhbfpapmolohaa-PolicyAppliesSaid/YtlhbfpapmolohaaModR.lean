/-
  THE CONTRACTS OF THE REFERENCE's LOOKUPS.
-/
import Derived.Test.YtlhbfpapmolohaaProg
import Derived.Test.YtlhbfpapmolohaaModP
import Derived.Test.YtlhbfpapmolohaaModM
import Derived.Deep.LoopGhost
import Derived.WalkKit
import Derived.WalkSpells
import Derived.IntWalk
namespace Go.Proofs.Ytlhbfpapmolohaa.Mw
set_option linter.unusedSimpArgs false
set_option linter.unusedVariables false
open Go.RowKit Kt Mm Mp

set_option maxHeartbeats 1000000 in
theorem rkIfc (A : Array Value) (v : Value) (l : List Ifc) (s : ByteArray) (w : World) (hv : A[2]? = some v) (hrow : IsRow eIfc 12 w v l) (hl : l.length ≤ 9223372036854775807) :
    Calls Try.prog 67 #[.agg A, .string s] w fun e w' => e = .returned (.int .i64 (ixB (fun x : Ifc => x.name.toList == s.toList) l)) ∧ Below w.heap.size w w' := by
  obtain ⟨a, cap, rfl, hcap, hcell⟩ := rows_open (z := 12) (by decide) hrow
  obtain ⟨n, hn⟩ : ∃ n, n = l.length := ⟨_, rfl⟩
  rw [← hn] at hl hcap hcell hv
  have N := hid hn
  clear hn hrow
  have c1 : (w.alloc (.cells A 55)).cell? ⟨w.heap.size, 2, none⟩ = some (.slice a n cap) := (new_cell w A _ 2).trans hv
  have BA := hid (new_below w (.cells A 55))
  clear hv
  go_enter Try.func67, Try.ntmps67
  repeat (first | go_skip | go_guarded | go_step | go_upon)
  go_loopg [5] n (fun gg s5 wr => ∃ k : Nat, k ≤ n ∧ n - k ≤ gg ∧ s5 = .int .i64 k ∧ wr = w.alloc (.cells A 55) ∧ Aside (ixB (fun x : Ifc => x.name.toList == s.toList) l = ixF (fun x : Ifc => x.name.toList == s.toList) k (l.drop k)))
  case atStart => exact ⟨0, Nat.zero_le _, by omega, rfl, rfl, rfl⟩
  case round =>
    obtain ⟨k, hk, hg, rfl, rfl, E⟩ := hrel
    by_cases hlt : k < n
    · have hlti : (k : Int) < (n : Int) := by omega
      obtain ⟨x, hx⟩ := get_some (l := l) (k := k) (by have := N.out; omega)
      obtain ⟨b, off, rfl, hb, hc⟩ := hcell (by omega)
      have c2 : (w.alloc (.cells A 55)).cell? ⟨b, off + k * 12, none⟩ = some (.string x.name) := ((BA.out).cell (p := ⟨b, off + k * 12, none⟩) hb).trans (row_cells (f := eIfc) (z := 12) (fun _ => rfl) hc hx 0 _ rfl)
      have D := drop_get hx
      clear hc hcell hx
      cases hq : (x.name.toList == s.toList) with
      | true =>
        have Q : Aside (ixF (fun x : Ifc => x.name.toList == s.toList) k (l.drop k) = k) := by show _ = _; rw [D]; exact ixF_hit hq
        clear D
        repeat (first | go_skip | go_guarded | go_step | go_upon)
        go_ret
        refine ⟨?_, BA.out⟩
        rw [E.out, Q.out]
        rfl
      | false =>
        have Q : Aside (ixF (fun x : Ifc => x.name.toList == s.toList) k (l.drop k) = ixF (fun x : Ifc => x.name.toList == s.toList) (k + 1) (l.drop (k + 1))) := by show _ = _; rw [D]; exact ixF_next hq
        clear D
        repeat (first | go_skip | go_guarded | go_step | go_upon)
        go_roundg (n - (k + 1))
        case measure => omega
        case rel =>
          refine ⟨k + 1, by omega, by omega, by go_num, rfl, ?_⟩
          show _ = _
          rw [E.out, Q.out]
    · have hlti : ¬ (k : Int) < (n : Int) := by omega
      have D : Aside (l.drop k = []) := drop_end (by have := N.out; omega)
      clear hcell
      repeat (first | go_skip | go_guarded | go_step | go_upon)
      go_ret
      refine ⟨?_, BA.out⟩
      rw [E.out, D.out]
      rfl

set_option maxHeartbeats 1000000 in
theorem rkPList (A : Array Value) (v : Value) (l : List PList) (s : ByteArray) (w : World) (hv : A[3]? = some v) (hrow : IsRow ePList 2 w v l) (hl : l.length ≤ 9223372036854775807) :
    Calls Try.prog 35 #[.agg A, .string s] w fun e w' => e = .returned (.int .i64 (ixB (fun x : PList => x.name.toList == s.toList) l)) ∧ Below w.heap.size w w' := by
  obtain ⟨a, cap, rfl, hcap, hcell⟩ := rows_open (z := 2) (by decide) hrow
  obtain ⟨n, hn⟩ : ∃ n, n = l.length := ⟨_, rfl⟩
  rw [← hn] at hl hcap hcell hv
  have N := hid hn
  clear hn hrow
  have c1 : (w.alloc (.cells A 55)).cell? ⟨w.heap.size, 3, none⟩ = some (.slice a n cap) := (new_cell w A _ 3).trans hv
  have BA := hid (new_below w (.cells A 55))
  clear hv
  go_enter Try.func35, Try.ntmps35
  repeat (first | go_skip | go_guarded | go_step | go_upon)
  go_loopg [5] n (fun gg s5 wr => ∃ k : Nat, k ≤ n ∧ n - k ≤ gg ∧ s5 = .int .i64 k ∧ wr = w.alloc (.cells A 55) ∧ Aside (ixB (fun x : PList => x.name.toList == s.toList) l = ixF (fun x : PList => x.name.toList == s.toList) k (l.drop k)))
  case atStart => exact ⟨0, Nat.zero_le _, by omega, rfl, rfl, rfl⟩
  case round =>
    obtain ⟨k, hk, hg, rfl, rfl, E⟩ := hrel
    by_cases hlt : k < n
    · have hlti : (k : Int) < (n : Int) := by omega
      obtain ⟨x, hx⟩ := get_some (l := l) (k := k) (by have := N.out; omega)
      obtain ⟨b, off, rfl, hb, hc⟩ := hcell (by omega)
      have c2 : (w.alloc (.cells A 55)).cell? ⟨b, off + k * 2, none⟩ = some (.string x.name) := ((BA.out).cell (p := ⟨b, off + k * 2, none⟩) hb).trans (row_cells (f := ePList) (z := 2) (fun _ => rfl) hc hx 0 _ rfl)
      have D := drop_get hx
      clear hc hcell hx
      cases hq : (x.name.toList == s.toList) with
      | true =>
        have Q : Aside (ixF (fun x : PList => x.name.toList == s.toList) k (l.drop k) = k) := by show _ = _; rw [D]; exact ixF_hit hq
        clear D
        repeat (first | go_skip | go_guarded | go_step | go_upon)
        go_ret
        refine ⟨?_, BA.out⟩
        rw [E.out, Q.out]
        rfl
      | false =>
        have Q : Aside (ixF (fun x : PList => x.name.toList == s.toList) k (l.drop k) = ixF (fun x : PList => x.name.toList == s.toList) (k + 1) (l.drop (k + 1))) := by show _ = _; rw [D]; exact ixF_next hq
        clear D
        repeat (first | go_skip | go_guarded | go_step | go_upon)
        go_roundg (n - (k + 1))
        case measure => omega
        case rel =>
          refine ⟨k + 1, by omega, by omega, by go_num, rfl, ?_⟩
          show _ = _
          rw [E.out, Q.out]
    · have hlti : ¬ (k : Int) < (n : Int) := by omega
      have D : Aside (l.drop k = []) := drop_end (by have := N.out; omega)
      clear hcell
      repeat (first | go_skip | go_guarded | go_step | go_upon)
      go_ret
      refine ⟨?_, BA.out⟩
      rw [E.out, D.out]
      rfl

set_option maxHeartbeats 1000000 in
theorem rkRMap (A : Array Value) (v : Value) (l : List RMap) (s : ByteArray) (w : World) (hv : A[4]? = some v) (hrow : IsRow eRMap 2 w v l) (hl : l.length ≤ 9223372036854775807) :
    Calls Try.prog 39 #[.agg A, .string s] w fun e w' => e = .returned (.int .i64 (ixB (fun x : RMap => x.name.toList == s.toList) l)) ∧ Below w.heap.size w w' := by
  obtain ⟨a, cap, rfl, hcap, hcell⟩ := rows_open (z := 2) (by decide) hrow
  obtain ⟨n, hn⟩ : ∃ n, n = l.length := ⟨_, rfl⟩
  rw [← hn] at hl hcap hcell hv
  have N := hid hn
  clear hn hrow
  have c1 : (w.alloc (.cells A 55)).cell? ⟨w.heap.size, 4, none⟩ = some (.slice a n cap) := (new_cell w A _ 4).trans hv
  have BA := hid (new_below w (.cells A 55))
  clear hv
  go_enter Try.func39, Try.ntmps39
  repeat (first | go_skip | go_guarded | go_step | go_upon)
  go_loopg [5] n (fun gg s5 wr => ∃ k : Nat, k ≤ n ∧ n - k ≤ gg ∧ s5 = .int .i64 k ∧ wr = w.alloc (.cells A 55) ∧ Aside (ixB (fun x : RMap => x.name.toList == s.toList) l = ixF (fun x : RMap => x.name.toList == s.toList) k (l.drop k)))
  case atStart => exact ⟨0, Nat.zero_le _, by omega, rfl, rfl, rfl⟩
  case round =>
    obtain ⟨k, hk, hg, rfl, rfl, E⟩ := hrel
    by_cases hlt : k < n
    · have hlti : (k : Int) < (n : Int) := by omega
      obtain ⟨x, hx⟩ := get_some (l := l) (k := k) (by have := N.out; omega)
      obtain ⟨b, off, rfl, hb, hc⟩ := hcell (by omega)
      have c2 : (w.alloc (.cells A 55)).cell? ⟨b, off + k * 2, none⟩ = some (.string x.name) := ((BA.out).cell (p := ⟨b, off + k * 2, none⟩) hb).trans (row_cells (f := eRMap) (z := 2) (fun _ => rfl) hc hx 0 _ rfl)
      have D := drop_get hx
      clear hc hcell hx
      cases hq : (x.name.toList == s.toList) with
      | true =>
        have Q : Aside (ixF (fun x : RMap => x.name.toList == s.toList) k (l.drop k) = k) := by show _ = _; rw [D]; exact ixF_hit hq
        clear D
        repeat (first | go_skip | go_guarded | go_step | go_upon)
        go_ret
        refine ⟨?_, BA.out⟩
        rw [E.out, Q.out]
        rfl
      | false =>
        have Q : Aside (ixF (fun x : RMap => x.name.toList == s.toList) k (l.drop k) = ixF (fun x : RMap => x.name.toList == s.toList) (k + 1) (l.drop (k + 1))) := by show _ = _; rw [D]; exact ixF_next hq
        clear D
        repeat (first | go_skip | go_guarded | go_step | go_upon)
        go_roundg (n - (k + 1))
        case measure => omega
        case rel =>
          refine ⟨k + 1, by omega, by omega, by go_num, rfl, ?_⟩
          show _ = _
          rw [E.out, Q.out]
    · have hlti : ¬ (k : Int) < (n : Int) := by omega
      have D : Aside (l.drop k = []) := drop_end (by have := N.out; omega)
      clear hcell
      repeat (first | go_skip | go_guarded | go_step | go_upon)
      go_ret
      refine ⟨?_, BA.out⟩
      rw [E.out, D.out]
      rfl

set_option maxHeartbeats 1000000 in
theorem rkAcl (A : Array Value) (v : Value) (l : List Acl) (s : ByteArray) (w : World) (hv : A[5]? = some v) (hrow : IsRow eAcl 2 w v l) (hl : l.length ≤ 9223372036854775807) :
    Calls Try.prog 65 #[.agg A, .string s] w fun e w' => e = .returned (.int .i64 (ixB (fun x : Acl => x.name.toList == s.toList) l)) ∧ Below w.heap.size w w' := by
  obtain ⟨a, cap, rfl, hcap, hcell⟩ := rows_open (z := 2) (by decide) hrow
  obtain ⟨n, hn⟩ : ∃ n, n = l.length := ⟨_, rfl⟩
  rw [← hn] at hl hcap hcell hv
  have N := hid hn
  clear hn hrow
  have c1 : (w.alloc (.cells A 55)).cell? ⟨w.heap.size, 5, none⟩ = some (.slice a n cap) := (new_cell w A _ 5).trans hv
  have BA := hid (new_below w (.cells A 55))
  clear hv
  go_enter Try.func65, Try.ntmps65
  repeat (first | go_skip | go_guarded | go_step | go_upon)
  go_loopg [5] n (fun gg s5 wr => ∃ k : Nat, k ≤ n ∧ n - k ≤ gg ∧ s5 = .int .i64 k ∧ wr = w.alloc (.cells A 55) ∧ Aside (ixB (fun x : Acl => x.name.toList == s.toList) l = ixF (fun x : Acl => x.name.toList == s.toList) k (l.drop k)))
  case atStart => exact ⟨0, Nat.zero_le _, by omega, rfl, rfl, rfl⟩
  case round =>
    obtain ⟨k, hk, hg, rfl, rfl, E⟩ := hrel
    by_cases hlt : k < n
    · have hlti : (k : Int) < (n : Int) := by omega
      obtain ⟨x, hx⟩ := get_some (l := l) (k := k) (by have := N.out; omega)
      obtain ⟨b, off, rfl, hb, hc⟩ := hcell (by omega)
      have c2 : (w.alloc (.cells A 55)).cell? ⟨b, off + k * 2, none⟩ = some (.string x.name) := ((BA.out).cell (p := ⟨b, off + k * 2, none⟩) hb).trans (row_cells (f := eAcl) (z := 2) (fun _ => rfl) hc hx 0 _ rfl)
      have D := drop_get hx
      clear hc hcell hx
      cases hq : (x.name.toList == s.toList) with
      | true =>
        have Q : Aside (ixF (fun x : Acl => x.name.toList == s.toList) k (l.drop k) = k) := by show _ = _; rw [D]; exact ixF_hit hq
        clear D
        repeat (first | go_skip | go_guarded | go_step | go_upon)
        go_ret
        refine ⟨?_, BA.out⟩
        rw [E.out, Q.out]
        rfl
      | false =>
        have Q : Aside (ixF (fun x : Acl => x.name.toList == s.toList) k (l.drop k) = ixF (fun x : Acl => x.name.toList == s.toList) (k + 1) (l.drop (k + 1))) := by show _ = _; rw [D]; exact ixF_next hq
        clear D
        repeat (first | go_skip | go_guarded | go_step | go_upon)
        go_roundg (n - (k + 1))
        case measure => omega
        case rel =>
          refine ⟨k + 1, by omega, by omega, by go_num, rfl, ?_⟩
          show _ = _
          rw [E.out, Q.out]
    · have hlti : ¬ (k : Int) < (n : Int) := by omega
      have D : Aside (l.drop k = []) := drop_end (by have := N.out; omega)
      clear hcell
      repeat (first | go_skip | go_guarded | go_step | go_upon)
      go_ret
      refine ⟨?_, BA.out⟩
      rw [E.out, D.out]
      rfl

set_option maxHeartbeats 1000000 in
theorem rkAdr (A : Array Value) (v : Value) (l : List Ifc) (ad : Nat) (w : World) (hv : A[2]? = some v) (hrow : IsRow eIfc 12 w v l) (hl : l.length ≤ 9223372036854775807) :
    Calls Try.prog 66 #[.agg A, .int .u32 (ad : Int)] w fun e w' => e = .returned (.int .i64 (adIx l ad)) ∧ Below w.heap.size w w' := by
  obtain ⟨a, cap, rfl, hcap, hcell⟩ := rows_open (z := 12) (by decide) hrow
  obtain ⟨n, hn⟩ : ∃ n, n = l.length := ⟨_, rfl⟩
  rw [← hn] at hl hcap hcell hv
  have N := hid hn
  clear hn hrow
  have c1 : (w.alloc (.cells A 55)).cell? ⟨w.heap.size, 2, none⟩ = some (.slice a n cap) := (new_cell w A _ 2).trans hv
  have BA := hid (new_below w (.cells A 55))
  clear hv
  unfold adIx
  go_enter Try.func66, Try.ntmps66
  repeat (first | go_skip | go_guarded | go_step | go_upon)
  go_loopg [5] n (fun gg s5 wr => ∃ k : Nat, k ≤ n ∧ n - k ≤ gg ∧ s5 = .int .i64 k ∧ wr = w.alloc (.cells A 55) ∧ Aside (ixB (fun x : Ifc => !decide (x.len = 0) && decide (x.addr = ad)) l = ixF (fun x : Ifc => !decide (x.len = 0) && decide (x.addr = ad)) k (l.drop k)))
  case atStart => exact ⟨0, Nat.zero_le _, by omega, rfl, rfl, rfl⟩
  case round =>
    obtain ⟨k, hk, hg, rfl, rfl, E⟩ := hrel
    by_cases hlt : k < n
    · have hlti : (k : Int) < (n : Int) := by omega
      obtain ⟨x, hx⟩ := get_some (l := l) (k := k) (by have := N.out; omega)
      obtain ⟨b, off, rfl, hb, hc⟩ := hcell (by omega)
      have c2 : (w.alloc (.cells A 55)).cell? ⟨b, off + k * 12 + 1, none⟩ = some (.int .u32 (x.addr : Int)) := ((BA.out).cell (p := ⟨b, off + k * 12 + 1, none⟩) hb).trans (row_cells (f := eIfc) (z := 12) (fun _ => rfl) hc hx 1 _ rfl)
      have c3 : (w.alloc (.cells A 55)).cell? ⟨b, off + k * 12 + 2, none⟩ = some (.int .i64 x.len) := ((BA.out).cell (p := ⟨b, off + k * 12 + 2, none⟩) hb).trans (row_cells (f := eIfc) (z := 12) (fun _ => rfl) hc hx 2 _ rfl)
      have D := drop_get hx
      clear hc hcell hx
      by_cases h0 : x.len = 0
      · have Q : Aside (ixF (fun x : Ifc => !decide (x.len = 0) && decide (x.addr = ad)) k (l.drop k) = ixF (fun x : Ifc => !decide (x.len = 0) && decide (x.addr = ad)) (k + 1) (l.drop (k + 1))) := by show _ = _; rw [D]; exact ixF_next (by show (!decide (x.len = 0) && decide (x.addr = ad)) = false; rw [h0]; rfl)
        clear D
        repeat (first | go_skip | go_guarded | go_step | go_upon)
        go_roundg (n - (k + 1))
        case measure => omega
        case rel =>
          refine ⟨k + 1, by omega, by omega, by go_num, rfl, ?_⟩
          show _ = _
          rw [E.out, Q.out]
      · by_cases h1 : (x.addr : Int) = (ad : Int)
        · have Q : Aside (ixF (fun x : Ifc => !decide (x.len = 0) && decide (x.addr = ad)) k (l.drop k) = k) := by show _ = _; rw [D]; exact ixF_hit (by show (!decide (x.len = 0) && decide (x.addr = ad)) = true; rw [decide_eq_false h0, decide_eq_true (show x.addr = ad by omega)]; rfl)
          have h0b : (x.len != 0) = true := by simpa using h0
          have h1b : ((x.addr : Int) == (ad : Int)) = true := by simpa using h1
          clear D
          repeat (first | go_skip | go_guarded | go_step | go_upon)
          go_ret
          refine ⟨?_, BA.out⟩
          rw [E.out, Q.out]
          rfl
        · have Q : Aside (ixF (fun x : Ifc => !decide (x.len = 0) && decide (x.addr = ad)) k (l.drop k) = ixF (fun x : Ifc => !decide (x.len = 0) && decide (x.addr = ad)) (k + 1) (l.drop (k + 1))) := by show _ = _; rw [D]; exact ixF_next (by show (!decide (x.len = 0) && decide (x.addr = ad)) = false; rw [decide_eq_false (show ¬ x.addr = ad by omega), Bool.and_false])
          have h0b : (x.len != 0) = true := by simpa using h0
          have h1b : ((x.addr : Int) == (ad : Int)) = false := by simpa using h1
          clear D
          repeat (first | go_skip | go_guarded | go_step | go_upon)
          go_roundg (n - (k + 1))
          case measure => omega
          case rel =>
            refine ⟨k + 1, by omega, by omega, by go_num, rfl, ?_⟩
            show _ = _
            rw [E.out, Q.out]
    · have hlti : ¬ (k : Int) < (n : Int) := by omega
      have D : Aside (l.drop k = []) := drop_end (by have := N.out; omega)
      clear hcell
      repeat (first | go_skip | go_guarded | go_step | go_upon)
      go_ret
      refine ⟨?_, BA.out⟩
      rw [E.out, D.out]
      rfl

end Go.Proofs.Ytlhbfpapmolohaa.Mw
