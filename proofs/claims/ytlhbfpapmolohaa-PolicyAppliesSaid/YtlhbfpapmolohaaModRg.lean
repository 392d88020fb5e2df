/-
  THE CONTRACT OF netverifyref8.neighbors.
-/
import Derived.Test.YtlhbfpapmolohaaModRf
namespace Go.Proofs.Ytlhbfpapmolohaa.Mw
set_option linter.unusedSimpArgs false
set_option linter.unusedVariables false
open Go.RowKit Kt Mm Mp

set_option maxHeartbeats 16000000 in
set_option maxRecDepth 4000 in
theorem rNbrs (r : Rtr) (w : World) (hr : RtrIn w r) :
    Calls Try.prog 69 #[.agg (eRtr r).toArray] w fun e w' => e = .returned (.int .i64 (nbrsE r.maps r.nbrs)) ∧ Below w.heap.size w w' := by
  obtain ⟨l, hll⟩ : ∃ l, l = r.nbrs := ⟨_, rfl⟩
  have hWi := fun (p q t : Int) wx => rWithin p q t wx
  obtain ⟨X, hX⟩ : ∃ X, X = (eRtr r).toArray := ⟨_, rfl⟩
  obtain ⟨w1, hw1⟩ : ∃ w1, w.alloc (.cells X 55) = w1 := ⟨_, rfl⟩
  have hhX : w1.heap[w.heap.size]? = some (.cells X 55 (0, 0)) := by rw [← hw1, heap_new]
  have FX20 : ∀ v : World, Below w1.heap.size w1 v → v.cell? ⟨w.heap.size, 20, none⟩ = some (r.vNbrs) := fun v h => box_at (blk_keep hhX h) (by rw [hX]; rfl)
  have KX : ∀ v : World, Below w1.heap.size w1 v → v.heap[w.heap.size]? = some (.cells X 55 (0, 0)) := fun v h => blk_keep hhX h
  have GX : Below w1.heap.size w1 w1 := Below.refl _ _
  have HX := hid (show Below w.heap.size w w1 by rw [← hw1]; exact new_below _ _)
  have hX' := hid hX
  try rw [← hX]
  clear hX hhX
  have hMp := fun wx (s : ByteArray) (h : Below w1.heap.size w1 wx) => rkRMap X r.vMaps r.maps s wx (by rw [hX'.out]; rfl) (hr.keep (then_ HX.out h)).maps.row hr.maps.len
  have hXs : X.size = 25 := by rw [hX'.out]; rfl
  have HR := hid (hr.keep HX.out)
  have hrow : IsRow eNbr 4 w1 r.vNbrs l := by rw [hll]; exact HR.out.nbrs.row
  have hl : l.length ≤ 9223372036854775807 := by rw [hll]; exact hr.nbrs.len
  have R0 := hid (show nbrsE r.maps l = if 8 < l.length then 7 else firstE (nbrE r.maps l) 0 l from rfl)
  rw [← hll]
  obtain ⟨a, cap, hv, hcap, hcell⟩ := rows_open (z := 4) (by decide) hrow
  obtain ⟨n, hn⟩ : ∃ n, n = l.length := ⟨_, rfl⟩
  rw [← hn] at hl hcap hcell hv R0
  rw [hv] at FX20
  have N := hid hn
  have HC := hid hcell
  clear hn hrow hcell hr hll hv
  obtain ⟨P, hP⟩ : ∃ P, P = Try.prog := ⟨_, rfl⟩
  have HP := hid hP
  have mixed : P.follows .mixedOrders = true := by rw [hP]; kernel_rfl
  have FG : P.funcs[69]? = some Try.f69 := by rw [hP]; exact Try.func69
  obtain ⟨zRouter, hzRouter⟩ : ∃ z, z = 25 := ⟨_, rfl⟩
  have nzRouter : ¬ zRouter = 0 := by omega
  have ty3 := Try.underlying3; have ag3 := Try.isAgg3; have sz3 := Try.sizeOf3; have ru3 := Try.runUnderlying3
  have ty4 := Try.underlying4; have ag4 := Try.isAgg4; have sz4 := Try.sizeOf4; have ru4 := Try.runUnderlying4
  have ty9 := Try.underlying9; have ag9 := Try.isAgg9; have sz9 := Try.sizeOf9; have ru9 := Try.runUnderlying9
  have ty48 := Try.underlying48; have ag48 := Try.isAgg48; have sz48 := Try.sizeOf48; have ru48 := Try.runUnderlying48
  have ty53 := Try.underlying53; have ag53 := Try.isAgg53; have sz53 := Try.sizeOf53; have ru53 := Try.runUnderlying53
  have ty55 := Try.underlying55; have ag55 := Try.isAgg55; have sz55 := Try.sizeOf55; have ru55 := Try.runUnderlying55
  rw [← hzRouter] at sz55
  have ty25 := Try.underlying25; have ag25 := Try.isAgg25; have sz25 := Try.sizeOf25; have ru25 := Try.runUnderlying25
  have ty133 := Try.underlying133; have ag133 := Try.isAgg133; have sz133 := Try.sizeOf133; have ru133 := Try.runUnderlying133
  have en0 : ∀ args w, (callFunc 39 args).run Try.prog w = .ok (.enter 39 args) w := enters_of Try.func39 (by kernel_rfl) rfl
  have en1 : ∀ args w, (callFunc 45 args).run Try.prog w = .ok (.enter 45 args) w := enters_of Try.func45 (by kernel_rfl) rfl
  rw [← hP] at ty3 ag3 sz3 ru3 ty4 ag4 sz4 ru4 ty9 ag9 sz9 ru9 ty48 ag48 sz48 ru48 ty53 ag53 sz53 ru53 ty55 ag55 sz55 ru55 ty25 ag25 sz25 ru25 ty133 ag133 sz133 ru133 en0 en1 hWi hMp ⊢
  clear hP
  have LX : ∀ v : World, Below w1.heap.size w1 v → Sem.run P (loadCellsFrom ⟨w.heap.size, 0, none⟩ 0 zRouter #[]) v = .ok X v := fun v h => ld_box P (KX v h) (by rw [hzRouter]; exact hXs)
  have ZR := hid hzRouter
  clear hzRouter KX
  by_cases h8 : 8 < n
  · have h8i : (8 : Int) < (n : Int) := by omega
    go_enter FG, Try.ntmps69
    repeat' (first | go_skip | go_guarded | go_step | go_upon)
    go_ret
    exact ⟨ret_int (by rw [R0.out, if_pos h8]), HX.out⟩
  have h8i : ¬ (8 : Int) < (n : Int) := by omega
  have R1 := hid (R0.out.trans (if_neg h8))
  go_enter FG, Try.ntmps69
  repeat' (first | go_skip | go_guarded | go_step | go_upon)
  clear R0 h8 h8i
  go_loopg [4] n (fun gg s4 wr => ∃ k : Nat, k ≤ n ∧ n - k ≤ gg ∧ s4 = .int .i64 k ∧ Below w1.heap.size w1 wr ∧ Aside (nbrsE r.maps l = firstE (nbrE r.maps l) k (l.drop k)))
  case atStart => exact ⟨0, Nat.zero_le _, by omega, rfl, by assumption, R1.out⟩
  case round =>
    obtain ⟨k, hk, hg, rfl, hwr, E⟩ := hrel
    by_cases hlt : k < n
    · have hlti : (k : Int) < (n : Int) := by omega
      have hk0 : (0 : Int) ≤ (k : Int) := by omega
      obtain ⟨x, hx⟩ := get_some (l := l) (k := k) (by have := N.out; omega)
      obtain ⟨b, off, rfl, hb, hc⟩ := HC.out (by omega)
      have hcx := row_cells (f := eNbr) (z := 4) (fun _ => rfl) hc hx
      have F0 : ∀ v : World, Below w1.heap.size w1 v → v.cell? ⟨b, off + k * 4, none⟩ = some (.int .u32 (x.addr : Int)) := fun v h => (h.cell (p := ⟨b, off + k * 4, none⟩) hb).trans (hcx 0 _ rfl)
      have F1 : ∀ v : World, Below w1.heap.size w1 v → v.cell? ⟨b, off + k * 4 + 1, none⟩ = some (.int .i64 x.asn) := fun v h => (h.cell (p := ⟨b, off + k * 4 + 1, none⟩) hb).trans (hcx 1 _ rfl)
      have F2 : ∀ v : World, Below w1.heap.size w1 v → v.cell? ⟨b, off + k * 4 + 2, none⟩ = some (.string x.inn) := fun v h => (h.cell (p := ⟨b, off + k * 4 + 2, none⟩) hb).trans (hcx 2 _ rfl)
      have F3 : ∀ v : World, Below w1.heap.size w1 v → v.cell? ⟨b, off + k * 4 + 3, none⟩ = some (.string x.out) := fun v h => (h.cell (p := ⟨b, off + k * 4 + 3, none⟩) hb).trans (hcx 3 _ rfl)
      have D := hid (drop_get hx)
      have GR : Below wr.heap.size wr wr := Below.refl _ _
      have f0 := F0 wr hwr
      have f1 := F1 wr hwr
      have uF2 := fun u : Later wr.heap.size wr => F2 u.w (then_ hwr u.h)
      have uF3 := fun u : Later wr.heap.size wr => F3 u.w (then_ hwr u.h)
      have uLX := fun u : Later wr.heap.size wr => LX u.w (then_ hwr u.h)
      have d1 := fun wx => hWi x.asn 1 65535 wx
      have dI := fun wx (h : Below wr.heap.size wr wx) => hMp wx x.inn (then_ hwr h)
      have dO := fun wx (h : Below wr.heap.size wr wx) => hMp wx x.out (then_ hwr h)
      obtain ⟨a1, ha1⟩ : ∃ q, q = wi x.asn 1 65535 := ⟨_, rfl⟩
      obtain ⟨qi, hqi⟩ : ∃ q, q = maIx r.maps x.inn := ⟨_, rfl⟩
      obtain ⟨qo, hqo⟩ : ∃ q, q = maIx r.maps x.out := ⟨_, rfl⟩
      obtain ⟨tk, htk⟩ : ∃ q, q = (l.take k).any (fun y : Nbr => decide (y.addr = x.addr)) := ⟨_, rfl⟩
      have hqi2 : ixB (fun y : RMap => y.name.toList == x.inn.toList) r.maps = qi := hqi.symm
      have hqo2 : ixB (fun y : RMap => y.name.toList == x.out.toList) r.maps = qo := hqo.symm
      rw [← ha1] at d1
      rw [hqi2] at dI
      rw [hqo2] at dO
      have FE := hid (show nbrE r.maps l k x = if decide (x.addr = 0) || !a1 then 1 else if unk x.inn qi || unk x.out qo then 5 else if tk then 4 else 0 by rw [ha1, hqi, hqo, htk]; rfl)
      have TK := hid htk
      clear hcx ha1 hqi hqo hqi2 hqo2 htk
      by_cases za : x.addr = 0
      · have zb : ((x.addr : Int) == 0) = true := by simp [za]
        have Q2 := hid (show nbrE r.maps l k x = 1 by rw [FE.out]; simp [za])
        repeat' (first | go_skip | go_guarded | go_step | go_upon)
        (try simp only [Exit.inBlock, Exit.then]); refine bodyPost_ret (results_tmp (by rfl) _ _ _) (by rfl) ?_
        exact ⟨ret_int (by rw [E.out, D.out]; refine ((firstE_hit (by rw [Q2.out]; simp)).trans ?_).symm; rw [Q2.out]), then_ HX.out (by assumption)⟩
      have zb : ((x.addr : Int) == 0) = false := by simp; omega
      cases a1
      case false =>
        have Q2 := hid (show nbrE r.maps l k x = 1 by rw [FE.out]; simp)
        repeat' (first | (go_at_call 45; with_reducible refine (d1 _).mono ?_; rintro e w' ⟨rfl, rfl⟩; try dsimp only) | go_skip | go_guarded | go_step | go_upon)
        (try simp only [Exit.inBlock, Exit.then]); refine bodyPost_ret (results_tmp (by rfl) _ _ _) (by rfl) ?_
        exact ⟨ret_int (by rw [E.out, D.out]; refine ((firstE_hit (by rw [Q2.out]; simp)).trans ?_).symm; rw [Q2.out]), then_ HX.out (by assumption)⟩
      case true =>
        repeat' (first | (go_at_call 45; with_reducible refine (d1 _).mono ?_; rintro e w' ⟨rfl, rfl⟩; try dsimp only) | go_skip | go_guarded | go_step | go_upon)
        cases si : x.inn.toList.isEmpty with
        | true =>
          cases so : x.out.toList.isEmpty with
          | true =>
            have Q3 := hid (show nbrE r.maps l k x = if tk then 4 else 0 by rw [FE.out]; unfold unk noS; simp [za, si, so])
            refine wp_region_base wr (by assumption) (by first | assumption | kernel_rfl) (by kernel_rfl) ?_
            repeat (go_big_quiet_step (first | (go_at_call 39; with_reducible exact later_of (Nat.le_refl _) (dI _ (Later.h _))) | (go_at_call 39; with_reducible exact later_of (Nat.le_refl _) (dO _ (Later.h _)))))
            refine wpQuiet_nil ?_
            rintro _ ⟨u, rfl⟩
            have bu := u.h
            repeat' (first | go_skip | go_guarded | go_step | go_upon)
            have hu5 := then_ hwr bu
            clear bu uF2 uF3 uLX dI dO d1 f0 f1
            go_loopg [5] k (fun gg s5 wr => ∃ j : Nat, j ≤ k ∧ k - j ≤ gg ∧ s5 = .int .i64 j ∧ Below w1.heap.size w1 wr ∧ Aside (tk = ((l.take k).drop j).any (fun y : Nbr => decide (y.addr = x.addr))))
            case atStart => exact ⟨0, Nat.zero_le _, by omega, rfl, by assumption, TK.out⟩
            case round =>
              obtain ⟨j, hj, hgj, rfl, hwr2, T⟩ := hrel
              by_cases hjk : j < k
              · have hjki : (j : Int) < (k : Int) := by omega
                have hjn : (j : Int) < (n : Int) := by omega
                have hj0 : (0 : Int) ≤ (j : Int) := by omega
                obtain ⟨y, hy⟩ := get_some (l := l) (k := j) (by have := N.out; omega)
                have hcy := row_cells (f := eNbr) (z := 4) (fun _ => rfl) hc hy
                have GS : Below wr.heap.size wr wr := Below.refl _ _
                have uF0 := fun u : Later wr.heap.size wr => F0 u.w (then_ hwr2 u.h)
                have uY0 : ∀ u : Later wr.heap.size wr, u.w.cell? ⟨b, off + j * 4, none⟩ = some (.int .u32 (y.addr : Int)) := fun u => ((then_ hwr2 u.h).cell (p := ⟨b, off + j * 4, none⟩) hb).trans (hcy 0 _ rfl)
                clear hcy
                by_cases hq : y.addr = x.addr
                · have T2 := hid (T.out.trans (any_hit hy hjk (decide_eq_true hq)))
                  have Q2 := hid (show nbrE r.maps l k x = 4 by rw [Q3.out, T2.out]; rfl)
                  have e1 : ((y.addr : Int) == (x.addr : Int)) = true := by simp [hq]
                  repeat' (first | go_skip | go_guarded | go_step | go_upon)
                  refine wp_region_base wr (by assumption) (by first | assumption | kernel_rfl) (by kernel_rfl) ?_
                  repeat (go_big_quiet_step (first | fail))
                  refine wpQuiet_nil ?_
                  rintro _ ⟨u, rfl⟩
                  have bu := u.h
                  repeat' (first | go_skip | go_guarded | go_step | go_upon)
                  (try simp only [Exit.inBlock, Exit.then]); refine bodyPost_ret (results_tmp (by rfl) _ _ _) (by rfl) ?_
                  exact ⟨ret_int (by rw [E.out, D.out]; refine ((firstE_hit (by rw [Q2.out]; simp)).trans ?_).symm; rw [Q2.out]), then_ HX.out (then_ hwr2 (by assumption))⟩
                · have T2 := hid (T.out.trans (any_next hy hjk (decide_eq_false hq)))
                  have e1 : ((y.addr : Int) == (x.addr : Int)) = false := by simp; omega
                  repeat' (first | go_skip | go_guarded | go_step | go_upon)
                  refine wp_region_base wr (by assumption) (by first | assumption | kernel_rfl) (by kernel_rfl) ?_
                  repeat (go_big_quiet_step (first | fail))
                  refine wpQuiet_nil ?_
                  rintro _ ⟨u, rfl⟩
                  have bu := u.h
                  repeat' (first | go_skip | go_guarded | go_step | go_upon)
                  go_roundg (k - (j + 1))
                  case measure => omega
                  case rel => exact ⟨j + 1, by omega, by omega, by go_num, then_ hwr2 (by assumption), T2.out⟩
              · have hjki : ¬ (j : Int) < (k : Int) := by omega
                have T2 := hid (T.out.trans (any_end (by omega)))
                have Q2 := hid (show nbrE r.maps l k x = 0 by rw [Q3.out, T2.out]; rfl)
                repeat' (first | go_skip | go_guarded | go_step | go_upon)
                go_roundg (n - (k + 1))
                case measure => omega
                case rel => exact ⟨k + 1, by omega, by omega, by go_num, by assumption, by show _ = _; rw [E.out, D.out]; exact firstE_next Q2.out⟩
          | false =>
            by_cases no : qo < 0
            · have To : decide (qo < 0) = true := decide_eq_true no
              have Q2 := hid (show nbrE r.maps l k x = 5 by rw [FE.out]; unfold unk noS; simp [za, so, no])
              refine wp_region_base wr (by assumption) (by first | assumption | kernel_rfl) (by kernel_rfl) ?_
              repeat (go_big_quiet_step (first | (go_at_call 39; with_reducible exact later_of (Nat.le_refl _) (dI _ (Later.h _))) | (go_at_call 39; with_reducible exact later_of (Nat.le_refl _) (dO _ (Later.h _)))))
              refine wpQuiet_nil ?_
              rintro _ ⟨u, rfl⟩
              have bu := u.h
              repeat' (first | go_skip | go_guarded | go_step | go_upon)
              (try simp only [Exit.inBlock, Exit.then]); refine bodyPost_ret (results_tmp (by rfl) _ _ _) (by rfl) ?_
              exact ⟨ret_int (by rw [E.out, D.out]; refine ((firstE_hit (by rw [Q2.out]; simp)).trans ?_).symm; rw [Q2.out]), then_ HX.out (then_ hwr (by assumption))⟩
            · have To : decide (qo < 0) = false := decide_eq_false no
              have Q3 := hid (show nbrE r.maps l k x = if tk then 4 else 0 by rw [FE.out]; unfold unk noS; simp [za, si, so, no])
              refine wp_region_base wr (by assumption) (by first | assumption | kernel_rfl) (by kernel_rfl) ?_
              repeat (go_big_quiet_step (first | (go_at_call 39; with_reducible exact later_of (Nat.le_refl _) (dI _ (Later.h _))) | (go_at_call 39; with_reducible exact later_of (Nat.le_refl _) (dO _ (Later.h _)))))
              refine wpQuiet_nil ?_
              rintro _ ⟨u, rfl⟩
              have bu := u.h
              repeat' (first | go_skip | go_guarded | go_step | go_upon)
              have hu5 := then_ hwr bu
              clear bu uF2 uF3 uLX dI dO d1 f0 f1
              go_loopg [5] k (fun gg s5 wr => ∃ j : Nat, j ≤ k ∧ k - j ≤ gg ∧ s5 = .int .i64 j ∧ Below w1.heap.size w1 wr ∧ Aside (tk = ((l.take k).drop j).any (fun y : Nbr => decide (y.addr = x.addr))))
              case atStart => exact ⟨0, Nat.zero_le _, by omega, rfl, by assumption, TK.out⟩
              case round =>
                obtain ⟨j, hj, hgj, rfl, hwr2, T⟩ := hrel
                by_cases hjk : j < k
                · have hjki : (j : Int) < (k : Int) := by omega
                  have hjn : (j : Int) < (n : Int) := by omega
                  have hj0 : (0 : Int) ≤ (j : Int) := by omega
                  obtain ⟨y, hy⟩ := get_some (l := l) (k := j) (by have := N.out; omega)
                  have hcy := row_cells (f := eNbr) (z := 4) (fun _ => rfl) hc hy
                  have GS : Below wr.heap.size wr wr := Below.refl _ _
                  have uF0 := fun u : Later wr.heap.size wr => F0 u.w (then_ hwr2 u.h)
                  have uY0 : ∀ u : Later wr.heap.size wr, u.w.cell? ⟨b, off + j * 4, none⟩ = some (.int .u32 (y.addr : Int)) := fun u => ((then_ hwr2 u.h).cell (p := ⟨b, off + j * 4, none⟩) hb).trans (hcy 0 _ rfl)
                  clear hcy
                  by_cases hq : y.addr = x.addr
                  · have T2 := hid (T.out.trans (any_hit hy hjk (decide_eq_true hq)))
                    have Q2 := hid (show nbrE r.maps l k x = 4 by rw [Q3.out, T2.out]; rfl)
                    have e1 : ((y.addr : Int) == (x.addr : Int)) = true := by simp [hq]
                    repeat' (first | go_skip | go_guarded | go_step | go_upon)
                    refine wp_region_base wr (by assumption) (by first | assumption | kernel_rfl) (by kernel_rfl) ?_
                    repeat (go_big_quiet_step (first | fail))
                    refine wpQuiet_nil ?_
                    rintro _ ⟨u, rfl⟩
                    have bu := u.h
                    repeat' (first | go_skip | go_guarded | go_step | go_upon)
                    (try simp only [Exit.inBlock, Exit.then]); refine bodyPost_ret (results_tmp (by rfl) _ _ _) (by rfl) ?_
                    exact ⟨ret_int (by rw [E.out, D.out]; refine ((firstE_hit (by rw [Q2.out]; simp)).trans ?_).symm; rw [Q2.out]), then_ HX.out (then_ hwr2 (by assumption))⟩
                  · have T2 := hid (T.out.trans (any_next hy hjk (decide_eq_false hq)))
                    have e1 : ((y.addr : Int) == (x.addr : Int)) = false := by simp; omega
                    repeat' (first | go_skip | go_guarded | go_step | go_upon)
                    refine wp_region_base wr (by assumption) (by first | assumption | kernel_rfl) (by kernel_rfl) ?_
                    repeat (go_big_quiet_step (first | fail))
                    refine wpQuiet_nil ?_
                    rintro _ ⟨u, rfl⟩
                    have bu := u.h
                    repeat' (first | go_skip | go_guarded | go_step | go_upon)
                    go_roundg (k - (j + 1))
                    case measure => omega
                    case rel => exact ⟨j + 1, by omega, by omega, by go_num, then_ hwr2 (by assumption), T2.out⟩
                · have hjki : ¬ (j : Int) < (k : Int) := by omega
                  have T2 := hid (T.out.trans (any_end (by omega)))
                  have Q2 := hid (show nbrE r.maps l k x = 0 by rw [Q3.out, T2.out]; rfl)
                  repeat' (first | go_skip | go_guarded | go_step | go_upon)
                  go_roundg (n - (k + 1))
                  case measure => omega
                  case rel => exact ⟨k + 1, by omega, by omega, by go_num, by assumption, by show _ = _; rw [E.out, D.out]; exact firstE_next Q2.out⟩
        | false =>
          by_cases ni : qi < 0
          · have Ti : decide (qi < 0) = true := decide_eq_true ni
            have Q2 := hid (show nbrE r.maps l k x = 5 by rw [FE.out]; unfold unk noS; simp [za, si, ni])
            refine wp_region_base wr (by assumption) (by first | assumption | kernel_rfl) (by kernel_rfl) ?_
            repeat (go_big_quiet_step (first | (go_at_call 39; with_reducible exact later_of (Nat.le_refl _) (dI _ (Later.h _))) | (go_at_call 39; with_reducible exact later_of (Nat.le_refl _) (dO _ (Later.h _)))))
            refine wpQuiet_nil ?_
            rintro _ ⟨u, rfl⟩
            have bu := u.h
            repeat' (first | go_skip | go_guarded | go_step | go_upon)
            (try simp only [Exit.inBlock, Exit.then]); refine bodyPost_ret (results_tmp (by rfl) _ _ _) (by rfl) ?_
            exact ⟨ret_int (by rw [E.out, D.out]; refine ((firstE_hit (by rw [Q2.out]; simp)).trans ?_).symm; rw [Q2.out]), then_ HX.out (then_ hwr (by assumption))⟩
          · have Ti : decide (qi < 0) = false := decide_eq_false ni
            cases so : x.out.toList.isEmpty with
            | true =>
              have Q3 := hid (show nbrE r.maps l k x = if tk then 4 else 0 by rw [FE.out]; unfold unk noS; simp [za, si, ni, so])
              refine wp_region_base wr (by assumption) (by first | assumption | kernel_rfl) (by kernel_rfl) ?_
              repeat (go_big_quiet_step (first | (go_at_call 39; with_reducible exact later_of (Nat.le_refl _) (dI _ (Later.h _))) | (go_at_call 39; with_reducible exact later_of (Nat.le_refl _) (dO _ (Later.h _)))))
              refine wpQuiet_nil ?_
              rintro _ ⟨u, rfl⟩
              have bu := u.h
              repeat' (first | go_skip | go_guarded | go_step | go_upon)
              have hu5 := then_ hwr bu
              clear bu uF2 uF3 uLX dI dO d1 f0 f1
              go_loopg [5] k (fun gg s5 wr => ∃ j : Nat, j ≤ k ∧ k - j ≤ gg ∧ s5 = .int .i64 j ∧ Below w1.heap.size w1 wr ∧ Aside (tk = ((l.take k).drop j).any (fun y : Nbr => decide (y.addr = x.addr))))
              case atStart => exact ⟨0, Nat.zero_le _, by omega, rfl, by assumption, TK.out⟩
              case round =>
                obtain ⟨j, hj, hgj, rfl, hwr2, T⟩ := hrel
                by_cases hjk : j < k
                · have hjki : (j : Int) < (k : Int) := by omega
                  have hjn : (j : Int) < (n : Int) := by omega
                  have hj0 : (0 : Int) ≤ (j : Int) := by omega
                  obtain ⟨y, hy⟩ := get_some (l := l) (k := j) (by have := N.out; omega)
                  have hcy := row_cells (f := eNbr) (z := 4) (fun _ => rfl) hc hy
                  have GS : Below wr.heap.size wr wr := Below.refl _ _
                  have uF0 := fun u : Later wr.heap.size wr => F0 u.w (then_ hwr2 u.h)
                  have uY0 : ∀ u : Later wr.heap.size wr, u.w.cell? ⟨b, off + j * 4, none⟩ = some (.int .u32 (y.addr : Int)) := fun u => ((then_ hwr2 u.h).cell (p := ⟨b, off + j * 4, none⟩) hb).trans (hcy 0 _ rfl)
                  clear hcy
                  by_cases hq : y.addr = x.addr
                  · have T2 := hid (T.out.trans (any_hit hy hjk (decide_eq_true hq)))
                    have Q2 := hid (show nbrE r.maps l k x = 4 by rw [Q3.out, T2.out]; rfl)
                    have e1 : ((y.addr : Int) == (x.addr : Int)) = true := by simp [hq]
                    repeat' (first | go_skip | go_guarded | go_step | go_upon)
                    refine wp_region_base wr (by assumption) (by first | assumption | kernel_rfl) (by kernel_rfl) ?_
                    repeat (go_big_quiet_step (first | fail))
                    refine wpQuiet_nil ?_
                    rintro _ ⟨u, rfl⟩
                    have bu := u.h
                    repeat' (first | go_skip | go_guarded | go_step | go_upon)
                    (try simp only [Exit.inBlock, Exit.then]); refine bodyPost_ret (results_tmp (by rfl) _ _ _) (by rfl) ?_
                    exact ⟨ret_int (by rw [E.out, D.out]; refine ((firstE_hit (by rw [Q2.out]; simp)).trans ?_).symm; rw [Q2.out]), then_ HX.out (then_ hwr2 (by assumption))⟩
                  · have T2 := hid (T.out.trans (any_next hy hjk (decide_eq_false hq)))
                    have e1 : ((y.addr : Int) == (x.addr : Int)) = false := by simp; omega
                    repeat' (first | go_skip | go_guarded | go_step | go_upon)
                    refine wp_region_base wr (by assumption) (by first | assumption | kernel_rfl) (by kernel_rfl) ?_
                    repeat (go_big_quiet_step (first | fail))
                    refine wpQuiet_nil ?_
                    rintro _ ⟨u, rfl⟩
                    have bu := u.h
                    repeat' (first | go_skip | go_guarded | go_step | go_upon)
                    go_roundg (k - (j + 1))
                    case measure => omega
                    case rel => exact ⟨j + 1, by omega, by omega, by go_num, then_ hwr2 (by assumption), T2.out⟩
                · have hjki : ¬ (j : Int) < (k : Int) := by omega
                  have T2 := hid (T.out.trans (any_end (by omega)))
                  have Q2 := hid (show nbrE r.maps l k x = 0 by rw [Q3.out, T2.out]; rfl)
                  repeat' (first | go_skip | go_guarded | go_step | go_upon)
                  go_roundg (n - (k + 1))
                  case measure => omega
                  case rel => exact ⟨k + 1, by omega, by omega, by go_num, by assumption, by show _ = _; rw [E.out, D.out]; exact firstE_next Q2.out⟩
            | false =>
              by_cases no : qo < 0
              · have To : decide (qo < 0) = true := decide_eq_true no
                have Q2 := hid (show nbrE r.maps l k x = 5 by rw [FE.out]; unfold unk noS; simp [za, so, no])
                refine wp_region_base wr (by assumption) (by first | assumption | kernel_rfl) (by kernel_rfl) ?_
                repeat (go_big_quiet_step (first | (go_at_call 39; with_reducible exact later_of (Nat.le_refl _) (dI _ (Later.h _))) | (go_at_call 39; with_reducible exact later_of (Nat.le_refl _) (dO _ (Later.h _)))))
                refine wpQuiet_nil ?_
                rintro _ ⟨u, rfl⟩
                have bu := u.h
                repeat' (first | go_skip | go_guarded | go_step | go_upon)
                (try simp only [Exit.inBlock, Exit.then]); refine bodyPost_ret (results_tmp (by rfl) _ _ _) (by rfl) ?_
                exact ⟨ret_int (by rw [E.out, D.out]; refine ((firstE_hit (by rw [Q2.out]; simp)).trans ?_).symm; rw [Q2.out]), then_ HX.out (then_ hwr (by assumption))⟩
              · have To : decide (qo < 0) = false := decide_eq_false no
                have Q3 := hid (show nbrE r.maps l k x = if tk then 4 else 0 by rw [FE.out]; unfold unk noS; simp [za, si, ni, so, no])
                refine wp_region_base wr (by assumption) (by first | assumption | kernel_rfl) (by kernel_rfl) ?_
                repeat (go_big_quiet_step (first | (go_at_call 39; with_reducible exact later_of (Nat.le_refl _) (dI _ (Later.h _))) | (go_at_call 39; with_reducible exact later_of (Nat.le_refl _) (dO _ (Later.h _)))))
                refine wpQuiet_nil ?_
                rintro _ ⟨u, rfl⟩
                have bu := u.h
                repeat' (first | go_skip | go_guarded | go_step | go_upon)
                have hu5 := then_ hwr bu
                clear bu uF2 uF3 uLX dI dO d1 f0 f1
                go_loopg [5] k (fun gg s5 wr => ∃ j : Nat, j ≤ k ∧ k - j ≤ gg ∧ s5 = .int .i64 j ∧ Below w1.heap.size w1 wr ∧ Aside (tk = ((l.take k).drop j).any (fun y : Nbr => decide (y.addr = x.addr))))
                case atStart => exact ⟨0, Nat.zero_le _, by omega, rfl, by assumption, TK.out⟩
                case round =>
                  obtain ⟨j, hj, hgj, rfl, hwr2, T⟩ := hrel
                  by_cases hjk : j < k
                  · have hjki : (j : Int) < (k : Int) := by omega
                    have hjn : (j : Int) < (n : Int) := by omega
                    have hj0 : (0 : Int) ≤ (j : Int) := by omega
                    obtain ⟨y, hy⟩ := get_some (l := l) (k := j) (by have := N.out; omega)
                    have hcy := row_cells (f := eNbr) (z := 4) (fun _ => rfl) hc hy
                    have GS : Below wr.heap.size wr wr := Below.refl _ _
                    have uF0 := fun u : Later wr.heap.size wr => F0 u.w (then_ hwr2 u.h)
                    have uY0 : ∀ u : Later wr.heap.size wr, u.w.cell? ⟨b, off + j * 4, none⟩ = some (.int .u32 (y.addr : Int)) := fun u => ((then_ hwr2 u.h).cell (p := ⟨b, off + j * 4, none⟩) hb).trans (hcy 0 _ rfl)
                    clear hcy
                    by_cases hq : y.addr = x.addr
                    · have T2 := hid (T.out.trans (any_hit hy hjk (decide_eq_true hq)))
                      have Q2 := hid (show nbrE r.maps l k x = 4 by rw [Q3.out, T2.out]; rfl)
                      have e1 : ((y.addr : Int) == (x.addr : Int)) = true := by simp [hq]
                      repeat' (first | go_skip | go_guarded | go_step | go_upon)
                      refine wp_region_base wr (by assumption) (by first | assumption | kernel_rfl) (by kernel_rfl) ?_
                      repeat (go_big_quiet_step (first | fail))
                      refine wpQuiet_nil ?_
                      rintro _ ⟨u, rfl⟩
                      have bu := u.h
                      repeat' (first | go_skip | go_guarded | go_step | go_upon)
                      (try simp only [Exit.inBlock, Exit.then]); refine bodyPost_ret (results_tmp (by rfl) _ _ _) (by rfl) ?_
                      exact ⟨ret_int (by rw [E.out, D.out]; refine ((firstE_hit (by rw [Q2.out]; simp)).trans ?_).symm; rw [Q2.out]), then_ HX.out (then_ hwr2 (by assumption))⟩
                    · have T2 := hid (T.out.trans (any_next hy hjk (decide_eq_false hq)))
                      have e1 : ((y.addr : Int) == (x.addr : Int)) = false := by simp; omega
                      repeat' (first | go_skip | go_guarded | go_step | go_upon)
                      refine wp_region_base wr (by assumption) (by first | assumption | kernel_rfl) (by kernel_rfl) ?_
                      repeat (go_big_quiet_step (first | fail))
                      refine wpQuiet_nil ?_
                      rintro _ ⟨u, rfl⟩
                      have bu := u.h
                      repeat' (first | go_skip | go_guarded | go_step | go_upon)
                      go_roundg (k - (j + 1))
                      case measure => omega
                      case rel => exact ⟨j + 1, by omega, by omega, by go_num, then_ hwr2 (by assumption), T2.out⟩
                  · have hjki : ¬ (j : Int) < (k : Int) := by omega
                    have T2 := hid (T.out.trans (any_end (by omega)))
                    have Q2 := hid (show nbrE r.maps l k x = 0 by rw [Q3.out, T2.out]; rfl)
                    repeat' (first | go_skip | go_guarded | go_step | go_upon)
                    go_roundg (n - (k + 1))
                    case measure => omega
                    case rel => exact ⟨k + 1, by omega, by omega, by go_num, by assumption, by show _ = _; rw [E.out, D.out]; exact firstE_next Q2.out⟩
    · have hlti : ¬ (k : Int) < (n : Int) := by omega
      repeat' (first | go_skip | go_guarded | go_step | go_upon)
      go_ret
      exact ⟨ret_int (by rw [E.out, drop_end (by have := N.out; omega)]; rfl), then_ HX.out (by assumption)⟩
end Go.Proofs.Ytlhbfpapmolohaa.Mw
