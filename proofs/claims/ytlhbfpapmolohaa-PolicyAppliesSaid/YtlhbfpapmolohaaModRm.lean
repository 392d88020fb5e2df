/-
  THE CONTRACT OF netverifyref8.accessLists.
-/
import Derived.Test.YtlhbfpapmolohaaModRl
namespace Go.Proofs.Ytlhbfpapmolohaa.Mw
set_option linter.unusedSimpArgs false
set_option linter.unusedVariables false
open Go.RowKit Kt Mm Mp

set_option maxHeartbeats 16000000 in
set_option maxRecDepth 4000 in
theorem rAcls (v : Value) (l : List Acl) (w : World) (hrow : IsRow eAcl 2 w v l) (hl : l.length ≤ 9223372036854775807) (hN : ∀ x ∈ l, sz x.name) (hR : ∀ x ∈ l, InRow eRule 10 w x.v x.rules) (hA : ∀ x ∈ l, ∀ y ∈ x.rules, low y.src.addr ∧ low y.src.mask ∧ low y.dst.addr ∧ low y.dst.mask) :
    Calls Try.prog 49 #[v] w fun e w' => e = .returned (.int .i64 (aclsE l)) ∧ Below w.heap.size w w' := by
  have hNm := fun (s : ByteArray) wx (h : sz s) => Sc.refName s wx h
  have hVr := fun (y : Rule) wx (h : low y.src.addr ∧ low y.src.mask ∧ low y.dst.addr ∧ low y.dst.mask) => rRule y wx h.1 h.2.1 h.2.2.1 h.2.2.2
  have R0 := hid (show aclsE l = if 8 < l.length then 7 else firstE (aclE l) 0 l from rfl)
  have RN := hid hN
  have RR := hid hR
  have RA := hid hA
  obtain ⟨a, cap, rfl, hcap, hcell⟩ := rows_open (z := 2) (by decide) hrow
  obtain ⟨n, hn⟩ : ∃ n, n = l.length := ⟨_, rfl⟩
  rw [← hn] at hl hcap hcell R0 ⊢
  have N := hid hn
  have HC := hid hcell
  have GW : Below w.heap.size w w := Below.refl _ _
  clear hn hrow hN hR hA hcell
  obtain ⟨P, hP⟩ : ∃ P, P = Try.prog := ⟨_, rfl⟩
  have HP := hid hP
  have mixed : P.follows .mixedOrders = true := by rw [hP]; kernel_rfl
  have FG : P.funcs[49]? = some Try.f49 := by rw [hP]; exact Try.func49
  obtain ⟨zRule, hzRule⟩ : ∃ z, z = 10 := ⟨_, rfl⟩
  have nzRule : ¬ zRule = 0 := by omega
  have ty3 := Try.underlying3; have ag3 := Try.isAgg3; have sz3 := Try.sizeOf3; have ru3 := Try.runUnderlying3
  have ty4 := Try.underlying4; have ag4 := Try.isAgg4; have sz4 := Try.sizeOf4; have ru4 := Try.runUnderlying4
  have ty9 := Try.underlying9; have ag9 := Try.isAgg9; have sz9 := Try.sizeOf9; have ru9 := Try.runUnderlying9
  have ty39 := Try.underlying39; have ag39 := Try.isAgg39; have sz39 := Try.sizeOf39; have ru39 := Try.runUnderlying39
  have ty107 := Try.underlying107; have ag107 := Try.isAgg107; have sz107 := Try.sizeOf107; have ru107 := Try.runUnderlying107
  have ty109 := Try.underlying109; have ag109 := Try.isAgg109; have sz109 := Try.sizeOf109; have ru109 := Try.runUnderlying109
  have ty116 := Try.underlying116; have ag116 := Try.isAgg116; have sz116 := Try.sizeOf116; have ru116 := Try.runUnderlying116
  rw [← hzRule] at sz116
  have en0 : ∀ args w, (callFunc 44 args).run Try.prog w = .ok (.enter 44 args) w := enters_of Try.func44 (by kernel_rfl) rfl
  have en1 : ∀ args w, (callFunc 64 args).run Try.prog w = .ok (.enter 64 args) w := enters_of Try.func64 (by kernel_rfl) rfl
  rw [← hP] at ty3 ag3 sz3 ru3 ty4 ag4 sz4 ru4 ty9 ag9 sz9 ru9 ty39 ag39 sz39 ru39 ty107 ag107 sz107 ru107 ty109 ag109 sz109 ru109 ty116 ag116 sz116 ru116 en0 en1 hNm hVr ⊢
  clear hP
  have ZP := hid hzRule
  clear hzRule
  by_cases h8 : 8 < n
  · have h8i : (8 : Int) < (n : Int) := by omega
    go_enter FG, Try.ntmps49
    repeat' (first | go_skip | go_guarded | go_step | go_upon)
    go_ret
    exact ⟨ret_int (by rw [R0.out, if_pos h8]), Below.refl _ _⟩
  have h8i : ¬ (8 : Int) < (n : Int) := by omega
  have R1 := hid (R0.out.trans (if_neg h8))
  go_enter FG, Try.ntmps49
  repeat' (first | go_skip | go_guarded | go_step | go_upon)
  clear R0 h8 h8i
  go_loopg [3] n (fun gg s3 wr => ∃ k : Nat, k ≤ n ∧ n - k ≤ gg ∧ s3 = .int .i64 k ∧ Below w.heap.size w wr ∧ Aside (aclsE l = firstE (aclE l) k (l.drop k)))
  case atStart => exact ⟨0, Nat.zero_le _, by omega, rfl, by assumption, R1.out⟩
  case round =>
    obtain ⟨k, hk, hg, rfl, hwr, E⟩ := hrel
    by_cases hlt : k < n
    · have hlti : (k : Int) < (n : Int) := by omega
      have hk0 : (0 : Int) ≤ (k : Int) := by omega
      obtain ⟨x, hx⟩ := get_some (l := l) (k := k) (by have := N.out; omega)
      have hm := get_mem hx
      obtain ⟨b, off, rfl, hb, hc⟩ := HC.out (by omega)
      have hcx := row_cells (f := eAcl) (z := 2) (fun _ => rfl) hc hx
      have F0 : ∀ v : World, Below w.heap.size w v → v.cell? ⟨b, off + k * 2, none⟩ = some (.string x.name) := fun v h => (h.cell (p := ⟨b, off + k * 2, none⟩) hb).trans (hcx 0 _ rfl)
      have F1 : ∀ v : World, Below w.heap.size w v → v.cell? ⟨b, off + k * 2 + 1, none⟩ = some x.v := fun v h => (h.cell (p := ⟨b, off + k * 2 + 1, none⟩) hb).trans (hcx 1 _ rfl)
      have hN1 := fun wx => hNm x.name wx (RN.out x hm)
      obtain ⟨nb, hnb⟩ : ∃ q, q = nmB x.name := ⟨_, rfl⟩
      have hN1' : ∀ wx, Calls P 44 #[.string x.name] wx fun e w' => e = .returned (.bool nb) ∧ wx = w' := by rw [hnb]; exact hN1
      have D := hid (drop_get hx)
      have PE := hid (show aclE l k x = thenE (headE x.name ((l.take k).any fun y => y.name.toList == x.name.toList) x.rules.length) (eachE 16 (fun _ y => if ruleOk y then 0 else 1) x.rules) from rfl)
      have NB := hid hnb
      clear hcx hnb hN1
      have f0 := F0 wr hwr
      cases nb
      case false =>
        repeat' (first | (go_at_call 44; with_reducible refine (hN1' _).mono ?_; rintro e w' ⟨rfl, rfl⟩; try dsimp only) | go_skip | go_guarded | go_step | go_upon)
        go_ret
        exact ⟨ret_int (by rw [E.out, D.out]; refine ((firstE_hit (by rw [PE.out]; unfold thenE headE; rw [← NB.out]; simp)).trans ?_).symm; rw [PE.out]; unfold thenE headE; rw [← NB.out]; simp), by assumption⟩
      case true =>
        repeat' (first | (go_at_call 44; with_reducible refine (hN1' _).mono ?_; rintro e w' ⟨rfl, rfl⟩; try dsimp only) | go_skip | go_guarded | go_step | go_upon)
        obtain ⟨tk, htk⟩ : ∃ q, q = (l.take k).any (fun y : Acl => y.name.toList == x.name.toList) := ⟨_, rfl⟩
        have PE2 := hid (show aclE l k x = if tk then 4 else if x.rules.length = 0 then 1 else eachE 16 (fun _ y => if ruleOk y then 0 else 1) x.rules by
          rw [PE.out, htk]; unfold thenE headE; rw [← NB.out]; simp; split <;> simp; split <;> simp)
        have TK := hid htk
        clear htk PE hN1' f0
        go_loopg [4] k (fun gg s4 wr => ∃ j : Nat, j ≤ k ∧ k - j ≤ gg ∧ s4 = .int .i64 j ∧ Below w.heap.size w wr ∧ Aside (tk = ((l.take k).drop j).any (fun y : Acl => y.name.toList == x.name.toList)))
        case atStart => exact ⟨0, Nat.zero_le _, by omega, rfl, by assumption, TK.out⟩
        case round =>
          obtain ⟨j, hj, hgj, rfl, hwr2, T⟩ := hrel
          have f0 := F0 wr hwr2
          have f1 := F1 wr hwr2
          by_cases hjk : j < k
          · have hjki : (j : Int) < (k : Int) := by omega
            have hjn : (j : Int) < (n : Int) := by omega
            have hj0 : (0 : Int) ≤ (j : Int) := by omega
            obtain ⟨y, hy⟩ := get_some (l := l) (k := j) (by have := N.out; omega)
            have hcy := row_cells (f := eAcl) (z := 2) (fun _ => rfl) hc hy
            have GR : Below wr.heap.size wr wr := Below.refl _ _
            have uF0 := fun u : Later wr.heap.size wr => F0 u.w (then_ hwr2 u.h)
            have uY0 : ∀ u : Later wr.heap.size wr, u.w.cell? ⟨b, off + j * 2, none⟩ = some (.string y.name) := fun u => ((then_ hwr2 u.h).cell (p := ⟨b, off + j * 2, none⟩) hb).trans (hcy 0 _ rfl)
            clear hcy
            cases hq : (y.name.toList == x.name.toList) with
            | true =>
              have T2 := hid (T.out.trans (any_hit hy hjk hq))
              repeat' (first | go_skip | go_guarded | go_step | go_upon)
              refine wp_region_base wr (by assumption) (by first | assumption | kernel_rfl) (by kernel_rfl) ?_
              repeat (go_big_quiet_step (first | fail))
              refine wpQuiet_nil ?_
              rintro _ ⟨u, rfl⟩
              have bu := u.h
              repeat' (first | go_skip | go_guarded | go_step | go_upon)
              go_ret
              exact ⟨ret_int (by rw [E.out, D.out]; refine ((firstE_hit (by rw [PE2.out, T2.out]; simp)).trans ?_).symm; rw [PE2.out, T2.out]; rfl), then_ hwr2 (by assumption)⟩
            | false =>
              have T2 := hid (T.out.trans (any_next hy hjk hq))
              repeat' (first | go_skip | go_guarded | go_step | go_upon)
              refine wp_region_base wr (by assumption) (by first | assumption | kernel_rfl) (by kernel_rfl) ?_
              repeat (go_big_quiet_step (first | fail))
              refine wpQuiet_nil ?_
              rintro _ ⟨u, rfl⟩
              have bu := u.h
              repeat' (first | go_skip | go_guarded | go_step | go_upon)
              go_roundg (k - (j + 1))
              case measure => omega
              case rel => exact ⟨j + 1, by omega, by omega, by go_num, then_ hwr2 (by assumption), T2.out⟩
          · have hjki : ¬ (j : Int) < (k : Int) := by omega
            have T2 := hid (T.out.trans (any_end (by omega)))
            obtain ⟨ax, cx, hvx, hcx, hcl⟩ := rows_open (z := 10) (by decide) (RR.out x hm).row
            obtain ⟨m, hmm⟩ : ∃ q, q = x.rules.length := ⟨_, rfl⟩
            have hlm := (RR.out x hm).len
            rw [← hmm] at hvx hcx hcl hlm PE2
            rw [hvx] at f1 F1
            have M := hid hmm
            have PE3 := hid (PE2.out)
            have HL := hid hcl
            rw [T2.out] at PE3
            clear hmm hvx hcl T PE2
            by_cases hm0 : m = 0
            · subst hm0
              repeat' (first | go_skip | go_guarded | go_step | go_upon)
              go_ret
              exact ⟨ret_int (by rw [E.out, D.out]; refine ((firstE_hit (by rw [PE3.out]; simp)).trans ?_).symm; rw [PE3.out]; simp), by assumption⟩
            have hm0i : ((m : Int) == 0) = false := by simp; omega
            by_cases hm16 : 16 < m
            · have hm16i : (16 : Int) < (m : Int) := by omega
              have PE4 := hid (show aclE l k x = 7 by rw [PE3.out]; simp [hm0]; unfold eachE; rw [← M.out, if_pos hm16])
              repeat' (first | go_skip | go_guarded | go_step | go_upon)
              go_ret
              exact ⟨ret_int (by rw [E.out, D.out]; refine ((firstE_hit (by rw [PE4.out]; simp)).trans ?_).symm; rw [PE4.out]), by assumption⟩
            have hm16i : ¬ (16 : Int) < (m : Int) := by omega
            have PE4 := hid (show aclE l k x = firstE (fun _ y => if ruleOk y then 0 else 1) 0 x.rules by rw [PE3.out]; simp [hm0]; unfold eachE; rw [← M.out, if_neg hm16])
            repeat' (first | go_skip | go_guarded | go_step | go_upon)
            clear PE3
            go_loopg [5] m (fun gg s5 wr => ∃ i : Nat, i ≤ m ∧ m - i ≤ gg ∧ s5 = .int .i64 i ∧ Below w.heap.size w wr ∧ Aside (aclE l k x = firstE (fun _ y => if ruleOk y then 0 else 1) i (x.rules.drop i)))
            case atStart => exact ⟨0, Nat.zero_le _, by omega, rfl, by assumption, PE4.out⟩
            case round =>
              obtain ⟨i, hi, hgi, rfl, hwr3, Q⟩ := hrel
              have f1 := F1 wr hwr3
              by_cases him : i < m
              · have himi : (i : Int) < (m : Int) := by omega
                have hi0 : (0 : Int) ≤ (i : Int) := by omega
                obtain ⟨y, hy⟩ := get_some (l := x.rules) (k := i) (by have := M.out; omega)
                obtain ⟨b3, off3, rfl, hb3, hc3⟩ := HL.out (by omega)
                have LY : Sem.run P (loadCellsFrom ⟨b3, off3 + i * zRule, none⟩ 0 zRule #[]) wr = .ok (eRule y).toArray wr := by
                  rw [ZP.out]; exact ld_row (f := eRule) (z := 10) P (fun _ => rfl) (fun j u hj => (hwr3.cell (p := ⟨b3, off3 + j, none⟩) hb3).trans (hc3 j u hj)) hy
                have cV := fun wx => hVr y wx (RA.out x hm y (get_mem hy))
                obtain ⟨Y, hY⟩ : ∃ Y, Y = (eRule y).toArray := ⟨_, rfl⟩
                rw [← hY] at LY cV
                have DY := hid (drop_get hy)
                clear hY hy hc3
                cases hp : ruleOk y
                case false =>
                  rw [hp] at cV
                  have Q2 := hid (show aclE l k x = 1 by rw [Q.out, DY.out]; refine (firstE_hit ?_).trans ?_ <;> rw [hp] <;> simp)
                  clear hp
                  repeat' (first | (go_at_call 64; with_reducible refine (cV _).mono ?_; rintro e w' ⟨rfl, b⟩; have b' := then_ (w := w) (by assumption) b; clear b; try dsimp only) | go_skip | go_guarded | go_step | go_upon)
                  go_ret
                  exact ⟨ret_int (by rw [E.out, D.out]; refine ((firstE_hit (by rw [Q2.out]; simp)).trans ?_).symm; rw [Q2.out]), by assumption⟩
                case true =>
                  rw [hp] at cV
                  have Q2 := hid (show aclE l k x = firstE (fun _ y => if ruleOk y then 0 else 1) (i + 1) (x.rules.drop (i + 1)) by rw [Q.out, DY.out]; refine firstE_next ?_; rw [hp]; simp)
                  clear hp
                  repeat' (first | (go_at_call 64; with_reducible refine (cV _).mono ?_; rintro e w' ⟨rfl, b⟩; have b' := then_ (w := w) (by assumption) b; clear b; try dsimp only) | go_skip | go_guarded | go_step | go_upon)
                  go_roundg (m - (i + 1))
                  case measure => omega
                  case rel => exact ⟨i + 1, by omega, by omega, by go_num, by assumption, Q2.out⟩
              · have himi : ¬ (i : Int) < (m : Int) := by omega
                have Q2 := hid (show aclE l k x = 0 by rw [Q.out, drop_end (by have := M.out; omega)]; rfl)
                repeat' (first | go_skip | go_guarded | go_step | go_upon)
                go_roundg (n - (k + 1))
                case measure => omega
                case rel => exact ⟨k + 1, by omega, by omega, by go_num, by assumption, by show _ = _; rw [E.out, D.out]; exact firstE_next Q2.out⟩
    · have hlti : ¬ (k : Int) < (n : Int) := by omega
      repeat' (first | go_skip | go_guarded | go_step | go_upon)
      go_ret
      exact ⟨ret_int (by rw [E.out, drop_end (by have := N.out; omega)]; rfl), by assumption⟩
end Go.Proofs.Ytlhbfpapmolohaa.Mw
