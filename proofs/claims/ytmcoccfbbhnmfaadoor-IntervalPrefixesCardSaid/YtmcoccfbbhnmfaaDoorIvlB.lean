/-
  THE CONTRACT OF interval.Normalize.
-/
import Derived.Test.YtmcoccfbbhnmfaaDoorIvlA
import Derived.Test.YtmcoccfbbhnmfaaDoorIvlN
import Derived.Shelf.SlSortCmp.NoneTotal
import Derived.Deep.LoopGhost
import Derived.RegionTactic
namespace Go.Proofs.YtmcoccfbbhnmfaaDoor.Iw
set_option linter.unusedSimpArgs false
set_option linter.unusedVariables false
open Go.RowKit Sm Ip Im Kt

/-- slices.SortFunc with compareLo on what the call owns, nil too. -/
theorem sortOwn (v : Value) (s : List Iv) (w : World) (B : Nat) (h : w.ownsRow B 45 2 v s.length (iv2 s)) (hs : s.length ≤ 10000000000) :
    Calls Tryd.prog 39 #[v, .func (.func 40) #[] #[]] w fun e w' =>
      e = .returned (.tuple #[]) ∧ ∃ t : List Iv, t.Perm s ∧ (t.Pairwise fun x y => x.1 ≤ y.1) ∧ IsIv w' v t ∧ Below B w w' := by
  by_cases h0 : s.length = 0
  · have hl : s = [] := List.eq_nil_of_length_eq_zero h0
    subst hl
    have hr := rows_own h
    obtain ⟨a, cap, rfl, _⟩ := rows_open hr
    have hcon := AnyF.slices_SortFunc_none (P := Tryd.prog) (ρ := Tryd.sortIv_ren) { Tryd.sortIv with } a cap (.func (.func 40) #[] #[]) w
    change Calls Tryd.prog 39 _ _ _ at hcon
    refine hcon.mono ?_
    rintro e w' ⟨rfl, rfl⟩
    exact ⟨rfl, [], List.Perm.refl _, List.Pairwise.nil, hr, Below.refl _ _⟩
  · obtain ⟨g, cap, rfl, hB, hg, hnc, hc, hf⟩ := own_form h (by omega)
    refine (sortRow g cap s w hg hc hf hs hnc).mono ?_
    rintro e w' ⟨rfl, t, hp, hso, hi, hb⟩
    refine ⟨rfl, t, hp, hso, ?_, hb.mono hB⟩
    rwa [hp.length_eq] at hi

/-- What a function leaves that returns a slice of intervals in memory of its own. -/
def IvPost (r : List Iv) (w : World) (e : Ending) (w' : World) : Prop := ∃ v, e = .returned v ∧ IsIv w' v r ∧ Below w.heap.size w w'

/-- Normalize's loop: the relation on memory. -/
def NRel (t : List Iv) (w2 : World) (v : Value) (k : Nat) (wr : World) : Prop :=
  ∃ acc, NInv t k acc ∧ wr.ownsRow w2.heap.size 45 2 v acc.length (iv2 acc) ∧ Below w2.heap.size w2 wr ∧ w2.heap.size ≤ wr.heap.size

set_option maxHeartbeats 4000000 in
set_option maxRecDepth 100000 in
theorem normalize (v : Value) (s : List Iv) (w : World) (h : IsIv w v s) (hb : Bd 4294967296 s) (hs : s.length ≤ 10000000000) :
    Calls Tryd.prog 12 #[v] w (IvPost (norm s) w) := by
  obtain ⟨i0, hi, hz0, hz1, hz2⟩ := info_parts ivInfo
  have C := fun wx (hw : IsIv wx v s) => clone v s wx hw hs
  have h' := hid h
  clear h
  go_enter Tryd.func12, Tryd.ntmps12
  go_wp2_with fail
  refine (C _ h'.out).mono ?_
  rintro e w1 ⟨v1, rfl, own1, bel1⟩
  clear C
  go_wp2_with fail
  refine (sortOwn v1 s _ _ own1 hs).mono ?_
  rintro e w2 ⟨rfl, t, hp, hso, hi2, bel2⟩
  obtain ⟨a, cap, rfl, hcell⟩ := rows_open hi2
  have HC := hid hcell
  clear hcell hi2 own1
  have B2 : Below w.heap.size w w2 := bel1.trans bel2
  have ht : t.length ≤ 10000000000 := by rw [hp.length_eq]; exact hs
  have HB : Hid (Bd 4294967296 t) := hid (fun i hi => hb i (hp.mem_iff.1 hi))
  have HN : Hid (norm t = norm s) := hid (norm_same (has_perm hp))
  have HS := hid hso
  obtain ⟨n, hn⟩ : ∃ n, n = t.length := ⟨_, rfl⟩
  rw [← hn] at ht HC
  have HL := hid hn
  clear hp hso bel1 bel2 hb hs h' hn
  go_wp2_with fail
  rw [← HL.out]
  go_loopg [4, 14] n (fun gg v i wr => ∃ k : Nat, k + gg = n ∧ i = .int .i64 k ∧ NRel t w2 v k wr)
  case atStart => exact ⟨0, by omega, rfl, [], ninv_start t, World.ownsRow_nil _ _ _ _, Below.refl _ _, Nat.le_refl _⟩
  case round =>
    obtain ⟨k, hk, rfl, acc, hacc, hown, hbel, hsz⟩ := hrel
    have hal := hacc.2.2.2
    have HA := hid hacc
    clear hacc
    cases gk with
    | zero =>
      have hlt : ¬ ((k : Int) < (n : Int)) := by omega
      go_wp2
      go_ret
      refine ⟨_, rfl, ?_, B2.trans (hbel.mono B2.size)⟩
      have := ninv_end (by rw [← HL.out]; omega) HA.out
      rw [← HN.out, ← this]
      exact rows_own hown
    | succ g1 =>
      have hlt : k < n := by omega
      obtain ⟨b, off, rfl, hbl, hc⟩ := HC.out (by omega)
      obtain ⟨c0, c1⟩ := iv_cells hc (by rw [← HL.out]; exact hlt)
      have hx := HB.out _ (nth_mem (k := k) (by rw [← HL.out]; exact hlt))
      have c0 := (hbel.cell (p := ⟨b, off + k * 2, none⟩) hbl).trans c0
      have c1 := (hbel.cell (p := ⟨b, off + k * 2 + 1, none⟩) hbl).trans c1
      clear hc
      obtain ⟨x, hxe⟩ : ∃ x, x = nth t k := ⟨_, rfl⟩
      rw [← hxe] at c0 c1 hx
      have HX := hid hxe
      clear hxe
      by_cases he : x.2 < x.1
      · have HA' := hid (ninv_skip (by rw [← HL.out]; exact hlt) HA.out (by rw [← HX.out]; exact he))
        have E := fun wx => isEmpty x wx
        rw [decide_eq_true he] at E
        clear HA he
        go_wp2_with fail
        refine (E _).mono ?_
        rintro e w3 ⟨rfl, bel3⟩
        have hb3 : Below w2.heap.size w2 w3 := (hbel.alloc hsz _).trans (bel3.mono (by simp; omega))
        have hs3 := hb3.size
        have own3 := own_below (hown.alloc _) bel3 (Nat.le_refl _)
        clear bel3 E c0 c1
        go_wp2
        go_roundg g1
        case measure => omega
        case rel => exact ⟨k + 1, by omega, by go_num, acc, HA'.out, own3, hb3, hs3⟩
      · have E := fun wx => isEmpty x wx
        rw [decide_eq_false he] at E
        go_wp2_with fail
        refine (E _).mono ?_
        rintro e w3 ⟨rfl, bel3⟩
        have hb3 : Below w2.heap.size w2 w3 := (hbel.alloc hsz _).trans (bel3.mono (by simp; omega))
        have hs3 := hb3.size
        have own3 := own_below (hown.alloc _) bel3 (Nat.le_refl _)
        have ho3 := box_all bel3
        have hxb : wr.heap.size < w3.heap.size := by have := bel3.size; simp at this; omega
        clear E c0 c1 bel3 hown
        by_cases h0 : acc = []
        · subst h0
          have HA' := hid (ninv_new HS.out (by rw [← HL.out]; exact hlt) HA.out (by rw [← HX.out]; omega) (fun _ h => by cases h))
          obtain ⟨a4, cap4, rfl, _⟩ := rows_open (rows_own own3)
          go_wp2_with fail
          go_quiet (fail)
          have bel4 := drewN_below w3.heap.size w3 nq
          have own4 : (w3.drewN nq).ownsRow w2.heap.size 45 2 (.slice a4 0 cap4) 0 [] := own_below own3 bel4 (Nat.le_refl _)
          have hb4 : Below w2.heap.size w2 (w3.drewN nq) := hb3.trans (bel4.mono hs3)
          have ho4 := blk_keep ho3 bel4
          have hs4 := hb4.size
          generalize w3.drewN nq = w4 at *
          obtain ⟨⟨d0, d1⟩, _⟩ := blk_two ho4
          clear bel4 own3 hb3 ho3 hs3
          go_wp2_with (at_builtin; (refine app1 rfl _ _ _ rfl 45 i0 _ 8 Tryd.underlying22 hi hz0 hz1 hz2 rfl (by decide) w2.heap.size w2 w4 (.slice a4 0 cap4) 0 [] [.int .u32 (x.1 : Int), .int .u32 (x.2 : Int)] rfl own4 hb4 hs4 rfl rfl (by simp [Value.oneCell']) (by omega) ?_; intro v5 w5 own5 bel5 hs5))
          go_roundg g1
          case measure => omega
          case rel => exact ⟨k + 1, by omega, by go_num, _, HA'.out, by rw [← HX.out]; exact own5, bel5, hs5⟩
        · obtain ⟨ac, l, rfl⟩ := snoc_of h0
          clear h0
          have hx1 : x.1 ≤ x.2 := by omega
          obtain ⟨m, hm⟩ : ∃ m, m = ac.length := ⟨_, rfl⟩
          have hlen : (ac ++ [l]).length = m + 1 := by simp [hm]
          rw [hlen] at own3 hal
          obtain ⟨g, cap4, rfl, hgB, hgl, _, gc, gf⟩ := own_form own3 (by omega)
          obtain ⟨c0, c1⟩ := iv2_get (ac ++ [l]) m (by omega)
          have hnl : nth (ac ++ [l]) m = l := by unfold nth; simp [hm]
          rw [hnl] at c0 c1
          have c0 := gc _ _ c0
          have c1 := gc _ _ c1
          have hlb : l.2 < 4294967296 := (ninv_bd HB.out HA.out l (List.mem_append_right _ (List.mem_singleton.2 rfl))).2
          have HM := hid hm
          have e0 : ∀ u : Later w3.heap.size w3, u.w.cell? ⟨g, m * 2, none⟩ = some (.int .u32 (l.1 : Int)) := later_cell hgl c0
          have e1 : ∀ u : Later w3.heap.size w3, u.w.cell? ⟨g, m * 2 + 1, none⟩ = some (.int .u32 (l.2 : Int)) := later_cell hgl c1
          have d0 := lat_0 ho3
          have d1 := lat_1 ho3
          have hG := fun wx => gap l x wx hlb hx.1
          have hml : (m : Int) + 1 ≤ 10000000001 := by omega
          have hm10 : m + 1 ≤ 10000000000 := by omega
          clear gc hm hnl c0 c1 hlen hal
          cases hgap : gapB l x with
          | true =>
            rw [hgap] at hG
            have HA' := hid (ninv_new HS.out (by rw [← HL.out]; exact hlt) HA.out (by rw [← HX.out]; exact hx1) (by rw [← HX.out]; exact ninv_gap HA.out.1 (by simpa [gapB] using hgap)))
            clear hgap HA
            go_wp2_with fail
            refine wp_region_later w3.heap.size (by kernel_rfl) (by kernel_rfl) ?_
            repeat (go_big_quiet_step ((go_at_call 42; exact later_of (Nat.le_refl _) (hG _))))
            refine wpQuiet_nil ?_
            rintro _ ⟨u, rfl⟩
            have bel4 := u.h
            have own4 := own_below own3 bel4 (Nat.le_refl _)
            have hb4 : Below w2.heap.size w2 u.w := hb3.trans (bel4.mono hs3)
            have ho4 := blk_keep ho3 bel4
            have hs4 := hb4.size
            clear own3 e0 e1 d0 d1 hb3 ho3 hs3 bel4 hG
            generalize u.w = w4 at *
            obtain ⟨⟨d0, d1⟩, _⟩ := blk_two ho4
            go_wp2_with (at_builtin; (refine app1 rfl _ _ _ rfl 45 i0 _ 8 Tryd.underlying22 hi hz0 hz1 hz2 rfl (by decide) w2.heap.size w2 w4 (.slice (some ⟨g, 0, none⟩) (m + 1) cap4) (m + 1) (iv2 (ac ++ [l])) [.int .u32 (x.1 : Int), .int .u32 (x.2 : Int)] rfl own4 hb4 hs4 rfl rfl (by simp [Value.oneCell']) (by omega) ?_; intro v5 w5 own5 bel5 hs5))
            go_roundg g1
            case measure => omega
            case rel => exact ⟨k + 1, by omega, by go_num, _, HA'.out, by rw [← HX.out, iv2_append]; rw [show (ac ++ [l] ++ [x]).length = m + 1 + 1 by simp [HM.out]]; exact own5, bel5, hs5⟩
          | false =>
            rw [hgap] at hG
            have HA' := hid (ninv_join HS.out (by rw [← HL.out]; exact hlt) HA.out (by rw [← HX.out]; exact hx1) (by rw [← HX.out]; simpa [gapB] using hgap))
            clear hgap HA
            go_wp2_with fail
            refine wp_region_later w3.heap.size (by kernel_rfl) (by kernel_rfl) ?_
            repeat (go_big_quiet_step ((go_at_call 42; exact later_of (Nat.le_refl _) (hG _))))
            refine wpQuiet_nil ?_
            rintro _ ⟨u, rfl⟩
            have bel4 := u.h
            have own4 := own_below own3 bel4 (Nat.le_refl _)
            have hb4 : Below w2.heap.size w2 u.w := hb3.trans (bel4.mono hs3)
            have ho4 := blk_keep ho3 bel4
            have hs4 := hb4.size
            have e0' := e0 u
            have e1' := e1 u
            have gf' := (Below.frozen bel4 (p := ⟨g, m * 2 + 1, none⟩) hgl).trans (gf _)
            clear own3 e0 e1 d0 d1 hb3 ho3 hs3 bel4 hG gf
            generalize u.w = w4 at *
            obtain ⟨⟨d0, d1⟩, _⟩ := blk_two ho4
            go_wp2_with fail
            go_region
            have hmx : (max (l.2 : Int) (x.2 : Int)) = ((max l.2 x.2 : Nat) : Int) := by omega
            rw [hmx]
            clear hmx
            have own5 := own_set own4 (m * 2 + 1) (.int .u32 ((max l.2 x.2 : Nat) : Int))
            have hb5 := Below.drew (hb4.setCell (p := ⟨g, m * 2 + 1, none⟩) hgB (.int .u32 ((max l.2 x.2 : Nat) : Int)))
            have own5 : (w4.setCell ⟨g, m * 2 + 1, none⟩ (.int .u32 ((max l.2 x.2 : Nat) : Int))).drew.ownsRow w2.heap.size 45 2 (.slice (some ⟨g, 0, none⟩) (m + 1) cap4) (m + 1) ((iv2 (ac ++ [l])).set (m * 2 + 1) (.int .u32 ((max l.2 x.2 : Nat) : Int))) := own5
            have hs5 := hb5.size
            generalize (w4.setCell ⟨g, m * 2 + 1, none⟩ (.int .u32 ((max l.2 x.2 : Nat) : Int))).drew = w5 at *
            clear own4 hb4 hs4 ho4 d0 d1 e0' e1' gf'
            go_wp2
            go_roundg g1
            case measure => omega
            case rel => exact ⟨k + 1, by omega, by go_num, ac ++ [(l.1, max l.2 x.2)], by have := HA'.out; rwa [← HX.out] at this, by rw [← iv2_set, ← HM.out, show (ac ++ [(l.1, max l.2 x.2)]).length = m + 1 by simp [HM.out]]; exact own5, hb5, hs5⟩
end Go.Proofs.YtmcoccfbbhnmfaaDoor.Iw
