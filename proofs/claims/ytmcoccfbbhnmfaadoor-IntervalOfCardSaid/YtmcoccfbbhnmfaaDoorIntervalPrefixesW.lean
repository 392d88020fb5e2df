/-
  IntervalPrefixes: the walk.
-/
import Derived.Test.YtmcoccfbbhnmfaaDoorIvlW
import Derived.Test.YtmcoccfbbhnmfaaDoorPfxR
namespace Go.Proofs.YtmcoccfbbhnmfaaDoor.Iw
set_option linter.unusedSimpArgs false
set_option linter.unusedVariables false
open Go.RowKit Sm Ip Im Kt Am

theorem cont_ok {p : Px} (h : OkP p) (x : Nat) : contB p.1 ((p.2 : Nat) : Int) x = (decide (p.1 ≤ x) && decide (x < p.1 + blk p.2)) := by
  rw [cont_range h.1 h.2.1, Bool.eq_iff_iff]; simp
def anyP (l : List Px) (x : Nat) : Bool := l.any fun p => decide (p.1 ≤ x) && decide (x < p.1 + blk p.2)
theorem anyP_take {l : List Px} {k : Nat} (hk : k < l.length) (x : Nat) : anyP (l.take (k + 1)) x = (anyP (l.take k) x || (decide ((nth l k).1 ≤ x) && decide (x < (nth l k).1 + blk (nth l k).2))) := by
  unfold anyP; rw [nth_take hk, List.any_append]; simp
theorem anyP_end {l : List Px} {k : Nat} (hk : l.length ≤ k) (x : Nat) : anyP (l.take k) x = anyP l x := by rw [List.take_of_length_le hk]
set_option maxHeartbeats 4000000 in
set_option maxRecDepth 100000 in
theorem walkIntervalPrefixes (v : Value) (s : List Iv) (x : Nat) (hx : x < 4294967296) (W : World) (hs : IsIv W v s) (hb : Bd 4294967296 s) (hT : Tab W.heap.size W) :
    Calls Tryd.prog 8 #[v, .int .u32 (x : Int)] W fun e w' => e = .returned (.bool true) ∧ Below W.heap.size W w' := by
  have HT := hid hT
  have hs0 := hid hs
  have HB := hid hb
  have HX := hid hx
  obtain ⟨p, cap, rfl, -⟩ := rows_open hs
  clear hs hb hT hx
  have C := few _ _ s [] W hs0.out (iv_nil W)
  by_cases hf : s.length ≤ 30
  case neg =>
    rw [decide_eq_false hf] at C
    clear hf
    go_enter Tryd.func8, Tryd.ntmps8
    go_wp2_with fail
    refine C.mono ?_
    rintro e w1 ⟨rfl, rfl⟩
    go_wp2_with fail
    go_ret
    exact ⟨rfl, Below.refl _ _⟩
  rw [decide_eq_true hf] at C
  have hl := hid (Nat.le_trans hf (show 30 ≤ 10000000000 by decide))
  have hpl := hid (Nat.le_trans (prefs_len HB.out) (show 4294967296 ≤ 10000000000 by decide))
  have HE : Hid (anyP (prefs s) x = hasB s x) := hid (prefs_has HB.out x)
  have HOK := hid (prefs_ok HB.out)
  clear hf
  go_enter Tryd.func8, Tryd.ntmps8
  go_wp2_with fail
  refine (C).mono ?_
  rintro e w1 ⟨rfl, rfl⟩
  clear C
  go_wp2_with fail
  refine (prefixes _ s _ hs0.out HB.out hl.out HT.out (Nat.le_refl _)).mono ?_
  rintro e w2 ⟨v2, rfl, r2, b2⟩
  have Hs_2 := hid (rows_keep hs0.out b2)
  have q2 := rows_own r2
  clear r2
  have r2 := q2
  clear q2
  have Hl_2 := hid r2
  have B2 := b2
  clear b2 hs0 r2
  have l0 := Hl_2.out
  obtain ⟨l, hl'⟩ : ∃ l, l = prefs s := ⟨_, rfl⟩
  rw [← hl'] at l0 hpl HE HOK
  have HLE := hid hl'
  clear hl'
  obtain ⟨n, hn⟩ : ∃ n, n = l.length := ⟨_, rfl⟩
  have r0 := px_n l0 hn
  clear l0 Hl_2
  obtain ⟨pl, capl, rfl, hc⟩ := rows_open r0
  have HC := hid hc
  have HR := hid r0
  have HN := hid hn
  have hln : n ≤ 10000000000 := by rw [hn]; exact hpl.out
  clear hc r0 hn
  go_wp2_with fail
  go_loopg [6, 7] n (fun gg gv i wr => ∃ (k : Nat) (g : Bool), k + gg = n ∧ i = .int .i64 k ∧ gv = .bool g ∧ Hid (g = anyP (l.take k) x) ∧ Below w2.heap.size w2 wr ∧ w2.heap.size ≤ wr.heap.size)
  case atStart => exact ⟨0, false, by omega, rfl, rfl, hid rfl, Below.refl _ _, Nat.le_refl _⟩
  case round =>
    obtain ⟨k, g, hk, rfl, rfl, HG, hbel, hsz⟩ := hrel
    cases gk with
    | zero =>
      have hlt : ¬ ((k : Int) < (n : Int)) := by omega
      have HG2 := hid (HG.out.trans ((anyP_end (by rw [← HN.out]; omega) x).trans HE.out))
      clear HG
      obtain rfl := HG2.out
      have HR2 := hid (rows_keep HR.out hbel)
      have HS2 := hid (rows_keep Hs_2.out hbel)
      have BB := B2.trans (hbel.mono B2.size)
      clear hbel
      go_wp2_with fail
      refine (refPrefixes _ s _ HS2.out HB.out hl.out).mono ?_
      rintro e w11 ⟨v11, rfl, r11, b11⟩
      have Hl_11 := hid (rows_keep HR2.out b11)
      have Hs_11 := hid (rows_keep HS2.out b11)
      have q11 := rows_own r11
      clear r11
      have r11 := q11
      clear q11
      have Hr_11 := hid r11
      have B11 := then_ BB b11
      clear b11 HR2 HS2 BB r11
      go_wp2_with fail
      refine (keepPx _ _ l _ (n_px Hl_11.out HN.out) (by rw [HLE.out]; exact n_px Hr_11.out rfl) hpl.out).mono ?_
      rintro e w12 ⟨rfl, b12⟩
      have Hl_12 := hid (rows_keep Hl_11.out b12)
      have Hs_12 := hid (rows_keep Hs_11.out b12)
      have Hr_12 := hid (rows_keep Hr_11.out b12)
      have B12 := then_ B11 b12
      clear b12 Hl_11 Hs_11 Hr_11 B11
      clear Hl_12
      go_wp2_with fail
      refine (refHas _ s x _ Hs_12.out hl.out).mono ?_
      rintro e w13 ⟨rfl, rfl⟩
      clear Hs_12
      go_wp2_with fail
      refine (sane _ (HT.out.on B12) B12.size).mono ?_
      rintro e w14 ⟨rfl, b14⟩
      have Hr_14 := hid (rows_keep Hr_12.out b14)
      have B14 := then_ B12 b14
      clear b14 Hr_12 B12
      go_wp2_with fail
      go_ret
      exact ⟨rfl, B14⟩
    | succ g1 =>
      have hlt : k < n := by omega
      obtain ⟨b, off, rfl, hbl, hc⟩ := HC.out (by omega)
      obtain ⟨c0, c1⟩ := px_cells hc (k := k) (by rw [← HN.out]; exact hlt)
      have c0 := (hbel.cell (p := ⟨b, off + k * 2, none⟩) hbl).trans c0
      have c1 := (hbel.cell (p := ⟨b, off + k * 2 + 1, none⟩) hbl).trans c1
      have HST := hid (anyP_take (l := l) (k := k) (by rw [← HN.out]; exact hlt) x)
      have HO := hid (HOK.out _ (nth_mem (l := l) (k := k) (by rw [← HN.out]; exact hlt)))
      generalize nth l k = y at *
      have HCT := hid (cont_ok HO.out x)
      have Q := fun wx => Ad.refContains y.1 ((y.2 : Nat) : Int) x wx HX.out
      rw [HCT.out] at Q
      generalize (decide (y.1 ≤ x) && decide (x < y.1 + blk y.2)) = h at *
      clear hc
      cases g
      · go_wp2_with fail
        refine (Q _).mono ?_
        rintro e w3 ⟨rfl, b3⟩
        go_wp2_with fail
        go_roundg g1
        case measure => omega
        case rel => exact ⟨k + 1, h, by omega, by go_num, rfl, hid (by rw [HST.out, ← HG.out]; rfl), chain hbel (Nat.le_refl _) b3, Nat.le_trans hsz b3.size⟩
      · clear Q c0 c1
        go_wp2_with fail
        go_roundg g1
        case measure => omega
        case rel => exact ⟨k + 1, true, by omega, by go_num, rfl, hid (by rw [HST.out, ← HG.out]; rfl), hbel, hsz⟩
end Go.Proofs.YtmcoccfbbhnmfaaDoor.Iw
