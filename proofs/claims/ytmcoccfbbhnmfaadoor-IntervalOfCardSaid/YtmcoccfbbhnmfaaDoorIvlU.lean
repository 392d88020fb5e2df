/-
  THE CONTRACT OF interval.Prefixes.
-/
import Derived.Test.YtmcoccfbbhnmfaaDoorIvlT
namespace Go.Proofs.YtmcoccfbbhnmfaaDoor.Iw
set_option linter.unusedSimpArgs false
set_option linter.unusedVariables false
open Go.RowKit Sm Ip Im Kt Am

/-- What a function leaves that returns a slice of prefixes in memory of its own. -/
def PxPost (r : List Px) (w : World) (e : Ending) (w' : World) : Prop := ∃ v, e = .returned v ∧ w'.ownsRow w.heap.size 37 2 v r.length (px2 r) ∧ Below w.heap.size w w'
theorem own_type {w : World} {B e n : Nat} {v : Value} {xs : List Value} (h : w.ownsRow B e 2 v n xs) {k : Nat} {cs : Array Value} {T : TypeId} {fr : Nat × Nat} (hk : w.heap[k]? = some (.cells cs T fr)) (hne : T ≠ e) : v.ownBlock ≠ some k := by
  intro hb
  rcases h.2 with ⟨rfl, _⟩ | ⟨g, cap, cur, rfl, _, hh, _⟩
  · cases hb
  · have : g = k := Option.some.inj hb
    subst this
    rw [hk] at hh
    injection hh with hh
    injection hh with e1 e2
    exact hne e2
theorem pref_drop {s : List Iv} {k : Nat} (hk : k < s.length) : pref (s.drop k) = grd (nth s k).1 (nth s k).2 ++ pref (s.drop (k + 1)) := by rw [nth_drop hk, pref]
theorem acc_len {N : Nat} {acc r l : List Px} (h : acc ++ r = l) (hl : l.length ≤ N) : acc.length ≤ N := by
  have := congrArg List.length h
  rw [List.length_append] at this; omega

set_option maxHeartbeats 8000000 in
set_option maxRecDepth 100000 in
theorem prefixes (v : Value) (a : List Iv) (w : World) (ha : IsIv w v a) (ba : Bd 4294967296 a) (la : a.length ≤ 10000000000) {B : Nat} (hT : Tab B w) (hB : B ≤ w.heap.size) :
    Calls Tryd.prog 30 #[v] w (PxPost (prefs a) w) := by
  obtain ⟨i0, hi, hz0, hz1, hz2⟩ := info_parts pxInfo
  have C := normalize v a w ha ba la
  have hnb := norm_bd ba
  have hnl := norm_len a
  have hpl := prefs_len ba
  clear ha
  obtain ⟨s, hs⟩ : ∃ s, s = norm a := ⟨_, rfl⟩
  have hgoal : prefs a = pref s := by rw [hs]; rfl
  have hcan : Ip.Can 0 s := by rw [hs]; exact (norm_can a).1
  rw [hgoal] at hpl ⊢
  rw [← hs] at C hnb hnl
  have HCan := hid hcan
  have HT := hid hT
  have HBT := hid hB
  clear hgoal hs ba hcan hT hB
  go_enter Tryd.func30, Tryd.ntmps30
  go_wp2_with fail
  refine C.mono ?_
  rintro e w1 ⟨v1, rfl, r1, b1⟩
  clear C
  obtain ⟨n, hn⟩ : ∃ n, n = s.length := ⟨_, rfl⟩
  have r1' := iv_n r1 hn
  obtain ⟨p1, cap, rfl, hcell⟩ := rows_open r1'
  rw [← hn] at hnl
  have hln : n ≤ 10000000000 := by omega
  have HL := hid hn
  have HC := hid hcell
  have HB := hid hnb
  have HP := hid hpl
  have HT1 : Hid (Tab B w1) := hid (HT.out.on (b1.mono HBT.out))
  have HB1 : Hid (B ≤ w1.heap.size) := hid (Nat.le_trans HBT.out b1.size)
  clear r1 r1' hcell hn hnb hnl hpl HT
  go_wp2_with fail
  go_loopg [3, 11] n (fun gg u i wr => ∃ k : Nat, k + gg = n ∧ i = .int .i64 k ∧ Hid (∃ acc, acc ++ pref (s.drop k) = pref s ∧ wr.ownsRow w1.heap.size 37 2 u acc.length (px2 acc) ∧ Below w1.heap.size w1 wr ∧ w1.heap.size ≤ wr.heap.size))
  case atStart => exact ⟨0, by omega, rfl, hid ⟨[], rfl, World.ownsRow_nil _ _ _ _, Below.refl _ _, Nat.le_refl _⟩⟩
  case round =>
    obtain ⟨k, hk, rfl, HR⟩ := hrel
    obtain ⟨acc, hacc, hown, hbel, hsz⟩ := HR.out
    have HA := hid hacc
    clear hacc HR
    cases gk with
    | zero =>
      have hlt : ¬ ((k : Int) < (n : Int)) := by omega
      have HE := hid (show acc = pref s by rw [← HA.out, List.drop_eq_nil_of_le (by rw [← HL.out]; omega)]; simp [pref])
      go_wp2_with fail
      go_ret
      refine ⟨_, rfl, ?_, then_ b1 hbel⟩
      rw [← HE.out]
      exact own_less hown b1.size
    | succ g1 =>
      have hlt : k < n := by omega
      have hk' : k < s.length := by rw [← HL.out]; exact hlt
      obtain ⟨b, off, rfl, hbl, hc⟩ := HC.out (by omega)
      obtain ⟨c0, c1⟩ := iv_cells hc (by rw [← HL.out]; exact hlt)
      have hx := HB.out _ (nth_mem (k := k) hk')
      have hle := (can_mem HCan.out (nth_mem (k := k) hk')).2
      have c0 := (hbel.cell (p := ⟨b, off + k * 2, none⟩) hbl).trans c0
      have c1 := (hbel.cell (p := ⟨b, off + k * 2 + 1, none⟩) hbl).trans c1
      have HA2 := hid (HA.out.symm.trans (congrArg (acc ++ ·) (pref_drop hk')))
      clear hc HA
      obtain ⟨x, hxe⟩ : ∃ x, x = nth s k := ⟨_, rfl⟩
      rw [← hxe] at c0 c1 hx hle HA2
      clear hxe hk'
      have hE := fun wx => after x wx hx.2
      go_upto_region 5 with fail
      have b3 : Below w1.heap.size w1 (wr.alloc (.cells #[.int .u32 (x.1 : Int), .int .u32 (x.2 : Int)] 45)) := hbel.alloc hsz _
      have h3 := heap_new wr (.cells #[.int .u32 (x.1 : Int), .int .u32 (x.2 : Int)] 45 (0, 0))
      have own3 := hown.alloc (.cells #[.int .u32 (x.1 : Int), .int .u32 (x.2 : Int)] 45 (0, 0))
      have s3 := b3.size
      obtain ⟨bx, hbx⟩ : ∃ bx, bx = wr.heap.size := ⟨_, rfl⟩
      rw [← hbx] at h3 ⊢
      clear hown hbel c0 c1 hsz hbx
      generalize wr.alloc (.cells #[.int .u32 (x.1 : Int), .int .u32 (x.2 : Int)] 45) = w3 at *
      obtain ⟨⟨d0, d1⟩, -⟩ := blk_two h3
      go_wp2_with fail
      go_loopg [3, 6] (x.2 + 1 - x.1) (fun gg u nv wr2 => ∃ next : Nat, x.2 + 1 ≤ next + gg ∧ nv = .int .u64 next ∧ x.1 ≤ next ∧ next ≤ x.2 + 1 ∧ Hid (∃ acc, acc ++ (grd next x.2 ++ pref (s.drop (k + 1))) = pref s ∧ wr2.ownsRow w1.heap.size 37 2 u acc.length (px2 acc) ∧ Below w1.heap.size w1 wr2 ∧ w1.heap.size ≤ wr2.heap.size ∧ wr2.heap[bx]? = some (.cells #[.int .u32 (x.1 : Int), .int .u32 (x.2 : Int)] 45 (0, 0))))
      case atStart => exact ⟨x.1, by omega, rfl, Nat.le_refl _, by omega, hid ⟨acc, HA2.out.symm, own3, b3, s3, h3⟩⟩
      case round =>
        clear HA2 own3 b3 s3 h3 d0 d1 acc w3
        obtain ⟨next, hg, rfl, hn1, hn2, HR⟩ := hrel
        obtain ⟨acc, hacc, hown, hbel, hsz, hbx⟩ := HR.out
        have hal : acc.length ≤ 10000000000 := by have := acc_len hacc HP.out; omega
        have HA := hid hacc
        clear hacc HR
        obtain ⟨⟨c0, c1⟩, -⟩ := blk_two hbx
        have hEx : ((x.2 + 1 : Nat) : Int) = (x.2 : Int) + 1 := by omega
        rw [hEx] at hE
        clear hEx
        by_cases hlt2 : next ≤ x.2
        · have hok := wid_ok hlt2 hx.2
          have hW := fun wx (hb : Below w1.heap.size w1 wx) => widest next x.2 wx hlt2 hx.2 (HT1.out.on (hb.mono HB1.out)) (Nat.le_trans HB1.out hb.size)
          have hbw := blk_wid (wid_le (lo := next) (hi := x.2) (by omega))
          have hfit := (wid_fits hlt2 hx.2).2
          have hpos := Nat.pow_pos (n := wid next x.2) (show 0 < 2 by decide)
          have HG := hid (grd_yes hlt2)
          have hL : ∀ wx, Calls Tryd.prog 49 #[px (next, 32 - wid next x.2)] wx fun e w' => e = .returned (.int .u32 ((next + 2 ^ wid next x.2 - 1 : Nat) : Int)) ∧ Below wx.heap.size wx w' := by
            intro wx
            refine (Ad.last next ((32 - wid next x.2 : Nat) : Int) wx (by omega)).mono ?_
            rintro e w' ⟨rfl, hb⟩
            have e1 := last_ok hok
            simp only at e1
            exact ⟨by rw [e1, hbw], hb⟩
          obtain ⟨nx, hnx⟩ : ∃ nx, nx = next + 2 ^ wid next x.2 := ⟨_, rfl⟩
          rw [← hnx] at hL HG hfit
          have hnx1 : next + 1 ≤ nx := by omega
          clear hnx hbw hpos hok
          generalize 32 - wid next x.2 = q at *
          have HA3 : Hid ((acc ++ [(next, q)]) ++ (grd nx x.2 ++ pref (s.drop (k + 1))) = pref s) := hid (by rw [← HA.out, HG.out]; simp [List.append_assoc])
          clear HA HG
          have hlt3 : (next : Int) < (x.2 : Int) + 1 := by omega
          go_upto_if 21 with (go_at_call 47; refine (hE _).mono ?_; rintro e w4 ⟨rfl, bel4⟩)
          have own4 := own_below hown bel4 (Nat.le_refl _)
          have b4 := hbel.trans (bel4.mono hsz)
          have s4 := b4.size
          have h4 := blk_keep hbx bel4
          obtain ⟨⟨e0, e1⟩, -⟩ := blk_two h4
          clear hown hbel hsz hbx c0 c1 bel4
          go_wp2_with fail
          refine (hW _ b4).mono ?_
          rintro e w5 ⟨rfl, bel5⟩
          have own5 := own_below own4 bel5 (Nat.le_refl _)
          have b5 := b4.trans (bel5.mono s4)
          have s5 := b5.size
          have h5 := blk_keep h4 bel5
          clear own4 b4 s4 h4 e0 e1 bel5 hW
          go_upto_region 8 with fail
          have b6 : Below w1.heap.size w1 (w5.alloc (.cells #[.int .u32 (next : Int), .int .i64 (q : Int)] 37)) := b5.alloc s5 _
          have own6 := own5.alloc (.cells #[.int .u32 (next : Int), .int .i64 (q : Int)] 37 (0, 0))
          have hp6 := heap_new w5 (.cells #[.int .u32 (next : Int), .int .i64 (q : Int)] 37 (0, 0))
          have hx6 := blk_keep h5 (al1 w5 (.cells #[.int .u32 (next : Int), .int .i64 (q : Int)] 37))
          have hnp := own_ne own5 (Nat.le_refl _)
          have hnx := own_type own5 h5 (by decide)
          have s6 := b6.size
          have HNE := hid (And.intro hnp hnx)
          obtain ⟨bp, hbp⟩ : ∃ bp, bp = w5.heap.size := ⟨_, rfl⟩
          rw [← hbp] at hp6 HNE ⊢
          clear own5 b5 s5 h5 hnp hnx hbp
          generalize w5.alloc (.cells #[.int .u32 (next : Int), .int .i64 (q : Int)] 37) = w6 at *
          obtain ⟨⟨e0, e1⟩, -⟩ := blk_two hp6
          go_upto_region 9 with (at_builtin; refine app1k rfl _ _ _ rfl 37 i0 _ 16 Tryd.underlying33 hi hz0 hz1 hz2 rfl (by decide) w1.heap.size w1 w6 u3 acc.length (px2 acc) [.int .u32 (next : Int), .int .i64 (q : Int)] rfl own6 b6 s6 rfl rfl (by simp [Value.oneCell']) hal ?_; intro v7 w7 own7 bel7 hs7 kp7)
          have hx7 := kp7 _ _ hx6 HNE.out.2
          obtain ⟨⟨f0, f1⟩, -⟩ := blk_two (kp7 _ _ hp6 HNE.out.1)
          clear kp7 own6 b6 s6 hp6 hx6 e0 e1 HNE
          go_wp2_with fail
          refine (hL _).mono ?_
          rintro e w8 ⟨rfl, bel8⟩
          have own8 := own_below own7 bel8 (Nat.le_refl _)
          have b8 := bel7.trans (bel8.mono hs7)
          have s8 := b8.size
          have hx8 := blk_keep hx7 bel8
          clear own7 bel7 hs7 hx7 f0 f1 bel8 hL
          obtain ⟨g2, rfl⟩ : ∃ g2, gk = g2 + 1 := ⟨gk - 1, by omega⟩
          have HNx := hid (show ((nx - 1 : Nat) : Int) + 1 = (nx : Int) by omega)
          have hb1 : nx - 1 < 4294967296 := by omega
          go_wp2_with fail
          go_roundg g2
          case measure => omega
          case rel => exact ⟨nx, by omega, by rw [← HNx.out], by omega, by omega, hid ⟨acc ++ [(next, q)], HA3.out, by rw [List.length_append, px2_append]; exact own8, b8, s8, hx8⟩⟩
        · have HE := hid (show acc ++ pref (s.drop (k + 1)) = pref s by rw [← HA.out, grd_no (by omega)]; rfl)
          have hne : ¬ (next : Int) < (x.2 : Int) + 1 := by omega
          go_wp2_with (go_at_call 47; refine (hE _).mono ?_; rintro e w4 ⟨rfl, bel4⟩)
          have own4 := own_below hown bel4 (Nat.le_refl _)
          have b4 := hbel.trans (bel4.mono hsz)
          have s4 := b4.size
          clear hown hbel hsz hbx c0 c1 bel4
          go_wp2_with fail
          go_roundg g1
          case measure => omega
          case rel => exact ⟨k + 1, by omega, by go_num, hid ⟨acc, HE.out, own4, b4, s4⟩⟩
end Go.Proofs.YtmcoccfbbhnmfaaDoor.Iw
