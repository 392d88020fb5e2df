/-
  THE CONTRACTS OF interval's common, Intersect, Complement, Subtract, Size.
-/
import Derived.Test.YtmcoccfbbhnmfaaDoorIvlF
import Derived.Deep.RegionHeld3
import Derived.Deep.DeepCutAuto
namespace Go.Proofs.YtmcoccfbbhnmfaaDoor.Iw
set_option linter.unusedSimpArgs false
set_option linter.unusedVariables false
open Go.RowKit Sm Ip Im Kt

theorem rows_drop {w : World} {b off cap : Nat} {s : List Iv} (hc : ∀ j u, (iv2 s)[j]? = some u → w.cell? ⟨b, off + j, none⟩ = some u) (k : Nat) :
    ∀ j u, (iv2 (s.drop k))[j]? = some u → w.cell? ⟨b, off + k * 2 + j, none⟩ = some u := by
  intro j u hj
  have e : iv2 (s.drop k) = (iv2 s).drop (k * 2) := by
    rcases Nat.lt_or_ge k s.length with h | h
    · have e1 : iv2 s = iv2 (s.take k) ++ iv2 (s.drop k) := by rw [← iv2_append, List.take_append_drop]
      have e2 : (iv2 (s.take k)).length = k * 2 := by rw [iv2_length, List.length_take]; congr 1; omega
      rw [e1, ← e2, List.drop_left]
    · rw [List.drop_eq_nil_of_le h, List.drop_eq_nil_of_le (by rw [iv2_length]; omega)]; rfl
  rw [e, List.getElem?_drop] at hj
  rw [Nat.add_assoc]
  exact hc _ _ hj

def CRel (a b : List Iv) (w : World) (v : Value) (a' b' : List Iv) (wr : World) : Prop :=
  ∃ acc, acc ++ com a' b' = com a b ∧ acc.length + a'.length + b'.length ≤ a.length + b.length ∧ wr.ownsRow w.heap.size 45 2 v acc.length (iv2 acc) ∧ Below w.heap.size w wr ∧ w.heap.size ≤ wr.heap.size
/-- A slice of intervals that stand in old memory, by its address. -/
def Old (w : World) (v : Value) (s : List Iv) : Prop := IsIv w v s

theorem old_cons {w : World} {v : Value} {x : Iv} {r : List Iv} (h : Old w v (x :: r)) :
    ∃ b off cap, v = .slice (some ⟨b, off, none⟩) (r.length + 1) cap ∧ b < w.heap.size ∧ r.length + 1 ≤ cap ∧ w.cell? ⟨b, off, none⟩ = some (.int .u32 (x.1 : Int)) ∧ w.cell? ⟨b, off + 1, none⟩ = some (.int .u32 (x.2 : Int)) ∧
      (cap = 1 → Old w (.slice (some ⟨b, off, none⟩) 0 0) r) ∧ Old w (.slice (some ⟨b, off + 2, none⟩) r.length (cap - 1)) r := by
  obtain ⟨a, cap, rfl, hc⟩ := rows_open h
  have hcap := (rows_cap h).1
  obtain ⟨b, off, rfl, hb, hc⟩ := hc (by simp)
  rw [List.length_cons] at hcap
  refine ⟨b, off, cap, rfl, hb, hcap, by have := hc 0 _ rfl; rwa [Nat.add_zero] at this, hc 1 _ rfl, fun h1 => ?_, ?_⟩
  · have : r = [] := List.eq_nil_of_length_eq_zero (by omega)
    subst this
    exact rows_zero
  · exact rows_at (iv2_length r) (by omega) fun j u hj => by
      have := hc (j + 2) u (by simpa [iv2] using hj)
      rwa [show off + (j + 2) = off + 2 + j by omega] at this
theorem old_nil {w : World} {v : Value} (h : Old w v []) : ∃ a cap, v = .slice a 0 cap := by
  obtain ⟨a, cap, rfl, _⟩ := rows_open h
  exact ⟨a, cap, rfl⟩
def both (x y : Iv) : List Iv := if max x.1 y.1 ≤ min x.2 y.2 then [(max x.1 y.1, min x.2 y.2)] else []
theorem com_left {x y : Iv} {a b : List Iv} (h : x.2 < y.2) : com (x :: a) (y :: b) = both x y ++ com a (y :: b) := by rw [com, if_pos h]; rfl
theorem com_right {x y : Iv} {a b : List Iv} (h : ¬ x.2 < y.2) : com (x :: a) (y :: b) = both x y ++ com (x :: a) b := by rw [com, if_neg h]; rfl

set_option maxHeartbeats 4000000 in
set_option maxRecDepth 100000 in
theorem common (v1 v2 : Value) (a b : List Iv) (w : World) (ha : IsIv w v1 a) (hb : IsIv w v2 b) (ba : Bd 4294967296 a) (bb : Bd 4294967296 b) (la : a.length ≤ 5000000000) (lb : b.length ≤ 5000000000) :
    Calls Tryd.prog 46 #[v1, v2] w (IvPost (com a b) w) := by
  obtain ⟨i0, hi, hz0, hz1, hz2⟩ := info_parts ivInfo
  have HA0 := hid ha
  have HB0 := hid hb
  have BA := hid ba
  have BB := hid bb
  obtain ⟨a1, cap1, rfl, _⟩ := rows_open ha
  obtain ⟨a2, cap2, rfl, _⟩ := rows_open hb
  clear ha hb ba bb
  go_enter Tryd.func46, Tryd.ntmps46
  go_wp2_with fail
  go_loopg [0, 1, 5] (a.length + b.length) (fun gg x y v wr => ∃ a' b', a'.length + b'.length ≤ gg ∧ Old w x a' ∧ Old w y b' ∧ Hid (Bd 4294967296 a' ∧ Bd 4294967296 b') ∧ Hid (CRel a b w v a' b' wr))
  case atStart => exact ⟨a, b, Nat.le_refl _, HA0.out, HB0.out, hid ⟨BA.out, BB.out⟩, hid ⟨[], rfl, by simp, World.ownsRow_nil _ _ _ _, Below.refl _ _, Nat.le_refl _⟩⟩
  case round =>
    obtain ⟨a', b', hg, hx, hy, HBD, HR⟩ := hrel
    obtain ⟨acc, hcom, hlen, hown, hbel, hsz⟩ := HR.out
    have HCo := hid hcom
    have hal : acc.length ≤ 10000000000 := by omega
    have HLe := hid hlen
    clear HR hcom hlen
    cases a' with
    | nil =>
      obtain ⟨p, cap3, rfl⟩ := old_nil hx
      clear hx hy
      have HE := hid (show acc = com a b by rw [← HCo.out]; simp [com])
      go_wp2_with fail
      go_ret
      exact ⟨_, rfl, by rw [← HE.out]; exact rows_own hown, hbel⟩
    | cons x r =>
      obtain ⟨b1, o1, cp1, rfl, hb1, hn1, c0, c1, hx1, hx2⟩ := old_cons hx
      cases b' with
      | nil =>
        obtain ⟨p, cap3, rfl⟩ := old_nil hy
        clear hx hy hx1 hx2 c0 c1
        have HE := hid (show acc = com a b by rw [← HCo.out]; simp [com])
        have p0 : (0 : Int) < (r.length : Int) + 1 := by omega
        go_wp2_with fail
        go_ret
        exact ⟨_, rfl, by rw [← HE.out]; exact rows_own hown, hbel⟩
      | cons y t =>
        obtain ⟨b2, o2, cp2, rfl, hb2, hn2, d0, d1, hy1, hy2⟩ := old_cons hy
        have HX := hid (fun h => hx1 h)
        have HX2 := hid hx2
        have HY := hid (fun h => hy1 h)
        have HY2 := hid hy2
        have C0 : ∀ v, Below w.heap.size w v → v.cell? ⟨b1, o1, none⟩ = some (.int .u32 (x.1 : Int)) := fun v hv => (hv.cell (p := ⟨b1, o1, none⟩) hb1).trans c0
        have C1 : ∀ v, Below w.heap.size w v → v.cell? ⟨b1, o1 + 1, none⟩ = some (.int .u32 (x.2 : Int)) := fun v hv => (hv.cell (p := ⟨b1, o1 + 1, none⟩) hb1).trans c1
        have D0 : ∀ v, Below w.heap.size w v → v.cell? ⟨b2, o2, none⟩ = some (.int .u32 (y.1 : Int)) := fun v hv => (hv.cell (p := ⟨b2, o2, none⟩) hb2).trans d0
        have D1 : ∀ v, Below w.heap.size w v → v.cell? ⟨b2, o2 + 1, none⟩ = some (.int .u32 (y.2 : Int)) := fun v hv => (hv.cell (p := ⟨b2, o2 + 1, none⟩) hb2).trans d1
        have bx := hid (bd_cons.1 HBD.out.1)
        have bY := hid (bd_cons.1 HBD.out.2)
        have CS := hid (And.intro c1 d1)
        have HXO := hid hx
        have HYO := hid hy
        clear hx hy hx1 hx2 hy1 hy2 c0 c1 d0 d1
        have p0 : (0 : Int) < (r.length : Int) + 1 := by omega
        have p1 : (0 : Int) < (t.length : Int) + 1 := by omega
        go_upto_region 3 with fail
        go_cut [6] (fun s6 wx => s6 = .pointer (some ⟨wr.heap.size, 0, none⟩) ∧ wx = (wr.alloc (.cells #[.int .u32 (max (x.1 : Int) (y.1 : Int)), .int .u32 (min (x.2 : Int) (y.2 : Int))] 45)).drew)
        case first =>
          go_region_held3 (fun v => Below w.heap.size w v) ((first | assumption | go_grown)) (fail)
          all_goals (go_wp2_with fail; go_meet; exact ⟨rfl, rfl⟩)
        case rest =>
          obtain ⟨rfl, rfl⟩ := hcut
          obtain ⟨m, hm⟩ : ∃ m : Iv, m = (max x.1 y.1, min x.2 y.2) := ⟨_, rfl⟩
          have e1 : max (x.1 : Int) (y.1 : Int) = (m.1 : Int) := by rw [hm]; simp only; omega
          have e2 : min (x.2 : Int) (y.2 : Int) = (m.2 : Int) := by rw [hm]; simp only; omega
          have HM := hid hm
          rw [e1, e2]
          clear e1 e2 hm C0 C1 D0 D1
          have b3 : Below w.heap.size w (wr.alloc (.cells #[.int .u32 (m.1 : Int), .int .u32 (m.2 : Int)] 45)).drew := (hbel.alloc hsz _).drew
          have own3 : (wr.alloc (.cells #[.int .u32 (m.1 : Int), .int .u32 (m.2 : Int)] 45)).drew.ownsRow w.heap.size 45 2 u5 acc.length (iv2 acc) := hown.alloc _
          have h3 : (wr.alloc (.cells #[.int .u32 (m.1 : Int), .int .u32 (m.2 : Int)] 45)).drew.heap[wr.heap.size]? = some (.cells #[.int .u32 (m.1 : Int), .int .u32 (m.2 : Int)] 45 (0, 0)) := heap_new wr _
          have s3 := b3.size
          generalize (wr.alloc (.cells #[.int .u32 (m.1 : Int), .int .u32 (m.2 : Int)] 45)).drew = w3 at *
          clear hown hbel
          have hE := fun wx => isEmpty m wx
          obtain ⟨bv, hbv⟩ : ∃ bv, bv = decide (m.2 < m.1) := ⟨_, rfl⟩
          rw [← hbv] at hE
          have HV := hid hbv
          clear hbv
          have hboth : both x y = if m.1 ≤ m.2 then [m] else [] := by rw [HM.out]; rfl
          have HBo := hid hboth
          clear hboth
          obtain ⟨⟨f0, f1⟩, _⟩ := blk_two h3
          have hq : wr.heap.size < w3.heap.size := blk_lt h3
          go_upto_if 36 with (go_at_call 41; refine (hE _).mono ?_; rintro e w4 ⟨rfl, bel4⟩)
          have own4 := own_below own3 bel4 (Nat.le_refl _)
          have b4 := b3.trans (bel4.mono s3)
          have h4 := blk_keep h3 bel4
          have s4 := b4.size
          clear own3 b3 h3 s3 f0 f1 bel4 hE
          obtain ⟨⟨f0, f1⟩, _⟩ := blk_two h4
          go_cut [5] (fun s5 wx => Hid (wx.ownsRow w.heap.size 45 2 s5 (acc ++ both x y).length (iv2 (acc ++ both x y)) ∧ Below w.heap.size w wx ∧ w.heap.size ≤ wx.heap.size))
          case first =>
            cases bv with
            | true =>
              have HR := hid (show acc ++ both x y = acc by rw [HBo.out, if_neg (by have := of_decide_eq_true HV.out.symm; omega), List.append_nil])
              go_wp2_with fail
              go_meet
              rw [HR.out]
              exact hid ⟨own4, b4, s4⟩
            | false =>
              have HR := hid (show both x y = [m] by rw [HBo.out, if_pos (by have := of_decide_eq_false HV.out.symm; omega)])
              go_wp2_with (at_builtin; refine app1 rfl _ _ _ rfl 45 i0 _ 8 Tryd.underlying22 hi hz0 hz1 hz2 rfl (by decide) w.heap.size w w4 u5 acc.length (iv2 acc) [.int .u32 (m.1 : Int), .int .u32 (m.2 : Int)] rfl own4 b4 s4 rfl rfl (by simp [Value.oneCell']) hal ?_; intro v5 w5 own5 bel5 hs5)
              go_meet
              rw [HR.out]
              refine hid ⟨?_, bel5, hs5⟩
              rw [List.length_append, iv2_append]
              exact own5
          case rest =>
            clear own4 b4 s4 f0 f1 h4
            obtain ⟨own5, b5, s5⟩ := hcut.out
            have c1 := (b5.cell (p := ⟨b1, o1 + 1, none⟩) hb1).trans CS.out.1
            have d1 := (b5.cell (p := ⟨b2, o2 + 1, none⟩) hb2).trans CS.out.2
            have RL := hid (own5)
            have HLen : Hid ((acc ++ both x y).length + r.length + 1 + t.length ≤ a.length + b.length) := by
              have h1 := HLe.out
              have h2 : (both x y).length ≤ 1 := by unfold both; split <;> simp
              rw [List.length_cons, List.length_cons] at h1
              show _ ≤ _
              rw [List.length_append]; omega
            have n1 : (1 : Int) ≤ (r.length : Int) + 1 := by omega
            have n2 : (1 : Int) ≤ (t.length : Int) + 1 := by omega
            have n3 : (r.length : Int) + 1 ≤ (cp1 : Int) := by omega
            have n4 : (t.length : Int) + 1 ≤ (cp2 : Int) := by omega
            obtain ⟨g1, rfl⟩ : ∃ g1, gk = g1 + 1 := ⟨gk - 1, by simp at hg; omega⟩
            have hg' : r.length + t.length + 1 ≤ g1 := by simp at hg; omega
            by_cases hlt : x.2 < y.2
            · have HCm := hid (show (acc ++ both x y) ++ com r (y :: t) = com a b by rw [← HCo.out, com_left hlt, List.append_assoc])
              have q1 : decide (x.2 < y.2) = true := decide_eq_true hlt
              clear own5 hcut
              by_cases hcp : cp1 = 1
              · subst hcp
                go_wp2_with fail
                go_quiet (fail)
                go_wp2_with fail
                go_roundg g1
                case measure => omega
                case rel => exact ⟨r, y :: t, by simp; omega, HX.out (by trivial), HYO.out, hid ⟨bx.out.2, HBD.out.2⟩, hid ⟨acc ++ both x y, HCm.out, by have := HLen.out; simp only [List.length_cons] at this ⊢; omega, own_below RL.out (drewN_below _ _ _) (Nat.le_refl _), b5.trans (drewN_below _ _ _), s5⟩⟩
              · go_wp2_with fail
                go_quiet (fail)
                go_wp2_with fail
                go_roundg g1
                case measure => omega
                case rel => exact ⟨r, y :: t, by simp; omega, HX2.out, HYO.out, hid ⟨bx.out.2, HBD.out.2⟩, hid ⟨acc ++ both x y, HCm.out, by have := HLen.out; simp only [List.length_cons] at this ⊢; omega, own_below RL.out (drewN_below _ _ _) (Nat.le_refl _), b5.trans (drewN_below _ _ _), s5⟩⟩
            · have HCm := hid (show (acc ++ both x y) ++ com (x :: r) t = com a b by rw [← HCo.out, com_right hlt, List.append_assoc])
              have q1 : decide (x.2 < y.2) = false := decide_eq_false hlt
              clear own5 hcut
              by_cases hcp : cp2 = 1
              · subst hcp
                go_wp2_with fail
                go_quiet (fail)
                go_wp2_with fail
                go_roundg g1
                case measure => omega
                case rel => exact ⟨x :: r, t, by simp; omega, HXO.out, HY.out (by trivial), hid ⟨HBD.out.1, bY.out.2⟩, hid ⟨acc ++ both x y, HCm.out, by have := HLen.out; simp only [List.length_cons] at this ⊢; omega, own_below RL.out (drewN_below _ _ _) (Nat.le_refl _), b5.trans (drewN_below _ _ _), s5⟩⟩
              · go_wp2_with fail
                go_quiet (fail)
                go_wp2_with fail
                go_roundg g1
                case measure => omega
                case rel => exact ⟨x :: r, t, by simp; omega, HXO.out, HY2.out, hid ⟨HBD.out.1, bY.out.2⟩, hid ⟨acc ++ both x y, HCm.out, by have := HLen.out; simp only [List.length_cons] at this ⊢; omega, own_below RL.out (drewN_below _ _ _) (Nat.le_refl _), b5.trans (drewN_below _ _ _), s5⟩⟩
end Go.Proofs.YtmcoccfbbhnmfaaDoor.Iw
