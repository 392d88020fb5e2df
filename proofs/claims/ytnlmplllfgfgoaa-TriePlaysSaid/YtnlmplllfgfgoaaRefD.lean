/-
  THE REFERENCE TABLE's Delete AND Insert.
-/
import Derived.Test.YtnlmplllfgfgoaaRefA
import Derived.Deep.RegionLaw
namespace Go.Proofs.Ytnlmplllfgfgoaa.Ad
set_option linter.unusedSimpArgs false
set_option linter.unusedVariables false
open Go.RowKit Am Kt Tp Tm Tr

/-- What a change of the reference leaves: its box, its row's block and new blocks alone are written. -/
structure Chg (w : World) (mb : Nat) (v : Value) (w' : World) (v' : Value) : Prop where
  keep : Keep (mb :: v.ownBlock.toList) w w'
  new : ∀ g, v'.ownBlock = some g → v.ownBlock = some g ∨ w.heap.size ≤ g
def RefPost (w : World) (n0 mb : Nat) (v : Value) (b : Bool) (L' : List En) (e : Ending) (w' : World) : Prop := e = .returned (.bool b) ∧ ∃ v', Ref w' n0 mb v' L' ∧ Chg w mb v w' v'
theorem chg_below {w w' : World} {mb : Nat} {v : Value} (h : Below w.heap.size w w') : Chg w mb v w' v := ⟨(Keep.of h), fun g hg => .inl hg⟩

theorem own_kept {S : List Nat} {w w' : World} {B e z n : Nat} {v : Value} {xs : List Value} (h : w.ownsRow B e z v n xs) (k : Keep S w w') (hS : ∀ g, v.ownBlock = some g → g ∉ S) : w'.ownsRow B e z v n xs := by
  obtain ⟨h1, h2⟩ := h
  refine ⟨h1, ?_⟩
  rcases h2 with h2 | ⟨g, cap, cur, rfl, hg, hh, r⟩
  · exact .inl h2
  · refine .inr ⟨g, cap, cur, rfl, hg, ?_, r⟩
    rw [k.block g (blk_lt hh) (hS g rfl)]; exact hh
/-- A new row in the reference's box. -/
theorem ref_done {w w3 : World} {n0 mb B : Nat} {v v3 : Value} {L L' : List En} (h : Ref w n0 mb v L) (hn0 : n0 ≤ w.heap.size) (hB : w.heap.size ≤ B) (b3 : Below w.heap.size w w3)
    (own3 : w3.ownsRow B 51 3 v3 L'.length (fl eEn L')) : RefPost w n0 mb v true L' (.returned (.bool true)) (w3.setCell ⟨mb, 0, none⟩ v3) := by
  have hmb := blk_lt h.box
  have hk : Keep [mb] w3 (w3.setCell ⟨mb, 0, none⟩ v3) := (Keep.refl _ _).setCell (.inl (by simp)) _
  refine ⟨rfl, v3, ⟨?_, ?_, h.lo⟩, ?_, ?_⟩
  · have := heap_setCell_same w3 mb 0 _ _ v3 (blk_keep h.box b3)
    simpa using this
  · refine own_less (own_kept own3 hk fun g hg hm => ?_) (Nat.le_trans hn0 hB)
    have := (own3.lt g hg).1
    simp at hm
    omega
  · exact (Keep.of b3).setCell (.inl (by simp)) _
  · exact fun g hg => .inr (Nat.le_trans hB (own3.lt g hg).1)
theorem own_slice {w : World} {B e z n : Nat} {v : Value} {xs : List Value} (h : w.ownsRow B e z v n xs) : ∃ a l c, v = .slice a l c := by
  rcases h.2 with ⟨rfl, _⟩ | ⟨g, cap, cur, rfl, _⟩
  · exact ⟨_, _, _, rfl⟩
  · exact ⟨_, _, _, rfl⟩
theorem fl_take {α : Type} {f : α → List Value} {z : Nat} (hz : ∀ x, (f x).length = z) : ∀ (l : List α) (k : Nat), fl f (l.take k) = (fl f l).take (k * z)
  | [], k => by simp [fl]
  | x :: l, 0 => by simp [fl]
  | x :: l, k + 1 => by
    have ih := fl_take hz l k
    simp only [fl, List.take_succ_cons, List.flatMap_cons] at ih ⊢
    rw [ih, Nat.add_mul, Nat.one_mul, List.take_append, hz x, List.take_of_length_le (l := f x) (by rw [hz x]; omega), Nat.add_sub_cancel]
theorem rows_take {w : World} {L : List En} {b off n cap k : Nat} (hn : n = L.length) (hk : k ≤ n) (hc : ∀ j u, (fl eEn L)[j]? = some u → w.cell? ⟨b, off + j, none⟩ = some u) (hcap : n ≤ cap) (c : Nat) (hkc : k ≤ c) :
    Tm.Rows w 3 (.slice (some ⟨b, off, none⟩) k c) k (fl eEn (L.take k)) := by
  refine rows_at (by rw [fl_len eEn_len, List.length_take]; omega) hkc fun j u hj => hc j u ?_
  rw [fl_take eEn_len] at hj
  rw [List.getElem?_take] at hj
  split at hj
  · exact hj
  · cases hj
theorem fl_drop {α : Type} {f : α → List Value} {z : Nat} (hz : ∀ x, (f x).length = z) : ∀ (l : List α) (k : Nat), fl f (l.drop k) = (fl f l).drop (k * z)
  | [], k => by simp [fl]
  | x :: l, 0 => by simp [fl]
  | x :: l, k + 1 => by
    have ih := fl_drop hz l k
    simp only [fl, List.drop_succ_cons, List.flatMap_cons] at ih ⊢
    rw [ih, Nat.add_mul, Nat.one_mul, List.drop_append, hz x, List.drop_eq_nil_of_le (show (f x).length ≤ k * z + z by rw [hz x]; omega), Nat.add_sub_cancel, List.nil_append]
theorem rows_drop {w : World} {L : List En} {b off n k : Nat} (hn : n = L.length) (hk : k ≤ n) (hc : ∀ j u, (fl eEn L)[j]? = some u → w.cell? ⟨b, off + j, none⟩ = some u) (c : Nat) (hkc : n - k ≤ c) :
    Tm.Rows w 3 (.slice (some ⟨b, off + k * 3, none⟩) (n - k) c) (n - k) (fl eEn (L.drop k)) := by
  refine rows_at (by rw [fl_len eEn_len, List.length_drop]; omega) hkc fun j u hj => ?_
  rw [fl_drop eEn_len, List.getElem?_drop] at hj
  have := hc (k * 3 + j) u hj
  rwa [← Nat.add_assoc] at this

set_option maxHeartbeats 8000000 in
set_option maxRecDepth 100000 in
theorem refDel_no (n0 mb : Nat) (v : Value) (L : List En) (a : Nat) (n : Int) (w : World) (h : Ref w n0 mb v L) (hl : L.length ≤ 1000000) (hno : ∀ y ∈ L, eqB a n y = false) :
    Calls Try.prog 10 #[pt mb, px a n] w (RefPost w n0 mb v false L) := by
  have al := al1 w (.cells #[.int .u32 (a : Int), .int .i64 n] 31)
  have hA := refAt n0 mb v L a n _ (h.below al) hl
  rw [atV_no hno] at hA
  have HR := hid h
  have AL := hid al
  clear h hno al
  go_enter Try.func10, Try.ntmps10
  go_wp2_with fail
  refine hA.mono ?_
  rintro e w1 ⟨rfl, b1⟩
  go_wp2_with fail
  go_ret
  exact ⟨rfl, _, HR.out.below (then_ AL.out b1), chg_below (then_ AL.out b1)⟩

set_option maxHeartbeats 8000000 in
set_option maxRecDepth 100000 in
theorem refDel_yes (n0 mb : Nat) (v : Value) (A B : List En) (x : En) (w : World) (h : Ref w n0 mb v (A ++ x :: B)) (hn0 : n0 ≤ w.heap.size) (hs : Srt (A ++ x :: B)) (hl : (A ++ x :: B).length ≤ 1000000) :
    Calls Try.prog 10 #[pt mb, px x.1.1 (x.1.2 : Int)] w (RefPost w n0 mb v true (A ++ B)) := by
  have al := al1 w (.cells #[.int .u32 (x.1.1 : Int), .int .i64 (x.1.2 : Int)] 31)
  have hA := refAt n0 mb v _ x.1.1 (x.1.2 : Int) _ (h.below al) hl
  obtain ⟨k, hk⟩ : ∃ k, k = A.length := ⟨_, rfl⟩
  have hat : atV (A ++ x :: B) x.1.1 (x.1.2 : Int) = k := by
    refine atV_at (x := x) (by rw [hk]; simp) (by simp [eqB]) fun i y hi hy => ?_
    have hyA : y ∈ A := by
      rw [List.getElem?_append_left (by omega)] at hy
      exact List.mem_of_getElem? hy
    have := (srt_mid hs).1 y hyA
    unfold eqB
    simp only [decide_eq_false_iff_not]
    rintro ⟨h1, h2⟩
    exact lt_irrefl x.1 (by have e : y.1 = x.1 := Prod.ext h1 (by omega); rwa [e] at this)
  rw [hat] at hA
  obtain ⟨L, hL⟩ : ∃ L, L = A ++ x :: B := ⟨_, rfl⟩
  have htk : L.take k = A := by rw [hL, hk]; simp
  have hdr : L.drop (k + 1) = B := by rw [hL, hk]; simp
  have hkl : k < L.length := by rw [hL, hk]; simp
  rw [← hL] at h hl
  obtain ⟨m, hm⟩ : ∃ m, m = L.length := ⟨_, rfl⟩
  rw [← hm] at hkl hl
  obtain ⟨p1, cap, rfl, hnc, X⟩ := rows_open (by decide) (rows_own h.row)
  rw [← hm] at X hnc h ⊢
  obtain ⟨b6, off6, rfl, hbl6, hc6⟩ := X (by omega)
  have c0 := h.cell
  have hmb := blk_lt h.box
  have HR := hid h
  have HC := hid hc6
  have HM := hid hm
  have HT := hid htk
  have HD := hid hdr
  have AL := hid al
  have hmb2 := Nat.lt_of_lt_of_le hmb al.size
  have C0 := hid ((al.cell (p := ⟨mb, 0, none⟩) hmb).trans c0)
  clear c0 al X h hc6 hm htk hdr hat hs hL hk
  go_enter Try.func10, Try.ntmps10
  go_wp2_with fail
  refine hA.mono ?_
  rintro e w1 ⟨rfl, b1⟩
  have hki : (k : Int) < (m : Int) := by omega
  have hk0 : ¬ (k : Int) < 0 := by omega
  have c1 := (b1.cell (p := ⟨mb, 0, none⟩) hmb2).trans C0.out
  go_wp2_with fail
  have C1 := hid c1
  have e1 : (w1.alloc (.cells #[] 51)).drew.cell? ⟨mb, 0, none⟩ = some (.slice (some ⟨b6, off6, none⟩) m cap) := ((al1 w1 _).cell (p := ⟨mb, 0, none⟩) (Nat.lt_of_lt_of_le hmb2 b1.size)).trans c1
  have hk1 : (0 : Int) ≤ (k : Int) := by omega
  have hk2 : (k : Int) ≤ (m : Int) := by omega
  have hk3 : (k : Int) ≤ (cap : Int) := by omega
  have hk4 : IntKind.i64.wrap ((k : Int) + 1) = (k : Int) + 1 := by rw [IntKind.wrap_i64]; omega
  have hk5 : (0 : Int) ≤ (k : Int) + 1 := by omega
  have hk6 : (k : Int) + 1 ≤ (m : Int) := by omega
  have hk7 : (m : Int) ≤ (cap : Int) := by omega
  have hb6 := Nat.lt_of_lt_of_le (Nat.lt_of_lt_of_le hbl6 AL.out.size) b1.size
  have hcW : ∀ j u, (fl eEn L)[j]? = some u → (w1.alloc (.cells #[] 51)).drew.cell? ⟨b6, off6 + j, none⟩ = some u := fun j u hj =>
    ((then_ (then_ AL.out b1) (al1 w1 (.cells #[] 51))).cell (p := ⟨b6, off6 + j, none⟩) hbl6).trans (HC.out j u hj)
  have r1 := rows_take HM.out (by omega : k ≤ m) hcW hnc cap (by omega)
  rw [HT.out] at r1
  have own1 := own_new w1 [] 51 3 w1.heap.size 0 rfl (by decide) (Nat.le_refl _)
  have rd : ∀ w2, Below w1.heap.size (w1.alloc (.cells #[] 51)).drew w2 → Tm.Rows w2 3 (.slice (if cap = k + 1 then some ⟨b6, off6, none⟩ else some ⟨b6, off6 + (k + 1) * 3, none⟩) (m - (k + 1)) (cap - (k + 1))) (m - (k + 1)) (fl eEn B) := fun w2 hb => by
    have := rows_drop (w := w2) HM.out (by omega : k + 1 ≤ m) (fun j u hj => (hb.cell (p := ⟨b6, off6 + j, none⟩) hb6).trans (hcW j u hj)) (cap - (k + 1)) (by omega)
    rw [HD.out] at this
    split
    · have hz : m - (k + 1) = 0 := by omega
      have hB : B = [] := by rw [← HD.out]; exact List.drop_eq_nil_of_le (by have := HM.out; omega)
      rw [hz, hB]
      exact rows_zero
    · exact this
  have RD := hid rd
  have hmb3 := Nat.lt_of_lt_of_le hmb2 b1.size
  have E1 := hid e1
  have XB := hid (blk_keep (blk_keep (blk_keep HR.out.box AL.out) b1) (al1 w1 (.cells #[] 51)))
  have hB1 : w1.heap.size ≤ (w1.alloc (.cells #[] 51)).drew.heap.size := by show _ ≤ (w1.alloc _).heap.size; simp
  clear rd hcW
  obtain ⟨i0, hi0, hz0, hz1, hz2⟩ := info_parts enInfo
  go_region_law (first
    | (refine step2 (by rfl) _ _ _ (by rfl) 51 i0 _ 3 24 Try.underlying26 hi0 hz0 hz1 hz2 (by rfl) (by decide) (by decide) w1.heap.size _ _ _ 0 k [] (fl eEn A) (by rfl) own1 hB1 (by rfl) r1 (fl_oneCell eEn_one _) (by omega) (by omega) ?_; intro v2 w2 own2 bel2 keep2; have r2 := RD.out w2 bel2; have e2 := (bel2.cell (p := ⟨mb, 0, none⟩) hmb3).trans E1.out)
    | (refine step2 (by rfl) _ _ _ (by rfl) 51 i0 _ 3 24 Try.underlying26 hi0 hz0 hz1 hz2 (by rfl) (by decide) (by decide) w1.heap.size _ _ _ (0 + k) (m - (k + 1)) ([] ++ fl eEn A) (fl eEn B) (by rfl) own2 (Nat.le_trans hB1 bel2.size) (by rfl) r2 (fl_oneCell eEn_one _) (by omega) (by omega) ?_; intro v3 w3 own3 bel3 keep3; have e3 := (bel3.cell (p := ⟨mb, 0, none⟩) hmb3).trans e2; have f3 := blk_frozen ((bel3.block mb hmb3).trans ((bel2.block mb hmb3).trans XB.out)) 0; obtain ⟨a3, l3, c3, rfl⟩ := own_slice own3)
    | fail)
  all_goals
    have own4 : w3.ownsRow w1.heap.size 51 3 (.slice a3 l3 c3) (A ++ B).length (fl eEn (A ++ B)) := by
      rw [fl_append, List.length_append]
      have h1 : A.length = k := by rw [← HT.out, List.length_take]; have := HM.out; omega
      have h2 : B.length = m - (k + 1) := by rw [← HD.out, List.length_drop]; have := HM.out; omega
      rw [h1, h2]
      simpa using own3
    have hs1 : w.heap.size ≤ w1.heap.size := Nat.le_trans AL.out.size b1.size
    have b4 : Below w.heap.size w w3 := ((then_ (then_ AL.out b1) (al1 w1 (.cells #[] 51))).drew.trans (bel2.mono hs1)).trans (bel3.mono hs1)
    have HF := hid (ref_done HR.out hn0 hs1 b4 own4)
    clear own3 own4 bel2 bel3 keep2 keep3 r2 e2 e3 f3 own2 b4
    go_wp2_with fail
    all_goals
      go_ret
      first | exact HF.out | (have hcq : cap = k + 1 := by assumption
                              subst hcq; exact HF.out)

theorem refDel (n0 mb : Nat) (v : Value) (L : List En) (a : Nat) (n : Int) (w : World) (h : Ref w n0 mb v L) (hn0 : n0 ≤ w.heap.size) (hs : Srt L) (ho : Oks L) (hl : L.length ≤ 1000000) :
    Calls Try.prog 10 #[pt mb, px a n] w (RefPost w n0 mb v (getV L a n).isSome (delF L a n)) := by
  rcases atV_cases L a n with ⟨_, h2⟩ | ⟨k, x, _, h2, h3, h4⟩
  · have hg := getV_nat hs h2
    have hd : delF L a n = L := by unfold delF; rw [hg]; rfl
    rw [hg, hd]
    exact refDel_no n0 mb v L a n w h hl h2
  · have hx := List.mem_of_getElem? h2
    have hg : getV L x.1.1 (x.1.2 : Int) = some x.2 := getV_mem hs ho hx
    have hd : delF L x.1.1 (x.1.2 : Int) = del L x.1 := delF_yes (v := x.2) hs ho hx
    obtain ⟨A, B, rfl⟩ := List.append_of_mem hx
    rw [← h3, ← h4, hg, hd, del_mid hs]
    exact refDel_yes n0 mb v A B x w h hn0 hs hl
end Go.Proofs.Ytnlmplllfgfgoaa.Ad
