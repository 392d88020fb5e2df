/-
  WHAT THE LAWS SHARE: tables built of lists, the sanity check, equal lists of entries.
-/
import Derived.Test.YtnlmplllfgfgoaaTriO
import Derived.Test.YtnlmplllfgfgoaaTriG
import Derived.Deep.RegionWith
import Derived.Deep.QuietTactic
namespace Go.Proofs.Ytnlmplllfgfgoaa.Ad
set_option linter.unusedSimpArgs false
set_option linter.unusedVariables false
open Go.RowKit Am Kt Tp Tm Tr

/-- One more entry, as Insert takes it. -/
def insF (L : List En) (x : REn) : List En := if validB x.1.1 x.1.2 = true then ins L (x.1.1, x.1.2.toNat) x.2 else L
def bldL (l : List REn) : List En := l.foldl insF []
theorem insF_len {L : List En} (h : Srt L) (x : REn) : (insF L x).length ≤ L.length + 1 := by
  unfold insF
  split
  · cases hg : getL L (x.1.1, x.1.2.toNat) with
    | none => rw [ins_len_new h _ hg]; exact Nat.le_refl _
    | some v => rw [ins_len_old h _ ((getL_some h).1 hg)]; omega
  · omega
theorem insF_srt {L : List En} (h : Srt L) (x : REn) : Srt (insF L x) := by
  unfold insF
  split
  · exact srt_ins h _ _
  · exact h
theorem bldL_snoc (l : List REn) (x : REn) : bldL (l ++ [x]) = insF (bldL l) x := by unfold bldL; rw [List.foldl_append]; rfl
theorem bldL_srt (l : List REn) : Srt (bldL l) := by
  have : ∀ (l : List REn) (L : List En), Srt L → Srt (l.foldl insF L) := fun l => by
    induction l with
    | nil => exact fun L h => h
    | cons x l ih => exact fun L h => ih _ (insF_srt h x)
  exact this l [] List.Pairwise.nil
theorem bldL_len (l : List REn) : (bldL l).length ≤ l.length := by
  have : ∀ (l : List REn) (L : List En), Srt L → (l.foldl insF L).length ≤ L.length + l.length := fun l => by
    induction l with
    | nil => exact fun L _ => Nat.le_refl _
    | cons x l ih =>
      intro L h
      have h1 := ih _ (insF_srt h x)
      have h2 := insF_len h x
      simp only [List.foldl_cons, List.length_cons]
      omega
  have h := this l [] List.Pairwise.nil
  unfold bldL
  simpa using h
def BdE (l : List REn) : Prop := ∀ x ∈ l, x.1.1 < 4294967296
/-- What 'built' hands back. -/
def BltPost (w : World) (l : List REn) (e : Ending) (w' : World) : Prop :=
  ∃ tb T, e = .returned (pt tb) ∧ Tab w' tb T (bldL l) ∧ Below w.heap.size w w' ∧ ∀ c ∈ T.blocks, w.heap.size ≤ c
theorem rEn_cells {w : World} {b off : Nat} {s : List REn} (hc : ∀ j u, (fl rEn s)[j]? = some u → w.cell? ⟨b, off + j, none⟩ = some u) {k : Nat} {x : REn} (hk : s[k]? = some x) :
    w.cell? ⟨b, off + k * 3, none⟩ = some (.int .u32 (x.1.1 : Int)) ∧ w.cell? ⟨b, off + k * 3 + 1, none⟩ = some (.int .i64 x.1.2) ∧ w.cell? ⟨b, off + k * 3 + 2, none⟩ = some (.int .i64 x.2) := by
  have h := row_cells rEn_len hc hk
  exact ⟨h 0 _ rfl, h 1 _ rfl, h 2 _ rfl⟩

set_option maxHeartbeats 4000000 in
set_option maxRecDepth 100000 in
theorem built (v : Value) (l : List REn) (w : World) (h : IsRow rEn 3 w v l) (hbd : BdE l) (hl : l.length ≤ 1000) :
    Calls Try.prog 24 #[v, .bool false] w (BltPost w l) := by
  obtain ⟨seq, hseq⟩ : ∃ seq, seq = l := ⟨_, rfl⟩
  have hsl : seq.length = l.length := by rw [hseq]
  rw [← hseq]
  obtain ⟨n, hn⟩ : ∃ n, n = l.length := ⟨_, rfl⟩
  have h := row_n h hn
  obtain ⟨p1, cap, rfl, hnc, X⟩ := rows_open (by decide) h
  rw [← hn] at hl hsl
  have HL := hid hn
  have HSeq := hid hseq
  have HSl := hid hsl
  have HBd := hid hbd
  have HX := hid X
  clear h X hn hseq hsl hbd
  go_enter Try.func24, Try.ntmps24
  go_wp2_with fail
  refine (new _).mono ?_
  rintro e w1 ⟨rfl, ht, hb1, hs1⟩
  have HT := hid (And.intro ht (And.intro hb1 hs1))
  obtain ⟨tb, htb⟩ : ∃ tb, tb = w.heap.size := ⟨_, rfl⟩
  have HTB := hid htb
  rw [← htb] at ht ⊢
  clear ht hb1 hs1 htb
  go_wp2_with fail
  go_loopg [6] n (fun gg i wr => ∃ (k : Nat) (T : Tr), k + gg = n ∧ i = .int .i64 k ∧ Tab wr tb T (bldL (seq.take k)) ∧ Below w.heap.size w wr ∧ (∀ c ∈ T.blocks, w.heap.size ≤ c))
  case atStart =>
    refine ⟨0, .node tb none .nil .nil, by omega, rfl, ?_, HT.out.2.1, fun c hc => ?_⟩
    · rw [HTB.out]; exact HT.out.1
    · simp [Tr.blocks] at hc; rw [hc, HTB.out]; exact Nat.le_refl _
  case round =>
    obtain ⟨k, T, hk, rfl, htab, hbel, hnew⟩ := hrel
    have HR := hid (And.intro htab (And.intro hbel hnew))
    clear htab hbel hnew
    cases gk with
    | zero =>
      have hlt : ¬ ((k : Int) < (n : Int)) := by omega
      have hkn : k = n := by omega
      go_wp2_with fail
      go_ret
      refine ⟨tb, T, rfl, ?_, HR.out.2.1, HR.out.2.2⟩
      have := HR.out.1
      rwa [List.take_of_length_le (by rw [HSl.out]; omega)] at this
    | succ g1 =>
      have hkn : k < n := by omega
      have hlt : (k : Int) < (n : Int) := by omega
      obtain ⟨b, off, rfl, hbl, hc⟩ := HX.out (by omega)
      have hx : seq[k]? = some (l[k]'(by rw [← HL.out]; exact hkn)) := by rw [HSeq.out]; exact List.getElem?_eq_getElem _
      obtain ⟨x, hxe⟩ : ∃ x, x = (l[k]'(by rw [← HL.out]; exact hkn)) := ⟨_, rfl⟩
      have hlx : l[k]? = some x := by rw [hxe]; exact List.getElem?_eq_getElem _
      rw [← hxe] at hx
      obtain ⟨c0, c1, c2⟩ := rEn_cells hc hlx
      have hxb := HBd.out x (List.mem_of_getElem? hlx)
      have c0 := (HR.out.2.1.cell (p := ⟨b, off + k * 3, none⟩) hbl).trans c0
      have c1 := (HR.out.2.1.cell (p := ⟨b, off + k * 3 + 1, none⟩) hbl).trans c1
      have c2 := (HR.out.2.1.cell (p := ⟨b, off + k * 3 + 2, none⟩) hbl).trans c2
      have htk : seq.take (k + 1) = seq.take k ++ [x] := by
        obtain ⟨hlt2, he⟩ := List.getElem?_eq_some_iff.1 hx
        rw [List.take_succ_eq_append_getElem hlt2, he]
      have hll : (bldL (seq.take k)).length ≤ 1000000 := by
        have := bldL_len (seq.take k)
        rw [List.length_take] at this; omega
      have HTk := hid htk
      have hIns : ∀ wx, Below wr.heap.size wr wx → Calls Try.prog 18 #[pt tb, px x.1.1 x.1.2, .int .i64 x.2] wx (InsPost wx tb T (bldL (seq.take k)) x.1.1 x.1.2 x.2) := fun wx hx => insert tb x.1.1 x.1.2 x.2 T _ wx (HR.out.1.below hx) hxb hll
      have hw : Hid (Below wr.heap.size wr wr.drew) := (Below.refl _ wr).drew
      clear hc hx hxe hlx htk hll
      go_upto_region 7 with fail
      go_region_with (go_at_call 18; refine (hIns _ hw.out).mono ?_; rintro e w2 ⟨rfl, T2, hP⟩; have HP := hid hP; clear hP)
      all_goals go_wp2_with fail
      all_goals go_roundg g1
      all_goals first | (case measure => omega) | skip
      all_goals
        have hk2 := HP.out.2.1
        refine ⟨k + 1, T2, by omega, by go_num, ?_, HR.out.2.1.trans (Keep.below (w := wr) ⟨hk2.os, hk2.tape, hk2.output, hk2.size, hk2.block⟩ HR.out.2.2 HR.out.2.1.size), fun c hc => ?_⟩
        · rw [HTk.out, bldL_snoc]; exact HP.out.1
        · exact (HP.out.2.2 c hc).elim (HR.out.2.2 c) (fun h => Nat.le_trans HR.out.2.1.size h)

set_option maxHeartbeats 4000000 in
set_option maxRecDepth 100000 in
theorem built_back (v : Value) (l : List REn) (w : World) (h : IsRow rEn 3 w v l) (hbd : BdE l) (hl : l.length ≤ 1000) :
    Calls Try.prog 24 #[v, .bool true] w (BltPost w l.reverse) := by
  obtain ⟨seq, hseq⟩ : ∃ seq, seq = l.reverse := ⟨_, rfl⟩
  have hsl : seq.length = l.length := by rw [hseq]; exact List.length_reverse
  rw [← hseq]
  obtain ⟨n, hn⟩ : ∃ n, n = l.length := ⟨_, rfl⟩
  have h := row_n h hn
  obtain ⟨p1, cap, rfl, hnc, X⟩ := rows_open (by decide) h
  rw [← hn] at hl hsl
  have HL := hid hn
  have HSeq := hid hseq
  have HSl := hid hsl
  have HBd := hid hbd
  have HX := hid X
  clear h X hn hseq hsl hbd
  go_enter Try.func24, Try.ntmps24
  go_wp2_with fail
  refine (new _).mono ?_
  rintro e w1 ⟨rfl, ht, hb1, hs1⟩
  have HT := hid (And.intro ht (And.intro hb1 hs1))
  obtain ⟨tb, htb⟩ : ∃ tb, tb = w.heap.size := ⟨_, rfl⟩
  have HTB := hid htb
  rw [← htb] at ht ⊢
  clear ht hb1 hs1 htb
  go_wp2_with fail
  go_loopg [6] n (fun gg i wr => ∃ (k : Nat) (T : Tr), k + gg = n ∧ i = .int .i64 k ∧ Tab wr tb T (bldL (seq.take k)) ∧ Below w.heap.size w wr ∧ (∀ c ∈ T.blocks, w.heap.size ≤ c))
  case atStart =>
    refine ⟨0, .node tb none .nil .nil, by omega, rfl, ?_, HT.out.2.1, fun c hc => ?_⟩
    · rw [HTB.out]; exact HT.out.1
    · simp [Tr.blocks] at hc; rw [hc, HTB.out]; exact Nat.le_refl _
  case round =>
    obtain ⟨k, T, hk, rfl, htab, hbel, hnew⟩ := hrel
    have HR := hid (And.intro htab (And.intro hbel hnew))
    clear htab hbel hnew
    cases gk with
    | zero =>
      have hlt : ¬ ((k : Int) < (n : Int)) := by omega
      have hkn : k = n := by omega
      go_wp2_with fail
      go_ret
      refine ⟨tb, T, rfl, ?_, HR.out.2.1, HR.out.2.2⟩
      have := HR.out.1
      rwa [List.take_of_length_le (by rw [HSl.out]; omega)] at this
    | succ g1 =>
      have hkn : k < n := by omega
      have hlt : (k : Int) < (n : Int) := by omega
      obtain ⟨b, off, rfl, hbl, hc⟩ := HX.out (by omega)
      have hx : seq[k]? = some (l[n - 1 - k]'(by rw [← HL.out]; omega)) := by
        have h1 := List.getElem?_reverse (l := l) (i := k) (by rw [← HL.out]; exact hkn)
        have h2 : l.length - 1 - k = n - 1 - k := by rw [← HL.out]
        rw [HSeq.out, h1, h2]
        exact List.getElem?_eq_getElem _
      obtain ⟨x, hxe⟩ : ∃ x, x = (l[n - 1 - k]'(by rw [← HL.out]; omega)) := ⟨_, rfl⟩
      have hlx : l[n - 1 - k]? = some x := by rw [hxe]; exact List.getElem?_eq_getElem _
      rw [← hxe] at hx
      obtain ⟨c0, c1, c2⟩ := rEn_cells hc hlx
      obtain ⟨j, hj⟩ : ∃ j : Nat, j = n - 1 - k := ⟨_, rfl⟩
      rw [← hj] at c0 c1 c2
      have hjn : (n : Int) - 1 - (k : Int) = (j : Int) := by omega
      have n1 : IntKind.i64.wrap ((n : Int) - 1) = (n : Int) - 1 := IntWalk.i64_in _ (by omega)
      have n2 : IntKind.i64.wrap ((n : Int) - 1 - (k : Int)) = (j : Int) := by rw [hjn]; exact IntWalk.i64_in _ (by omega)
      have hjlt : (j : Int) < (n : Int) := by omega
      have hjlt2 : j < n := by omega
      have hj0 : (0 : Int) ≤ (j : Int) := by omega
      clear hj hjn
      have hxb := HBd.out x (List.mem_of_getElem? hlx)
      have c0 := (HR.out.2.1.cell (p := ⟨b, off + j * 3, none⟩) hbl).trans c0
      have c1 := (HR.out.2.1.cell (p := ⟨b, off + j * 3 + 1, none⟩) hbl).trans c1
      have c2 := (HR.out.2.1.cell (p := ⟨b, off + j * 3 + 2, none⟩) hbl).trans c2
      have htk : seq.take (k + 1) = seq.take k ++ [x] := by
        obtain ⟨hlt2, he⟩ := List.getElem?_eq_some_iff.1 hx
        rw [List.take_succ_eq_append_getElem hlt2, he]
      have hll : (bldL (seq.take k)).length ≤ 1000000 := by
        have := bldL_len (seq.take k)
        rw [List.length_take] at this; omega
      have HTk := hid htk
      have hIns : ∀ wx, Below wr.heap.size wr wx → Calls Try.prog 18 #[pt tb, px x.1.1 x.1.2, .int .i64 x.2] wx (InsPost wx tb T (bldL (seq.take k)) x.1.1 x.1.2 x.2) := fun wx hx => insert tb x.1.1 x.1.2 x.2 T _ wx (HR.out.1.below hx) hxb hll
      have hw : Hid (Below wr.heap.size wr wr.drew) := (Below.refl _ wr).drew
      clear hc hx hxe hlx htk hll
      go_upto_region 6 with fail
      go_region_with (go_at_call 18; refine (hIns _ hw.out).mono ?_; rintro e w2 ⟨rfl, T2, hP⟩; have HP := hid hP; clear hP)
      all_goals go_wp2_with fail
      all_goals go_roundg g1
      all_goals first | (case measure => omega) | skip
      all_goals
        have hk2 := HP.out.2.1
        refine ⟨k + 1, T2, by omega, by go_num, ?_, HR.out.2.1.trans (Keep.below (w := wr) ⟨hk2.os, hk2.tape, hk2.output, hk2.size, hk2.block⟩ HR.out.2.2 HR.out.2.1.size), fun c hc => ?_⟩
        · rw [HTk.out, bldL_snoc]; exact HP.out.1
        · exact (HP.out.2.2 c hc).elim (HR.out.2.2 c) (fun h => Nat.le_trans HR.out.2.1.size h)

theorem eEn_cells {w : World} {b off : Nat} {s : List En} (hc : ∀ j u, (fl eEn s)[j]? = some u → w.cell? ⟨b, off + j, none⟩ = some u) {k : Nat} {x : En} (hk : s[k]? = some x) :
    w.cell? ⟨b, off + k * 3, none⟩ = some (.int .u32 (x.1.1 : Int)) ∧ w.cell? ⟨b, off + k * 3 + 1, none⟩ = some (.int .i64 (x.1.2 : Int)) ∧ w.cell? ⟨b, off + k * 3 + 2, none⟩ = some (.int .i64 x.2) := by
  have h := row_cells eEn_len hc hk
  exact ⟨h 0 _ rfl, h 1 _ rfl, h 2 _ rfl⟩
theorem ePx_cells {w : World} {b off : Nat} {s : List Px} (hc : ∀ j u, (fl ePx s)[j]? = some u → w.cell? ⟨b, off + j, none⟩ = some u) {k : Nat} {x : Px} (hk : s[k]? = some x) :
    w.cell? ⟨b, off + k * 2, none⟩ = some (.int .u32 (x.1 : Int)) ∧ w.cell? ⟨b, off + k * 2 + 1, none⟩ = some (.int .i64 (x.2 : Int)) := by
  have h := row_cells ePx_len hc hk
  exact ⟨h 0 _ rfl, h 1 _ rfl⟩
def BoolPost (b : Bool) (w : World) (e : Ending) (w' : World) : Prop := e = .returned (.bool b) ∧ Below w.heap.size w w'

set_option maxHeartbeats 1000000 in
theorem keepEn (v1 v2 : Value) (s : List En) (w : World) (h1 : IsRow eEn 3 w v1 s) (h2 : IsRow eEn 3 w v2 s) (hs : s.length ≤ 1000000) :
    Calls Try.prog 21 #[v1, v2] w (BoolPost true w) := by
  obtain ⟨n, hn⟩ : ∃ n, n = s.length := ⟨_, rfl⟩
  have h1 := row_n h1 hn
  have h2 := row_n h2 hn
  obtain ⟨p1, cap1, rfl, _, X⟩ := rows_open (by decide) h1
  obtain ⟨p2, cap2, rfl, _, Y⟩ := rows_open (by decide) h2
  rw [← hn] at hs
  have HL := hid hn
  have HX := hid X
  have HY := hid Y
  clear h1 h2 X Y hn
  go_enter Try.func21, Try.ntmps21
  go_wp2
  go_loopw [5] (fun i wr => ∃ k q : Nat, k ≤ n ∧ i = .int .i64 k ∧ wr = w.drewN q) (fun i _ => n - (intOf i).toNat)
  case atStart => exact ⟨0, 0, by omega, rfl, rfl⟩
  case round =>
    obtain ⟨k, q, hk, rfl, rfl⟩ := hrel
    by_cases hlt : k < n
    · obtain ⟨b1, o1, rfl, hb1, c⟩ := HX.out (by omega)
      obtain ⟨b2, o2, rfl, hb2, d⟩ := HY.out (by omega)
      have hk' : k < s.length := by rw [← HL.out]; exact hlt
      obtain ⟨c0, c1, c2⟩ := eEn_cells c (List.getElem?_eq_getElem hk')
      obtain ⟨d0, d1, d2⟩ := eEn_cells d (List.getElem?_eq_getElem hk')
      generalize s[k] = x at *
      obtain ⟨⟨x1, x2⟩, x3⟩ := x
      simp only at c0 c1 c2 d0 d1 d2
      clear c d
      go_wp2
      go_quiet (fail)
      go_wp2
      go_roundw
      case rel => exact ⟨k + 1, _, by omega, by go_num, rfl⟩
      case measure => simp [intOf]; omega
    · go_wp2
      go_ret
      exact ⟨rfl, drewN_below _ _ _⟩
end Go.Proofs.Ytnlmplllfgfgoaa.Ad
