/-
  THE CONTRACT OF A TABLE's Insert.
-/
import Derived.Test.YtnlmplllfgfgoaaTriB
namespace Go.Proofs.Ytnlmplllfgfgoaa.Ad
set_option linter.unusedSimpArgs false
set_option linter.unusedVariables false
open Go.RowKit Am Kt Tp Tm Tr

theorem at_size4 {w : World} {b tb : Nat} {e : Option Int} {l r : Value} (h : At w b e l r) (u : Value) : At (w.setCell ⟨tb, 4, none⟩ u) b e l r := by
  have n1 : ∀ j : Nat, j ≠ 4 → (⟨tb, 4, none⟩ : Addr) ≠ ⟨b, j, none⟩ := fun j hj e => hj (by injection e with _ e2 _; exact e2.symm)
  exact ⟨(sc_other (n1 0 (by decide))).trans h.c0, (sc_other (n1 1 (by decide))).trans h.c1, (sc_other (n1 2 (by decide))).trans h.c2, (sc_other (n1 3 (by decide))).trans h.c3, fun j => by rw [World.frozen?_setCell]; exact h.fz j⟩
theorem in_size4 {w : World} {tb : Nat} (u : Value) : ∀ {T : Tr}, In w T → In (w.setCell ⟨tb, 4, none⟩ u) T
  | .nil, _ => trivial
  | .node b e l r, h => ⟨at_size4 h.1 u, in_size4 u h.2.1, in_size4 u h.2.2⟩
/-- A node's entry set. -/
def setE (w : World) (b : Nat) (e : Option Int) : World := (w.setCell ⟨b, 2, none⟩ (.bool e.isSome)).setCell ⟨b, 3, none⟩ (.int .i64 (e.getD 0))
theorem setE_far {w : World} {b c : Nat} {e : Option Int} (h : c ≠ b) : (setE w b e).heap[c]? = w.heap[c]? := by
  unfold setE
  rw [Below.heap_setCell _ _ _ _ h, Below.heap_setCell _ _ _ _ h]
theorem setE_size4 {w : World} {b tb : Nat} {e : Option Int} : (setE w b e).cell? ⟨tb, 4, none⟩ = w.cell? ⟨tb, 4, none⟩ := by
  unfold setE
  rw [sc_other (fun e => by injection e with _ e2 _; omega), sc_other (fun e => by injection e with _ e2 _; omega)]
theorem set_in {wr : World} {T : Tr} (h : In wr T) (hnd : T.blocks.Nodup) {a n b : Nat} {e0 : Option Int} {l r : Tr} (e' : Option Int) (hs : T.sub a 0 n = .node b e0 l r) :
    In (setE wr b e') (T.put a 0 n (fun _ => .node b e' l r)) := by
  have hsub := In.sub n T a 0 h
  rw [hs] at hsub
  have hno := nodup_sub hnd hs
  refine In.put n T a 0 (.node b e' l r) h hnd (by rw [hs]; rfl) ⟨hsub.1.set23 _ _ rfl rfl, ?_, ?_⟩ (fun c _ hc => setE_far (fun e => hc (by rw [hs, e]; simp [Tr.blocks]))) (by rw [hs]; exact fun h => by cases h)
  · exact hsub.2.1.keep fun c hc => setE_far (fun e => hno.1 (e ▸ hc))
  · exact hsub.2.2.keep fun c hc => setE_far (fun e => hno.2 (e ▸ hc))
theorem set_blocks {T : Tr} {a n b : Nat} {e0 : Option Int} {l r : Tr} (e' : Option Int) (hs : T.sub a 0 n = .node b e0 l r) : (T.put a 0 n (fun _ => .node b e' l r)).blocks.Perm T.blocks := by
  have := blocks_put n T a 0 (fun _ => .node b e' l r) [] (by rw [hs]; exact fun h => by cases h) (by rw [hs]; exact List.Perm.refl _)
  simpa using this
theorem set_root {T : Tr} {tb a n b : Nat} {e0 : Option Int} {l r : Tr} (e' : Option Int) (hs : T.sub a 0 n = .node b e0 l r) (h : ∃ x y z, T = .node tb x y z) : ∃ x y z, T.put a 0 n (fun _ => .node b e' l r) = .node tb x y z := by
  obtain ⟨e, l', r', rfl⟩ := h
  cases n with
  | zero =>
    rw [sub_zero] at hs
    injection hs with e1 e2 e3 e4
    rw [put_zero, e1]
    exact ⟨_, _, _, rfl⟩
  | succ k =>
    unfold Tr.put
    split
    · exact ⟨_, _, _, rfl⟩
    · exact ⟨_, _, _, rfl⟩
theorem okp_valid {a : Nat} {n : Int} (ha : a < 4294967296) (h : validB a n = true) : OkP (a, n.toNat) ∧ n = (n.toNat : Int) := by
  have hv := valid_iff.1 h
  have hc : cl n = n.toNat := by unfold cl; omega
  rw [hc] at hv
  exact ⟨⟨by simp only; omega, hv.2, ha⟩, by omega⟩
/-- What Insert leaves. -/
def InsPost (w : World) (tb : Nat) (T : Tr) (L : List En) (a : Nat) (n : Int) (v : Int) (e : Ending) (w' : World) : Prop :=
  e = .returned (.bool (validB a n)) ∧ ∃ T', Tab w' tb T' (if validB a n = true then ins L (a, n.toNat) v else L) ∧ Keep T.blocks w w' ∧ (∀ c ∈ T'.blocks, c ∈ T.blocks ∨ w.heap.size ≤ c)
theorem grew_set {w wr : World} {tb : Nat} {T T' : Tr} {L : List En} (h : Tab w tb T L) (hg : Grew w T tb wr T') {a k b : Nat} {e0 : Option Int} {l r : Tr} (hp : OkP (a, k)) (hs : T'.sub a 0 k = .node b e0 l r) (v : Int) (u : World)
    (hi : In u T') (hk : Keep T.blocks w u) (h4 : u.cell? ⟨tb, 4, none⟩ = some (.int .i64 ((ins L (a, k) v).length : Int))) :
    Tab (setE u b (some v)) tb (T'.put a 0 k (fun _ => .node b (some v) l r)) (ins L (a, k) v) ∧ Keep T.blocks w (setE u b (some v)) ∧ (∀ c ∈ (T'.put a 0 k (fun _ => .node b (some v) l r)).blocks, c ∈ T.blocks ∨ w.heap.size ≤ c) := by
  have hb := sub_block hs
  have hbl := set_blocks (some v) hs
  refine ⟨⟨set_root _ hs hg.root, set_in hi hg.nd _ hs, hbl.nodup_iff.2 hg.nd, set_deep _ hp.1 hs hg.deep, ?_, by rw [setE_size4]; exact h4⟩, ?_, fun c hc => hg.new c (hbl.mem_iff.1 hc)⟩
  · rw [set_some v hp hs hg.deep, hg.ents, h.ents]
  · exact (hk.setCell (hg.new b hb) _).setCell (hg.new b hb) _
theorem grew_get {w wr : World} {tb : Nat} {T T' : Tr} {L : List En} (h : Tab w tb T L) (hg : Grew w T tb wr T') {a k b : Nat} {e0 : Option Int} {l r : Tr} (hp : OkP (a, k)) (hs : T'.sub a 0 k = .node b e0 l r) : getL L (a, k) = e0 := by
  have := root_get hg.deep hp
  rw [hg.ents, h.ents] at this
  rw [this]
  unfold Tr.get
  rw [hs]; rfl

set_option maxHeartbeats 2000000 in
theorem insert (tb a : Nat) (n v : Int) (T : Tr) (L : List En) (w : World) (h : Tab w tb T L) (ha : a < 4294967296) (hl : L.length ≤ 1000000) :
    Calls Try.prog 18 #[pt tb, px a n, .int .i64 v] w (InsPost w tb T L a n v) := by
  have hV := fun wx => valid a n wx ha
  cases hv : validB a n with
  | false =>
    have H := hid (And.intro h hv)
    rw [hv] at hV
    clear h hv
    go_enter Try.func18, Try.ntmps18
    go_wp2_with (go_at_call 33; refine (hV _).mono ?_; rintro e w1 ⟨rfl, b1⟩)
    go_ret
    refine ⟨by rw [H.out.2]; rfl, T, ?_, ?_, fun c hc => .inl hc⟩
    · rw [if_neg (by rw [H.out.2]; decide)]
      exact H.out.1.below (then_ (al1 w _) b1)
    · exact Keep.of (then_ (al1 w _) b1)
  | true =>
    obtain ⟨hok, hn⟩ := okp_valid ha hv
    obtain ⟨k, hk⟩ : ∃ k, k = n.toNat := ⟨_, rfl⟩
    rw [← hk] at hok hn
    subst hn
    have hG := fun wx (hx : Tab wx tb T L) => grow tb a k T L wx hx ha hok.1
    rw [hv] at hV
    have H := hid (And.intro h (And.intro hv hok))
    clear h hv hok hk
    go_enter Try.func18, Try.ntmps18
    go_wp2_with fail
    refine (hV _).mono ?_
    rintro e w1 ⟨rfl, b1⟩
    have hbox := box_all b1
    obtain ⟨⟨c0, c1⟩, _⟩ := blk_two hbox
    have B1 := hid (And.intro (then_ (al1 w _) b1) hbox)
    clear b1 hbox
    go_wp2_with fail
    refine (hG _ (H.out.1.below B1.out.1)).mono ?_
    rintro e w2 ⟨T', b, e0, l, r, rfl, hs, hg⟩
    have hp := H.out.2.2
    have hat := sub_at hg.inn hs
    have h4 := hg.size4
    rw [(H.out.1.below B1.out.1).size] at h4
    have f4 := (sub_at (k := 0) hg.inn (a := 0) (d := 0) (by rw [sub_zero]; exact hg.root.choose_spec.choose_spec.choose_spec)).fz 4
    have d2 := hat.c2
    have f2 := hat.fz 2
    have f3 := hat.fz 3
    have d3 := hat.c3
    have hget := grew_get (H.out.1.below B1.out.1) hg hp hs
    have K2 : Keep T.blocks w w2 := (Keep.of B1.out.1).trans hg.keep (fun c hc => .inl hc)
    have N2 : ∀ c ∈ T'.blocks, c ∈ T.blocks ∨ w.heap.size ≤ c := fun c hc => (hg.new c hc).imp id (fun h => Nat.le_trans B1.out.1.size h)
    have HS := hid (And.intro hs hg)
    have HK := hid (And.intro K2 N2)
    have HQ := hid hget
    clear hs hg hat K2 N2 hget c0 c1
    obtain ⟨m, hm⟩ : ∃ m, m = L.length := ⟨_, rfl⟩
    rw [← hm] at h4 hl
    cases e0 with
    | none =>
      have hlen := hid (ins_len_new (H.out.1).srt v HQ.out)
      have d2' : w2.cell? ⟨b, 2, none⟩ = some (.bool false) := d2
      have d3' : w2.cell? ⟨b, 3, none⟩ = some (.int .i64 0) := d3
      have HM := hid hm
      have H4 := hid h4
      clear d2 d3 hm
      go_wp2_with fail
      go_ret
      obtain ⟨hs, hg⟩ := HS.out
      obtain ⟨K2, N2⟩ := HK.out
      have hb := sub_block hs
      have q := grew_set (u := w2.setCell ⟨tb, 4, none⟩ (.int .i64 ((m : Int) + 1))) H.out.1 ⟨hg.inn, hg.nd, hg.deep, hg.ents, hg.root, K2, N2, by rw [H4.out, H.out.1.size, HM.out]⟩ H.out.2.2 hs v (in_size4 _ hg.inn) (K2.setCell (N2 tb hg.mem) _) (by rw [sc_same H4.out, hlen.out, ← HM.out]; rfl)
      exact ⟨by rw [H.out.2.1]; rfl, _, by rw [if_pos H.out.2.1]; exact q.1, q.2.1, q.2.2⟩
    | some u =>
      have hlen := hid (ins_len_old (H.out.1).srt v ((getL_some (H.out.1).srt).1 HQ.out))
      have d2' : w2.cell? ⟨b, 2, none⟩ = some (.bool true) := d2
      have d3' : w2.cell? ⟨b, 3, none⟩ = some (.int .i64 u) := d3
      have HM := hid hm
      have H4 := hid h4
      clear d2 d3 hm h4
      go_wp2_with fail
      go_ret
      obtain ⟨hs, hg⟩ := HS.out
      obtain ⟨K2, N2⟩ := HK.out
      have q := grew_set (u := w2) H.out.1 ⟨hg.inn, hg.nd, hg.deep, hg.ents, hg.root, K2, N2, by rw [H4.out, H.out.1.size, HM.out]⟩ H.out.2.2 hs v hg.inn K2 (by rw [H4.out, hlen.out, ← HM.out])
      exact ⟨by rw [H.out.2.1]; rfl, _, by rw [if_pos H.out.2.1]; exact q.1, q.2.1, q.2.2⟩
end Go.Proofs.Ytnlmplllfgfgoaa.Ad
