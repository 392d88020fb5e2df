/-
  THE CONTRACTS OF A TABLE's New, Len, grow, Insert.
-/
import Derived.Test.YtnlmplllfgfgoaaTriK
namespace Go.Proofs.Ytnlmplllfgfgoaa.Ad
set_option linter.unusedSimpArgs false
set_option linter.unusedVariables false
open Go.RowKit Am Kt Tp Tm Tr

set_option maxHeartbeats 1000000 in
theorem new (w : World) : Calls Try.prog 8 #[] w fun e w' => e = .returned (pt w.heap.size) ∧ Tab w' w.heap.size (.node w.heap.size none .nil .nil) [] ∧ Below w.heap.size w w' ∧ w'.heap.size = w.heap.size + 1 := by
  go_enter Try.func8, Try.ntmps8
  go_wp2_with fail
  go_ret
  exact ⟨rfl, tab_new w _, al1 w _, by simp⟩

set_option maxHeartbeats 1000000 in
theorem len (tb : Nat) (T : Tr) (L : List En) (w : World) (h : Tab w tb T L) :
    Calls Try.prog 20 #[pt tb] w fun e w' => e = .returned (.int .i64 (L.length : Int)) ∧ w = w' := by
  have c := h.size
  go_enter Try.func20, Try.ntmps20
  go_wp2_with fail
  go_ret
  exact ⟨rfl, rfl⟩

/-! ### grow -/
/-- What the tree is while it grows. -/
structure Grew (w : World) (T : Tr) (tb : Nat) (wr : World) (T' : Tr) : Prop where
  inn : In wr T'
  nd : T'.blocks.Nodup
  deep : T'.deep 33
  ents : T'.ents 0 0 = T.ents 0 0
  root : ∃ e l r, T' = .node tb e l r
  keep : Keep T.blocks w wr
  new : ∀ c ∈ T'.blocks, c ∈ T.blocks ∨ w.heap.size ≤ c
  size4 : wr.cell? ⟨tb, 4, none⟩ = w.cell? ⟨tb, 4, none⟩
theorem Grew.refl {w : World} {tb : Nat} {T : Tr} {L : List En} (h : Tab w tb T L) : Grew w T tb w T := ⟨h.inn, h.nd, h.deep, rfl, h.root, Keep.refl _ _, fun c hc => .inl hc, rfl⟩
theorem Grew.mem {w wr : World} {tb : Nat} {T T' : Tr} (h : Grew w T tb wr T') : tb ∈ T'.blocks := by
  obtain ⟨e, l, r, rfl⟩ := h.root; simp [Tr.blocks]
theorem Grew.below {w wr w' : World} {tb : Nat} {T T' : Tr} (h : Grew w T tb wr T') (k : Below wr.heap.size wr w') : Grew w T tb w' T' :=
  ⟨h.inn.below k, h.nd, h.deep, h.ents, h.root, h.keep.then_ k, h.new, (k.cell (p := ⟨tb, 4, none⟩) (h.inn.lt tb h.mem)).trans h.size4⟩
theorem sub_block {k : Nat} {T : Tr} {a d b : Nat} {e : Option Int} {l r : Tr} (h : T.sub a d k = .node b e l r) : b ∈ T.blocks := blocks_sub k T a d b (by rw [h]; simp [Tr.blocks])
theorem sub_at {w : World} {k : Nat} {T : Tr} {a d b : Nat} {e : Option Int} {l r : Tr} (hi : In w T) (h : T.sub a d k = .node b e l r) : At w b e l.ptr r.ptr := by
  have := In.sub k T a d hi
  rw [h] at this
  exact this.1
/-- One node more. -/
theorem Grew.step {w wr : World} {tb : Nat} {T T' : Tr} (h : Grew w T tb wr T') {a k b : Nat} {e : Option Int} {l r : Tr} (hk : k < 32) (hs : T'.sub a 0 k = .node b e l r)
    (hn : (if bitN a k = 0 then l else r) = .nil) (t : TypeId) :
    ∃ T2, Grew w T tb ((wr.alloc (.cells #[.pointer none, .pointer none, .bool false, .int .i64 0] t)).setCell ⟨b, bitN a k, none⟩ (pt wr.heap.size)) T2 ∧ T2.sub a 0 (k + 1) = .node wr.heap.size none .nil .nil ∧ (∀ c ∈ T2.blocks, c ∈ T'.blocks ∨ c = wr.heap.size) := by
  obtain ⟨Y, hY⟩ : ∃ Y : Tr, Y = (if bitN a k = 0 then Tr.node b e (.node wr.heap.size none .nil .nil) r else Tr.node b e l (.node wr.heap.size none .nil .nil)) := ⟨_, rfl⟩
  have hb := sub_block hs
  have hlt := h.inn.lt
  have hat := sub_at h.inn hs
  have hsub := In.sub k T' a 0 h.inn
  rw [hs] at hsub
  have hne : T'.sub a 0 k ≠ .nil := by rw [hs]; exact fun h => by cases h
  have hptr : Y.ptr = (T'.sub a 0 k).ptr := by rw [hs, hY]; split <;> rfl
  have hperm : Y.blocks.Perm ([wr.heap.size] ++ (T'.sub a 0 k).blocks) := by
    rw [hs, hY]
    split
    · rename_i h0
      rw [if_pos h0] at hn; subst hn
      simp only [Tr.blocks, List.nil_append, List.append_nil, List.cons_append]
      exact List.Perm.swap _ _ _
    · rename_i h0
      rw [if_neg h0] at hn; subst hn
      simp only [Tr.blocks, List.nil_append, List.append_nil, List.cons_append]
      refine List.Perm.trans (List.Perm.cons _ List.perm_append_comm) ?_
      exact List.Perm.swap _ _ _
  have hbl := blocks_put k T' a 0 (fun _ => Y) [wr.heap.size] hne hperm
  have hmem : ∀ c, c ∈ (T'.put a 0 k (fun _ => Y)).blocks → c ∈ T'.blocks ∨ c = wr.heap.size := fun c hc => by
    have := hbl.mem_iff.1 hc
    simp at this
    rcases this with h1 | h1
    · exact .inr h1
    · exact .inl h1
  have al := al1 wr (.cells #[.pointer none, .pointer none, .bool false, .int .i64 0] t)
  have hbne : ∀ c, c ≠ b → ((wr.alloc (.cells #[.pointer none, .pointer none, .bool false, .int .i64 0] t)).setCell ⟨b, bitN a k, none⟩ (pt wr.heap.size)).heap[c]? = (wr.alloc (.cells #[.pointer none, .pointer none, .bool false, .int .i64 0] t)).heap[c]? :=
    fun c hc => Below.heap_setCell _ _ _ _ hc
  have hnb : wr.heap.size ≠ b := fun e => by have := hlt b hb; omega
  refine ⟨T'.put a 0 k (fun _ => Y), ⟨?_, ?_, ?_, ?_, ?_, ?_, ?_, ?_⟩, ?_, hmem⟩
  · refine In.put k T' a 0 Y h.inn h.nd hptr ?_ (fun c hc hn' => ?_) hne
    · have hnew := (at_new wr t).keep (hbne wr.heap.size hnb)
      have ha' := hat.keep (al.block b (hlt b hb))
      rw [hY]
      by_cases h0 : bitN a k = 0
      · rw [if_pos h0] at hn; subst hn
        rw [if_pos h0, h0]
        refine ⟨ha'.set0 _, ⟨h0 ▸ hnew, trivial, trivial⟩, hsub.2.2.keep fun c hc => ?_⟩
        have hcT : c ∈ T'.blocks := blocks_sub k T' a 0 c (by rw [hs]; simp [Tr.blocks, hc])
        rw [h0] at hbne
        rw [hbne c (fun e => ?_), al.block c (hlt c hcT)]
        subst e
        exact (nodup_sub h.nd hs).2 hc
      · have h1 : bitN a k = 1 := by have := bitN_or a k; omega
        rw [if_neg h0] at hn; subst hn
        rw [if_neg h0, h1]
        refine ⟨ha'.set1 _, hsub.2.1.keep fun c hc => ?_, ⟨h1 ▸ hnew, trivial, trivial⟩⟩
        have hcT : c ∈ T'.blocks := blocks_sub k T' a 0 c (by rw [hs]; simp [Tr.blocks, hc])
        rw [h1] at hbne
        rw [hbne c (fun e => ?_), al.block c (hlt c hcT)]
        subst e
        exact (nodup_sub h.nd hs).1 hc
    · rw [hbne c (fun e => hn' (by rw [hs, e]; simp [Tr.blocks])), al.block c (hlt c hc)]
  · refine hbl.nodup_iff.2 ?_
    rw [List.singleton_append, List.nodup_cons]
    exact ⟨fun hm => by have := hlt _ hm; omega, h.nd⟩
  · refine deep_put k T' a 0 33 _ (by omega) h.deep ?_
    have := deep_sub k T' a 0 33 (by omega) h.deep
    rw [hs] at this
    have e1 : 33 - k = (31 - k) + 1 + 1 := by omega
    rw [e1] at this ⊢
    rw [hY]
    split
    · exact ⟨⟨by cases (31 - k) <;> trivial, by cases (31 - k) <;> trivial⟩, this.2⟩
    · exact ⟨this.1, ⟨by cases (31 - k) <;> trivial, by cases (31 - k) <;> trivial⟩⟩
  · rw [ents_put k T' a 0 _ 0 0 ?_, h.ents]
    intro A K
    rw [hs, hY]
    by_cases h0 : bitN a k = 0
    · rw [if_pos h0] at hn; subst hn
      rw [if_pos h0]; rfl
    · rw [if_neg h0] at hn; subst hn
      rw [if_neg h0]; rfl
  · obtain ⟨e', l', r', rfl⟩ := h.root
    cases k with
    | zero =>
      rw [sub_zero] at hs
      injection hs with e1 e2 e3 e4
      rw [put_zero, hY, e1]
      split
      · exact ⟨_, _, _, rfl⟩
      · exact ⟨_, _, _, rfl⟩
    | succ k =>
      unfold Tr.put
      split
      · exact ⟨_, _, _, rfl⟩
      · exact ⟨_, _, _, rfl⟩
  · exact (h.keep.alloc _).setCell (h.new b hb) _
  · intro c hc
    rcases hmem c hc with h1 | h1
    · exact h.new c h1
    · right; rw [h1]; exact h.keep.size
  · rw [sc_other (fun e => ?_), ← h.size4]
    · exact al.cell (p := ⟨tb, 4, none⟩) (hlt tb h.mem)
    · injection e with e1 e2 e3
      have := bitN_lt a k; omega
  · rw [sub_step, sub_put k T' a 0 _ hne, hY]
    by_cases h0 : bitN a k = 0
    · rw [if_pos h0]; simp [h0]
    · rw [if_neg h0]; simp [h0]

theorem Grew.box {w wr : World} {tb : Nat} {T T' : Tr} (h : Grew w T tb wr T') {B : Nat} {o : Obj} (hB : B ∉ T'.blocks) {b : Nat} (hb : b ∈ T'.blocks) {t : TypeId} {j : Nat} {u : Value} {cs : Array Value} (ho : wr.heap[B]? = some o) :
    ((wr.alloc (.cells cs t)).setCell ⟨b, j, none⟩ u).heap[B]? = some o := by
  rw [Below.heap_setCell _ _ _ _ (fun e => hB (by rw [e]; exact hb)), Below.heap_alloc _ _ _ (blk_lt ho)]; exact ho

def GrowPost (w : World) (T : Tr) (tb a n : Nat) (e : Ending) (w' : World) : Prop :=
  ∃ T' b e0 l r, e = .returned (pt b) ∧ T'.sub a 0 n = .node b e0 l r ∧ Grew w T tb w' T'

set_option maxHeartbeats 2000000 in
theorem grow (tb a n : Nat) (T : Tr) (L : List En) (w : World) (h : Tab w tb T L) (ha : a < 4294967296) (hn : n ≤ 32) :
    Calls Try.prog 34 #[pt tb, px a (n : Int)] w (GrowPost w T tb a n) := by
  have hG := Grew.refl h
  obtain ⟨e0, l0, r0, hroot⟩ := h.root
  have hlt : ∀ c ∈ T.blocks, c < w.heap.size := h.lt
  have HT := hid hroot
  have HL := hid hlt
  have HG := hid hG
  have H := hid h
  clear h hG hroot hlt
  go_enter Try.func34, Try.ntmps34
  go_wp2_with fail
  go_loopg [5, 13] n (fun gg q i wr => ∃ (k b : Nat) (e0 : Option Int) (l r T' : Tr), k + gg = n ∧ i = .int .i64 k ∧ q = pt b ∧ T'.sub a 0 k = .node b e0 l r ∧ Grew w T tb wr T' ∧ wr.heap[w.heap.size]? = some (.cells #[.int .u32 (a : Int), .int .i64 (n : Int)] 31 (0, 0)) ∧ w.heap.size ∉ T'.blocks)
  case atStart =>
    exact ⟨0, tb, e0, l0, r0, T, by omega, rfl, rfl, by rw [sub_zero, HT.out], HG.out.below (al1 w _), heap_new w _, fun hm => by have := HL.out _ hm; omega⟩
  case round =>
    obtain ⟨k, b, e1, l, r, T', hk, rfl, rfl, hs, hg, hbox, hnot⟩ := hrel
    have HS := hid hs
    have HGr := hid hg
    have HB := hid hbox
    have HN := hid hnot
    clear hs hg hbox hnot
    cases gk with
    | zero =>
      have hlt : ¬ ((k : Int) < (n : Int)) := by omega
      have hkn : k = n := by omega
      go_wp2_with fail
      go_ret
      exact ⟨T', b, e1, l, r, rfl, hkn ▸ HS.out, HGr.out⟩
    | succ g1 =>
      have hlt : k < n := by omega
      have hk32 : k < 32 := by omega
      have hBit := fun wx => bit a k wx ha hk32
      have hx0 := lat_0 HB.out
      rcases bitN_or a k with hb | hb
      · rw [hb] at hBit
        have HK := hid (show (if bitN a k = 0 then l else r) = l by rw [hb]; rfl)
        have HBt := hid hb
        clear hb
        go_upto_region 5 with fail
        refine wp_region_later wr.heap.size (by kernel_rfl) (by kernel_rfl) ?_
        repeat (go_big_quiet_step ((go_at_call 38; exact later_same (hBit _))))
        refine wpQuiet_nil ?_
        rintro _ ⟨u, rfl⟩
        have HG4 := hid (HGr.out.below u.h)
        have HB4 := hid (blk_keep HB.out u.h)
        clear hx0 hBit HGr HB
        generalize u.w = w4 at *
        have hat := sub_at HG4.out.inn HS.out
        have hc := hat.c0
        have hf := hat.fz 0
        have hl2 := HG4.out.inn.lt b (sub_block HS.out)
        clear hat
        cases l with
        | nil =>
          simp only [Tr.ptr] at hc
          obtain ⟨T2, g2, s2, m2⟩ := HG4.out.step hk32 HS.out HK.out 60
          have hc2 : ((w4.alloc (.cells #[.pointer none, .pointer none, .bool false, .int .i64 0] 60)).setCell ⟨b, 0, none⟩ (pt w4.heap.size)).cell? ⟨b, 0, none⟩ = some (pt w4.heap.size) :=
            sc_same (u := .pointer none) (by rw [World.cell?_alloc_lt _ _ _ hl2]; exact hc)
          have hb2 := HG4.out.box HN.out (sub_block HS.out) (t := 60) (j := 0) (u := pt w4.heap.size) (cs := #[.pointer none, .pointer none, .bool false, .int .i64 0]) HB4.out
          rw [HBt.out] at g2
          rw [World.setCell_alloc_past _ _ _ _ hl2] at g2 hb2 hc2
          have hn2 : w.heap.size ∉ T2.blocks := fun hm => (m2 _ hm).elim HN.out (fun e => by have := blk_lt HB4.out; omega)
          have H2 := hid (And.intro g2 (And.intro s2 (And.intro hb2 hn2)))
          clear g2 s2 m2 hb2 hn2
          go_wp2_with fail
          go_roundg g1
          case measure => omega
          case rel => exact ⟨k + 1, _, none, .nil, .nil, T2, by omega, by go_num, rfl, H2.out.2.1, H2.out.1, H2.out.2.2.1, H2.out.2.2.2⟩
        | node b2 e2 l2 r2 =>
          simp only [Tr.ptr] at hc
          have hs2 : T'.sub a 0 (k + 1) = .node b2 e2 l2 r2 := by rw [sub_step, HS.out]; simp only [Nat.zero_add]; rw [HK.out]
          have H2 := hid hs2
          clear hs2
          go_wp2_with fail
          go_roundg g1
          case measure => omega
          case rel => exact ⟨k + 1, b2, e2, l2, r2, T', by omega, by go_num, rfl, H2.out, HG4.out, HB4.out, HN.out⟩
      · rw [hb] at hBit
        have HK := hid (show (if bitN a k = 0 then l else r) = r by rw [hb]; rfl)
        have HBt := hid hb
        clear hb
        go_upto_region 5 with fail
        refine wp_region_later wr.heap.size (by kernel_rfl) (by kernel_rfl) ?_
        repeat (go_big_quiet_step ((go_at_call 38; exact later_same (hBit _))))
        refine wpQuiet_nil ?_
        rintro _ ⟨u, rfl⟩
        have HG4 := hid (HGr.out.below u.h)
        have HB4 := hid (blk_keep HB.out u.h)
        clear hx0 hBit HGr HB
        generalize u.w = w4 at *
        have hat := sub_at HG4.out.inn HS.out
        have hc := hat.c1
        have hf := hat.fz 1
        have hl2 := HG4.out.inn.lt b (sub_block HS.out)
        clear hat
        cases r with
        | nil =>
          simp only [Tr.ptr] at hc
          obtain ⟨T2, g2, s2, m2⟩ := HG4.out.step hk32 HS.out HK.out 60
          have hc2 : ((w4.alloc (.cells #[.pointer none, .pointer none, .bool false, .int .i64 0] 60)).setCell ⟨b, 1, none⟩ (pt w4.heap.size)).cell? ⟨b, 1, none⟩ = some (pt w4.heap.size) :=
            sc_same (u := .pointer none) (by rw [World.cell?_alloc_lt _ _ _ hl2]; exact hc)
          have hb2 := HG4.out.box HN.out (sub_block HS.out) (t := 60) (j := 1) (u := pt w4.heap.size) (cs := #[.pointer none, .pointer none, .bool false, .int .i64 0]) HB4.out
          rw [HBt.out] at g2
          rw [World.setCell_alloc_past _ _ _ _ hl2] at g2 hb2 hc2
          have hn2 : w.heap.size ∉ T2.blocks := fun hm => (m2 _ hm).elim HN.out (fun e => by have := blk_lt HB4.out; omega)
          have H2 := hid (And.intro g2 (And.intro s2 (And.intro hb2 hn2)))
          clear g2 s2 m2 hb2 hn2
          go_wp2_with fail
          go_roundg g1
          case measure => omega
          case rel => exact ⟨k + 1, _, none, .nil, .nil, T2, by omega, by go_num, rfl, H2.out.2.1, H2.out.1, H2.out.2.2.1, H2.out.2.2.2⟩
        | node b2 e2 l2 r2 =>
          simp only [Tr.ptr] at hc
          have hs2 : T'.sub a 0 (k + 1) = .node b2 e2 l2 r2 := by rw [sub_step, HS.out]; simp only [Nat.zero_add]; rw [HK.out]
          have H2 := hid hs2
          clear hs2
          go_wp2_with fail
          go_roundg g1
          case measure => omega
          case rel => exact ⟨k + 1, b2, e2, l2, r2, T', by omega, by go_num, rfl, H2.out, HG4.out, HB4.out, HN.out⟩
end Go.Proofs.Ytnlmplllfgfgoaa.Ad
