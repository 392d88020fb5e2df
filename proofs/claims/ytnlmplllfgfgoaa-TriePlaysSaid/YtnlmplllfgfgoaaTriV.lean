/-
  PLAIN FACTS THAT THE LAWS ON TABLES USE: what a built list holds; the longest prefix. (insF, bldL, getV, lookV, delF are of TriQ, TriF, TriG, TriS.)
-/
import Derived.Test.YtnlmplllfgfgoaaTriS
namespace Go.Proofs.Ytnlmplllfgfgoaa.Ad
set_option linter.unusedSimpArgs false
set_option linter.unusedVariables false
open Go.RowKit Am Kt Tp Tm Tr

theorem con_srt {L : List En} (hs : Srt L) (ho : Oks L) (a : Nat) : (conF L a).Pairwise fun x y => x.1.2 < y.1.2 := by
  have h : Srt (conF L a) := hs.filter _
  unfold Srt at h
  refine h.imp_of_mem ?_
  intro x y hx hy hxy
  unfold conF at hx hy
  rw [List.mem_filter] at hx hy
  exact (cov_lt (ho x hx.1) (ho y hy.1) hx.2 hy.2).1 hxy
theorem last_max {l : List En} (h : l.Pairwise fun x y => x.1.2 < y.1.2) {z : En} (hz : l.getLast? = some z) : z ∈ l ∧ ∀ y ∈ l, y.1.2 ≤ z.1.2 := by
  obtain ⟨A, rfl⟩ := List.getLast?_eq_some_iff.1 hz
  rw [List.pairwise_append] at h
  refine ⟨by simp, fun y hy => ?_⟩
  rcases List.mem_append.1 hy with hy | hy
  · exact Nat.le_of_lt (h.2.2 y hy z (by simp))
  · simp at hy; rw [hy]; exact Nat.le_refl _
theorem look_some {L : List En} (hs : Srt L) (ho : Oks L) {a : Nat} {z : En} (h : lookV L a = some z) : z ∈ L ∧ contB z.1.1 (z.1.2 : Int) a = true ∧ ∀ y ∈ L, contB y.1.1 (y.1.2 : Int) a = true → y.1.2 ≤ z.1.2 := by
  obtain ⟨h1, h2⟩ := last_max (con_srt hs ho a) h
  unfold conF at h1
  rw [List.mem_filter] at h1
  refine ⟨h1.1, h1.2, fun y hy hc => h2 y ?_⟩
  unfold conF
  rw [List.mem_filter]
  exact ⟨hy, hc⟩
theorem look_none {L : List En} {a : Nat} (h : lookV L a = none) : ∀ y ∈ L, contB y.1.1 (y.1.2 : Int) a = false := fun y hy => by
  unfold lookV at h
  rw [List.getLast?_eq_none_iff] at h
  cases hc : contB y.1.1 (y.1.2 : Int) a with
  | false => rfl
  | true =>
    have : y ∈ conF L a := by unfold conF; rw [List.mem_filter]; exact ⟨hy, hc⟩
    rw [h] at this; cases this
theorem insF_oks {L : List En} (h : Oks L) {x : REn} (hx : x.1.1 < 4294967296) : Oks (insF L x) := by
  unfold insF
  split
  · rename_i hv
    exact oks_ins h (okp_valid hx hv).1 _
  · exact h
theorem bldL_oks {l : List REn} (h : BdE l) : Oks (bldL l) := by
  have : ∀ (l : List REn) (L : List En), BdE l → Oks L → Oks (l.foldl insF L) := fun l => by
    induction l with
    | nil => exact fun L _ h => h
    | cons x l ih => exact fun L hb h => ih _ (fun y hy => hb y (List.mem_cons_of_mem _ hy)) (insF_oks h (hb x (by simp)))
  exact this l [] h (fun x hx => by cases hx)
/-- A key stays. -/
theorem insF_key {L : List En} {p : Px} {u : Int} (h : (p, u) ∈ L) (x : REn) : ∃ v, (p, v) ∈ insF L x := by
  unfold insF
  split
  · by_cases e : p = (x.1.1, x.1.2.toNat)
    · exact ⟨x.2, mem_ins.2 (.inl (by rw [e]))⟩
    · exact ⟨u, mem_ins.2 (.inr ⟨h, e⟩)⟩
  · exact ⟨u, h⟩
theorem bldL_has : ∀ (l : List REn) (L : List En) (p : Px), ((∃ u, (p, u) ∈ L) ∨ ∃ x ∈ l, validB x.1.1 x.1.2 = true ∧ p = (x.1.1, x.1.2.toNat)) → ∃ v, (p, v) ∈ l.foldl insF L
  | [], L, p, h => by
    rcases h with h | ⟨x, hx, _⟩
    · exact h
    · cases hx
  | y :: l, L, p, h => by
    refine bldL_has l (insF L y) p ?_
    rcases h with ⟨u, h⟩ | ⟨x, hx, hv, hp⟩
    · exact .inl (insF_key h y)
    · rcases List.mem_cons.1 hx with rfl | hx
      · left
        refine ⟨x.2, ?_⟩
        unfold insF
        rw [if_pos hv, mem_ins]
        exact .inl (by rw [hp])
      · exact .inr ⟨x, hx, hv, hp⟩
theorem valid_nat {a : Nat} {n : Int} (h : validB a n = true) : n = (n.toNat : Int) := by
  have := (valid_iff.1 h).1; omega
theorem valid_of_ok {p : Px} (h : OkP p) : validB p.1 (p.2 : Int) = true := by
  rw [valid_iff, cl_nat _ h.1]; exact ⟨by have := h.1; omega, h.2.1⟩
theorem getV_mem {L : List En} (hs : Srt L) (ho : Oks L) {p : Px} {u : Int} (h : (p, u) ∈ L) : getV L p.1 (p.2 : Int) = some u := by
  rw [getV_yes (valid_of_ok (ho _ h)), Int.toNat_natCast]
  exact (getL_some hs).2 h
end Go.Proofs.Ytnlmplllfgfgoaa.Ad
