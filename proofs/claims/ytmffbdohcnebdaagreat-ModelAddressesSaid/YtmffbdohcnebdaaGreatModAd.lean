/-
  WHAT A VALID NETWORK's ADDRESSES ARE LIKE, IN PLAIN WORDS. No function of the program is named.
-/
import Derived.Test.YtmffbdohcnebdaaGreatModP
import Derived.Test.YtmffbdohcnebdaaGreatModPa
namespace Go.Proofs.YtmffbdohcnebdaaGreat.Mp
set_option linter.unusedSimpArgs false
set_option linter.unusedVariables false
open Am

theorem orE_ok : ∀ {l : List Int}, orE l = 0 → ∀ e ∈ l, e = 0
  | [], _, e, he => by cases he
  | x :: l, h, e, he => by
    unfold orE at h
    split at h
    · rename_i hx
      rcases List.mem_cons.1 he with rfl | he
      · exact hx
      · exact orE_ok h e he
    · rename_i hx; exact absurd h hx
theorem router_ok {l : List Rtr} (h : netwE l = 0) {i : Nat} {r : Rtr} (hr : l[i]? = some r) : rtrE r = 0 ∧ shares (l.take i) r = false := by
  have h1 := (eachE_ok.1 h).2 i r hr
  unfold routerE at h1
  split at h1
  · rename_i h0
    refine ⟨h0, ?_⟩
    split at h1
    · cases h1
    · rename_i h2
      cases hs : shares (l.take i) r with
      | false => rfl
      | true => exact absurd (by rw [hs]; simp) h2
  · rename_i h0; exact absurd h1 h0
theorem ifc_ok {r : Rtr} (h : rtrE r = 0) {k : Nat} {y : Ifc} (hy : r.ifs[k]? = some y) : ovAny (r.ifs.take k) y = false := by
  have h1 : ifsE r.ifs = 0 := orE_ok h _ (by simp [checks])
  have h2 := (eachE_ok.1 h1).2 k y hy
  unfold ifcE at h2
  split at h2
  · cases h2
  · split at h2
    · cases h2
    · split at h2
      · cases h2
      · split at h2
        · cases h2
        · rename_i h3
          cases ho : ovAny (r.ifs.take k) y with
          | false => rfl
          | true => exact absurd ho h3
/-- An interface's network contains an address. -/
def holdsP (y : Ifc) (x : Nat) : Bool := contB (net y.addr y.len) (cl y.len : Nat) x
theorem cl_cl (n : Int) : cl ((cl n : Nat) : Int) = cl n := by
  have := cl_le n
  exact cl_nat _ this
theorem holds_own (y : Ifc) : holdsP y y.addr = true := by
  unfold holdsP contB net
  rw [cl_cl]
  simp
theorem apart_of {r : Rtr} (h : rtrE r = 0) {k j : Nat} {y z : Ifc} (hy : r.ifs[k]? = some y) (hz : r.ifs[j]? = some z) (hjk : j < k) (hy0 : ¬ y.len = 0) (hz0 : ¬ z.len = 0) (x : Nat) (h1 : holdsP y x = true) (h2 : holdsP z x = true) : False := by
  have ho := ifc_ok h hy
  have hm : z ∈ r.ifs.take k := by
    refine List.mem_of_getElem? (i := j) ?_
    rw [List.getElem?_take, if_pos hjk]; exact hz
  have : ovAny (r.ifs.take k) y = true := by
    unfold ovAny
    rw [decide_eq_false hy0, Bool.not_false, Bool.true_and, List.any_eq_true]
    refine ⟨z, hm, ?_⟩
    rw [decide_eq_false hz0, Bool.not_false, Bool.true_and]
    unfold ovP netP
    exact both_ovl h1 h2
  rw [this] at ho; cases ho
theorem adIx_le {l : List Ifc} {k : Nat} {y : Ifc} (hy : l[k]? = some y) (hy0 : ¬ y.len = 0) : 0 ≤ adIx l y.addr ∧ adIx l y.addr ≤ k := by
  have hp : (!decide (y.len = 0) && decide (y.addr = y.addr)) = true := by rw [decide_eq_false hy0]; simp
  have h1 : decide (0 ≤ adIx l y.addr) = true := by
    unfold adIx
    rw [ixB_pos, List.any_eq_true]
    exact ⟨y, List.mem_of_getElem? hy, hp⟩
  refine ⟨of_decide_eq_true h1, ?_⟩
  rcases Int.lt_or_le (k : Int) (adIx l y.addr) with hlt | hle
  · have hk : k < l.length := (List.getElem?_eq_some_iff.1 hy).1
    have hfirst : ∀ (l : List Ifc) (i k : Nat) (y : Ifc) (p : Ifc → Bool), l[k]? = some y → p y = true → ixF p i l ≤ ((i + k : Nat) : Int) := fun l => by
      induction l with
      | nil => intro i k y p h _; simp at h
      | cons z l ih =>
        intro i k y p h hp
        unfold ixF
        split
        · omega
        · rename_i hz
          cases k with
          | zero => simp at h; subst h; exact absurd hp hz
          | succ k =>
            have := ih (i + 1) k y p (by simpa using h) hp
            rw [show i + 1 + k = i + (k + 1) by omega] at this
            exact this
    have := hfirst l 0 k y (fun x => !decide (x.len = 0) && decide (x.addr = y.addr)) hy hp
    unfold adIx ixB at hlt ⊢
    rw [Nat.zero_add] at this
    exact this
  · exact hle
theorem adIx_some {l : List Ifc} {a : Nat} (h : 0 ≤ adIx l a) : ∃ (p : Nat) (z : Ifc), l[p]? = some z ∧ ¬ z.len = 0 ∧ z.addr = a ∧ adIx l a = p := by
  have key : ∀ (l : List Ifc) (i : Nat) (q : Ifc → Bool), ixF q i l = -1 ∨ ∃ (p : Nat) (z : Ifc), l[p]? = some z ∧ q z = true ∧ ixF q i l = ((i + p : Nat) : Int) := fun l => by
    induction l with
    | nil => intro i q; exact .inl rfl
    | cons z l ih =>
      intro i q
      unfold ixF
      split
      · rename_i hz; exact .inr ⟨0, z, rfl, hz, by simp⟩
      · rcases ih (i + 1) q with h | ⟨p, z', h1, h2, h3⟩
        · exact .inl h
        · exact .inr ⟨p + 1, z', by simpa using h1, h2, by rw [h3, show i + 1 + p = i + (p + 1) by omega]⟩
  unfold adIx ixB at h ⊢
  rcases key l 0 (fun x => !decide (x.len = 0) && decide (x.addr = a)) with h1 | ⟨p, z, h1, h2, h3⟩
  · rw [h1] at h; omega
  · simp at h2
    exact ⟨p, z, h1, h2.1, h2.2, by rw [h3]; simp⟩
/-- At its own router an interface's address is found at its own index. -/
theorem addr_own {r : Rtr} (h : rtrE r = 0) {k : Nat} {y : Ifc} (hy : r.ifs[k]? = some y) (hy0 : ¬ y.len = 0) : adIx r.ifs y.addr = k := by
  obtain ⟨h0, h1⟩ := adIx_le hy hy0
  obtain ⟨p, z, hz, hz0, hza, hp⟩ := adIx_some h0
  rw [hp] at h1 ⊢
  rcases Nat.lt_or_ge p k with hlt | hge
  · have e := holds_own z
    rw [hza] at e
    exact absurd (apart_of h hy hz hlt hy0 hz0 y.addr (holds_own y) e) id
  · omega
theorem shares_no {q : List Rtr} {r : Rtr} (h : shares q r = false) {y : Ifc} (hy : y ∈ r.ifs) (hy0 : ¬ y.len = 0) {s : Rtr} (hs : s ∈ q) : adIx s.ifs y.addr < 0 := by
  rcases Int.lt_or_le (adIx s.ifs y.addr) 0 with hlt | hle
  · exact hlt
  · have : shares q r = true := by
      unfold shares
      rw [List.any_eq_true]
      refine ⟨y, hy, ?_⟩
      rw [decide_eq_false hy0, Bool.not_false, Bool.true_and, List.any_eq_true]
      exact ⟨s, hs, decide_eq_true hle⟩
    rw [this] at h; cases h
/-- At another router it is not found. -/
theorem addr_other {l : List Rtr} (h : netwE l = 0) {i j k : Nat} {r s : Rtr} {y : Ifc} (hr : l[i]? = some r) (hs : l[j]? = some s) (hij : j ≠ i) (hy : r.ifs[k]? = some y) (hy0 : ¬ y.len = 0) : adIx s.ifs y.addr < 0 := by
  have ht : ∀ {a b : Nat} {u : Rtr}, l[a]? = some u → a < b → u ∈ l.take b := fun {a b u} hu hab => by
    refine List.mem_of_getElem? (i := a) ?_
    rw [List.getElem?_take, if_pos hab]; exact hu
  rcases Nat.lt_or_ge j i with hlt | hge
  · exact shares_no (router_ok h hr).2 (List.mem_of_getElem? hy) hy0 (ht hs hlt)
  · have hlt : i < j := by omega
    rcases Int.lt_or_le (adIx s.ifs y.addr) 0 with hneg | hpos
    · exact hneg
    · obtain ⟨p, z, hz, hz0, hza, _⟩ := adIx_some hpos
      have h1 := shares_no (router_ok h hs).2 (List.mem_of_getElem? hz) hz0 (ht hr hlt)
      have h2 := (adIx_le hy hy0).1
      rw [hza] at h1
      omega
end Go.Proofs.YtmffbdohcnebdaaGreat.Mp
