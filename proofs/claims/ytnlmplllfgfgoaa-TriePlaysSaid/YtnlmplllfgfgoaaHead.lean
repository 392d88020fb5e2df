/-
  REGIONS THAT DRAW THEIR ORDER AND END IN A TAIL THAT WAITS FOR ALL THAT STANDS AHEAD (a store into a cell that the region loads): what the head does is asked for at the worlds of a class S, the tail is walked behind it. No function of the program is named.
-/
import Derived.WalkKit
import Derived.OrdersHeld
import Derived.StillTail
import Derived.RegionTactic
namespace Go.Proofs.Ytnlmplllfgfgoaa.Kt
set_option linter.unusedSimpArgs false
set_option linter.unusedVariables false
open Go.RowKit

section
variable {P : Program} {ops : Array Oper} {Q : Exit → Act → World → Prop} {md : Region.Mode} {S : World → Prop} {n : Nat} {L : Array Bool → Act → World → Prop}

/-- The head of a region: its first n operations, f of them still to come, whatever order is picked; S holds behind each; L is what the tail wants. -/
def wpHead (P : Program) (md : Region.Mode) (ops : Array Oper) (Q : Exit → Act → World → Prop) (S : World → Prop) (n : Nat) (L : Array Bool → Act → World → Prop) : Nat → Array Bool → Act → World → Prop
  | 0, listed, a, w => L listed a w
  | f + 1, listed, a, w => Region.ready md ops listed ≠ [] ∧ ∀ i ∈ Region.ready md ops listed, i < n ∧ wpOp P ops Q i (fun a' w' => S w' ∧ wpHead P md ops Q S n L f (listed.setIfInBounds i true) a' w') a w

theorem wpAny_of_wpHead {g : Nat} (hL : ∀ listed a w, L listed a w → wpAny P md ops Q g listed a w) :
    ∀ (f : Nat) (listed : Array Bool) (a : Act) (w : World), wpHead P md ops Q S n L f listed a w → wpAny P md ops Q (f + g) listed a w
  | 0, listed, a, w, h => by rw [Nat.zero_add]; exact hL _ _ _ h
  | f + 1, listed, a, w, h => by
    rw [show f + 1 + g = (f + g) + 1 by omega]
    exact ⟨fun h0 => absurd h0 h.1, fun i hi => wpOp_mono (fun a' w' h' => wpAny_of_wpHead hL f _ a' w' h'.2) (h.2 i hi).2⟩

theorem wpHead_first {i : Nat} {oi : Oper} {v : Value} (hi : ops[i]? = some oi) (hsel : ∀ (j : Nat) (o : Oper) cs b, ops[j]? = some o → o.op ≠ .select cs b)
    (hs : Region.sinkB md ops n = true) (hc : Region.chainB md ops n = true) (hn : n < ops.size) (hin : i < n)
    (hdone : ∀ listed a w, L listed a w → ∀ j ∈ Region.ready md ops listed, n ≤ j)
    (hQ : ∀ c a w, Q (.panic c) (a.put oi.dst v) w → Q (.panic c) a w) :
    ∀ (f : Nat) (listed : Array Bool) (a : Act) (w : World), HeadInv md ops n listed →
      (∀ j oj, ops[j]? = some oj → j ≠ i → listed.getD j true = false → (∀ e ∈ oj.after, Region.binds md e = true → e.on ≠ i) → oi.apart ops oj = true) →
      i ∈ Region.ready md ops listed → YieldsIf P ops S oi v a → S w →
      wpHead P md ops Q S n L f (listed.setIfInBounds i true) (a.put oi.dst v) w → wpHead P md ops Q S n L (f + 1) listed a w := by
  intro f
  induction f with
  | zero =>
    intro listed a w inv _ hr hy hS H
    have hun := (mem_ready.1 hr).1
    refine ⟨fun h => (by rw [h] at hr; cases hr), fun j hj => ?_⟩
    have hjn : j < n := by
      rcases Nat.lt_or_ge j n with h | h
      · exact h
      · exact absurd hj (tail_waits hs hc hn inv _ i rfl hin hun j h)
    refine ⟨hjn, ?_⟩
    by_cases hji : j = i
    · subst hji; exact hy.wpOp hi hS ⟨hS, H⟩
    · have := hdone _ _ _ H j (ready_mono hj hji)
      omega
  | succ f ih =>
    intro listed a w inv hfree hr hy hS H
    have hun := (mem_ready.1 hr).1
    refine ⟨fun h => (by rw [h] at hr; cases hr), fun j hj => ?_⟩
    have hjn : j < n := by
      rcases Nat.lt_or_ge j n with h | h
      · exact h
      · exact absurd hj (tail_waits hs hc hn inv _ i rfl hin hun j h)
    refine ⟨hjn, ?_⟩
    by_cases hji : j = i
    · subst hji; exact hy.wpOp hi hS ⟨hS, H⟩
    · have h1 := (H.2 j (ready_mono hj hji)).2
      obtain ⟨hjun, oj, hoj, hall⟩ := mem_ready.1 hj
      have hnot : ∀ e ∈ oj.after, Region.binds md e = true → e.on ≠ i := fun e he hb heq => by
        have h1 := hall e he hb
        rw [heq, getD_both hun] at h1
        cases h1
      have h2 := wpOp_putIf hoj (hfree j oj hoj hji hjun hnot) (fun cs b => hsel i oi cs b hi) (fun cs b => hsel j oj cs b hoj) hQ hy h1
      have hfree' : ∀ k ok, ops[k]? = some ok → k ≠ i → (listed.setIfInBounds j true).getD k true = false →
          (∀ e ∈ ok.after, Region.binds md e = true → e.on ≠ i) → oi.apart ops ok = true := fun k ok hk hki hun hno => by
        refine hfree k ok hk hki ?_ hno
        by_cases hjk : j = k
        · subst hjk; exact hjun
        · rw [getD_set_ne true hjk] at hun; exact hun
      refine wpOp_mono (fun a' w' h3 => ⟨h3.2.1, ih (listed.setIfInBounds j true) a' w' (inv.set hj hjn) hfree' (ready_mono hr (Ne.symm hji)) h3.1 h3.2.1 ?_⟩) h2
      rw [Array.setIfInBounds_comm _ _ hji]
      exact h3.2.2
end

section
variable {P : Program} {l : List Oper} {Q : Exit → Act → World → Prop} {md : Region.Mode} {S : World → Prop} {n : Nat}

/-- What is asked of the region's text. -/
def partsB (md : Region.Mode) (l : List Oper) (n : Nat) : Bool :=
  Region.noSelect l.toArray && decide (n < l.toArray.size) && Region.sinkB md l.toArray n && Region.chainB md l.toArray n
/-- The state in which the tail stands. -/
def tailOf (P : Program) (md : Region.Mode) (l : List Oper) (Q : Exit → Act → World → Prop) (n : Nat) (listed : Array Bool) (a : Act) (w : World) : Prop :=
  Region.seqB md l.toArray (l.toArray.size - n) n listed = true ∧ wpList P l.toArray Q (l.drop n) a w
/-- The walk's goal: f operations of the head are still to come. -/
def HeadAt (P : Program) (md : Region.Mode) (l : List Oper) (Q : Exit → Act → World → Prop) (S : World → Prop) (n f : Nat) (listed : Array Bool) (a : Act) (w : World) : Prop :=
  partsB md l n = true → HeadInv md l.toArray n listed → wpHead P md l.toArray Q S n (tailOf P md l Q n) f listed a w

theorem partsB_spec (h : partsB md l n = true) : Region.noSelect l.toArray = true ∧ n < l.toArray.size ∧ Region.sinkB md l.toArray n = true ∧ Region.chainB md l.toArray n = true := by
  simp only [partsB, Bool.and_eq_true, decide_eq_true_eq] at h
  exact ⟨h.1.1.1, h.1.1.2, h.1.2, h.2⟩
theorem tailOf_ready (listed : Array Bool) (a : Act) (w : World) (h : tailOf P md l Q n listed a w) : ∀ j ∈ Region.ready md l.toArray listed, n ≤ j := seqB_ready h.1

/-- THE BEGINNING. -/
theorem wp_region_head {id : Nat} {a : Act} {w : World} (n : Nat) (S : World → Prop) (hm : P.follows .mixedOrders = true) (hB : partsB .any l n = true)
    (h : HeadAt P .any l Q S n n (Array.replicate l.length false) a w.drew) : (Code.region id l.toArray true).wp P Q a w := by
  obtain ⟨_, hn, _, _⟩ := partsB_spec hB
  have inv0 : HeadInv .any l.toArray n (Array.replicate l.length false) :=
    ⟨by simp, fun j oj _ hl => (by rw [getD_replicate_false] at hl; cases hl), fun t _ ht => getD_in (by simpa using ht) (getD_replicate_false _ _)⟩
  refine wp_region_any hm ?_
  have := wpAny_of_wpHead (Q := Q) (g := l.toArray.size - n) (fun listed a' w' hL => by
    have := wpAny_of_seq (md := .any) (Q' := Q) (l.drop n) n listed a' w' (fun j => by simp [List.getElem?_drop]) (by rw [List.length_drop]; simpa using hL.1) hL.2
    rw [List.length_drop] at this
    simpa using this) _ _ _ _ (h hB inv0)
  rw [show n + (l.toArray.size - n) = l.toArray.size by omega] at this
  simpa using this

/-- THE END: the tail, in the order of the text. -/
theorem head_done {listed : Array Bool} {a : Act} {w : World} (hB : Region.seqB md l.toArray (l.toArray.size - n) n listed = true) (h : wpList P l.toArray Q (l.drop n) a w) :
    HeadAt P md l Q S n 0 listed a w := fun _ _ => ⟨hB, h⟩

/-! ### Operations that are taken first, in the order of the text: those that a list of Bools marks -/
def takesM (P : Program) (ops : Array Oper) (S : World → Prop) (K : Act → Prop) : List Oper → List Bool → Act → Prop
  | o :: os, true :: bs, a => ∃ v, YieldsIf P ops S o v a ∧ takesM P ops S K os bs (a.put o.dst v)
  | _ :: os, false :: bs, a => takesM P ops S K os bs a
  | _, _, a => K a
def takesB (md : Region.Mode) (ops : Array Oper) (n : Nat) : Nat → List Bool → Array Bool → Bool
  | k, true :: bs, listed => decide (k < n) && (Region.ready md ops listed).contains k && Region.free md ops listed k && takesB md ops n (k + 1) bs (listed.setIfInBounds k true)
  | k, false :: bs, listed => takesB md ops n (k + 1) bs listed
  | _, [], _ => true
def endL : Nat → List Bool → Array Bool → Array Bool
  | k, true :: bs, listed => endL (k + 1) bs (listed.setIfInBounds k true)
  | k, false :: bs, listed => endL (k + 1) bs listed
  | _, [], listed => listed
def trues : List Bool → Nat
  | true :: bs => trues bs + 1
  | false :: bs => trues bs
  | [] => 0

theorem takes_aux (hp : partsB md l n = true) (hQ : ∀ c a d v w, Q (.panic c) (Act.put a d v) w → Q (.panic c) a w) (w : World) (hS : S w) (f : Nat) (le : Array Bool) :
    ∀ (os : List Oper) (bs : List Bool) (k : Nat) (listed : Array Bool) (a : Act), (∀ j, os[j]? = l[k + j]?) → bs.length ≤ os.length → takesB md l.toArray n k bs listed = true → endL k bs listed = le →
      takesM P l.toArray S (fun a' => HeadAt P md l Q S n f le a' w) os bs a → HeadAt P md l Q S n (f + trues bs) listed a w
  | o :: os, true :: bs, k, listed, a, hl, hlen, hB, hE, h => fun _ inv => by
    obtain ⟨v, hy, h⟩ := h
    obtain ⟨hsel, hn, hs, hc⟩ := partsB_spec hp
    simp only [takesB, Bool.and_eq_true, decide_eq_true_eq] at hB
    obtain ⟨⟨⟨hk, hr⟩, hf⟩, hB⟩ := hB
    have h0 : l.toArray[k]? = some o := by have := (hl 0).symm; simpa using this
    have hr' : k ∈ Region.ready md l.toArray listed := by simpa using hr
    have ih := takes_aux hp hQ w hS f le os bs (k + 1) _ (a.put o.dst v) (fun j => by have := hl (j + 1); simpa [Nat.add_assoc, Nat.add_comm 1 j] using this) (by simp at hlen; omega) hB hE h hp (inv.set hr' hk)
    exact wpHead_first h0 (Region.noSelect_spec hsel) hs hc hn hk tailOf_ready (fun c a w => hQ c a _ _ w) _ listed a w inv (Region.free_spec h0 hf) hr' hy hS ih
  | o :: os, false :: bs, k, listed, a, hl, hlen, hB, hE, h => fun _ inv =>
    takes_aux hp hQ w hS f le os bs (k + 1) listed a (fun j => by have := hl (j + 1); simpa [Nat.add_assoc, Nat.add_comm 1 j] using this) (by simp at hlen; omega) hB hE h hp inv
  | [], [], k, listed, a, _, _, _, hE, h => fun _ inv => by
    simp only [endL] at hE
    subst hE
    exact h hp inv
  | _ :: _, [], k, listed, a, _, _, _, hE, h => fun _ inv => by
    simp only [endL] at hE
    subst hE
    exact h hp inv
  | [], _ :: _, _, _, _, _, hlen, _, _, _ => by simp at hlen

/-- THE TAKES. -/
theorem head_takes {f g : Nat} {listed le : Array Bool} {a : Act} {w : World} (bs : List Bool) (hB : takesB md l.toArray n 0 bs listed = true) (hE : endL 0 bs listed = le) (hlen : bs.length ≤ l.length) (hg : g = f + trues bs)
    (hQ : ∀ c a d v w, Q (.panic c) (Act.put a d v) w → Q (.panic c) a w) (hS : S w) (h : takesM P l.toArray S (fun a' => HeadAt P md l Q S n f le a' w) l bs a) : HeadAt P md l Q S n g listed a w := fun hp inv => by
  subst hg
  exact takes_aux hp hQ w hS f le l bs 0 listed a (fun j => by rw [Nat.zero_add]) hlen hB hE h hp inv
theorem takes_skip {ops : Array Oper} {K : Act → Prop} {o : Oper} {os : List Oper} {bs : List Bool} {a : Act} (h : takesM P ops S K os bs a) : takesM P ops S K (o :: os) (false :: bs) a := h
theorem takes_one {ops : Array Oper} {K : Act → Prop} {o : Oper} {os : List Oper} {bs : List Bool} {a : Act} {v : Value} (hw : Region.wanted o (yielded ops a.tmps) = true)
    (hy : ∀ w, S w → (execOp a.eval o).run P w = .ok (.value v) w) (h : takesM P ops S K os bs (a.put o.dst v)) : takesM P ops S K (o :: os) (true :: bs) a := ⟨v, .inl ⟨hw, hy⟩, h⟩
theorem takes_end {ops : Array Oper} {K : Act → Prop} {os : List Oper} {a : Act} (h : K a) : takesM P ops S K os [] a := by cases os <;> exact h

/-! ### Whichever comes up -/
def Sealed (p : Prop) : Prop := p
theorem Sealed.out {p : Prop} (h : Sealed p) : p := h
def waysM (P : Program) (ops : Array Oper) (Q : Exit → Act → World → Prop) (C : Nat → Act → World → Prop) (a : Act) (w : World) : Nat → List Oper → List Bool → Prop
  | k, o :: os, true :: bs => (∀ K : Act → World → Prop, Sealed (∀ a' w', C k a' w' → K a' w') → if Region.wanted o (yielded ops a.tmps) = true then Oper.wp P o a w K Q else K (a.put o.dst undef) w) ∧ waysM P ops Q C a w (k + 1) os bs
  | k, _ :: os, false :: bs => waysM P ops Q C a w (k + 1) os bs
  | _, _, _ => True
def picks : Nat → List Bool → List Nat
  | k, true :: bs => k :: picks (k + 1) bs
  | k, false :: bs => picks (k + 1) bs
  | _, [] => []
theorem ways_spec {C : Nat → Act → World → Prop} {a : Act} {w : World} : ∀ (os : List Oper) (bs : List Bool) (k : Nat), (∀ j, os[j]? = l[k + j]?) → bs.length ≤ os.length → waysM P l.toArray Q C a w k os bs →
    ∀ i ∈ picks k bs, i < k + bs.length ∧ wpOp P l.toArray Q i (C i) a w
  | o :: os, true :: bs, k, hl, hlen, h => fun i hi => by
    rcases List.mem_cons.1 hi with rfl | hi
    · have h0 : l.toArray[i]? = some o := by have := (hl 0).symm; simpa using this
      exact ⟨by simp, wpOp_step h0 fun K hK => h.1 K hK⟩
    · have := ways_spec os bs (k + 1) (fun j => by have := hl (j + 1); simpa [Nat.add_assoc, Nat.add_comm 1 j] using this) (by simp at hlen; omega) h.2 i hi
      exact ⟨by have := this.1; simp; omega, this.2⟩
  | o :: os, false :: bs, k, hl, hlen, h => fun i hi => by
    have := ways_spec os bs (k + 1) (fun j => by have := hl (j + 1); simpa [Nat.add_assoc, Nat.add_comm 1 j] using this) (by simp at hlen; omega) h i hi
    exact ⟨by have := this.1; simp; omega, this.2⟩
  | [], [], _, _, _, _ => fun i hi => by cases hi
  | _ :: _, [], _, _, _, _ => fun i hi => by cases hi
  | [], _ :: _, _, _, hlen, _ => by simp at hlen

/-- WHICHEVER COMES UP of those that the list of Bools marks. -/
theorem head_ways {f : Nat} {listed : Array Bool} {a : Act} {w : World} (bs : List Bool) (hr : Region.ready md l.toArray listed = picks 0 bs) (hne : (picks 0 bs).isEmpty = false) (hlen : bs.length ≤ n) (hn : n ≤ l.length)
    (h : waysM P l.toArray Q (fun i a' w' => S w' ∧ HeadAt P md l Q S n f (listed.setIfInBounds i true) a' w') a w 0 l bs) : HeadAt P md l Q S n (f + 1) listed a w := fun hp inv => by
  have hs := ways_spec l bs 0 (fun j => by rw [Nat.zero_add]) (by omega) h
  refine ⟨fun h0 => ?_, fun i hi => ?_⟩
  · rw [hr] at h0
    rw [h0] at hne
    cases hne
  · have hi' := hi
    rw [hr] at hi'
    obtain ⟨h1, h2⟩ := hs i hi'
    have hin : i < n := by omega
    exact ⟨hin, wpOp_mono (fun a' w' h' => ⟨h'.1, h'.2 hp (inv.set hi hin)⟩) h2⟩
theorem ways_skip {ops : Array Oper} {C : Nat → Act → World → Prop} {a : Act} {w : World} {k : Nat} {o : Oper} {os : List Oper} {bs : List Bool} (h : waysM P ops Q C a w (k + 1) os bs) : waysM P ops Q C a w k (o :: os) (false :: bs) := h
theorem ways_one {ops : Array Oper} {C : Nat → Act → World → Prop} {a : Act} {w : World} {k : Nat} {o : Oper} {os : List Oper} {bs : List Bool}
    (h1 : ∀ K : Act → World → Prop, Sealed (∀ a' w', C k a' w' → K a' w') → if Region.wanted o (yielded ops a.tmps) = true then Oper.wp P o a w K Q else K (a.put o.dst undef) w)
    (h : waysM P ops Q C a w (k + 1) os bs) : waysM P ops Q C a w k (o :: os) (true :: bs) := ⟨h1, h⟩
theorem ways_end {ops : Array Oper} {C : Nat → Act → World → Prop} {a : Act} {w : World} {k : Nat} {os : List Oper} : waysM P ops Q C a w k os [] := by cases os <;> trivial
end
end Go.Proofs.Ytnlmplllfgfgoaa.Kt
