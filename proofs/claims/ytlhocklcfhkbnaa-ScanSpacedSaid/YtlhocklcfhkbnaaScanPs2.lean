/-
  PLAIN FACTS ON THE WORDS OF ScanSpaced: they are tokens, the text is a text, and each token has its line. No program is named here.
-/
import Derived.Test.YtlhocklcfhkbnaaScanPs
namespace Go.Proofs.Ytlhocklcfhkbnaa.Sp
set_option linter.unusedSimpArgs false
set_option linter.unusedVariables false

theorem nameB_ok {c : UInt8} (h : nameB c = true) : stopB c = false ∧ (c == 10) = false ∧ textB c = true := by
  unfold nameB at h
  rw [letter_int, digit_int, other_int] at h
  have e10 : (c == 10) = false := by
    rw [beq_eq_false_iff_ne]; rintro rfl; simp at h
  have e35 : (c == 35) = false := by
    rw [beq_eq_false_iff_ne]; rintro rfl; simp at h
  refine ⟨?_, e10, ?_⟩
  · unfold stopB
    rw [blank_int, mark_int, e35]
    simp at h ⊢; omega
  · rw [text_int]; simp at h ⊢; omega
theorem letter_name {c : UInt8} (h : letterB c = true) : nameB c = true := by unfold nameB; rw [h]; rfl

def wordT (w : ByteArray) : Prop := w.data.toList = [123] ∨ w.data.toList = [125] ∨ w.data.toList = [59] ∨ nameL w.data.toList = true
theorem name_parts {l : List UInt8} (h : nameL l = true) : l ≠ [] ∧ l.all nameB = true ∧ l.length ≤ 15 := by
  cases l with
  | nil => cases h
  | cons c t =>
    unfold nameL at h
    simp only [Bool.and_eq_true, decide_eq_true_eq] at h
    refine ⟨by simp, ?_, by simp only [List.length_cons]; omega⟩
    rw [List.all_cons, letter_name h.1.2, h.2]; rfl
theorem wordT_tok {w : ByteArray} (h : wordT w) : tokW w.data.toList := by
  rcases h with h | h | h | h
  · exact .inl ⟨123, h, rfl⟩
  · exact .inl ⟨125, h, rfl⟩
  · exact .inl ⟨59, h, rfl⟩
  · obtain ⟨h1, h2, _⟩ := name_parts h
    refine .inr ⟨h1, ?_⟩
    rw [List.all_eq_true] at h2 ⊢
    intro c hc
    have := nameB_ok (h2 c hc)
    rw [this.1, this.2.1]; rfl
theorem wordT_text {w : ByteArray} (h : wordT w) : w.data.toList.all textB = true := by
  rcases h with h | h | h | h
  · rw [h]; decide
  · rw [h]; decide
  · rw [h]; decide
  · obtain ⟨_, h2, _⟩ := name_parts h
    rw [List.all_eq_true] at h2 ⊢
    exact fun c hc => (nameB_ok (h2 c hc)).2.2
theorem wordT_size {w : ByteArray} (h : wordT w) : w.size ≤ 15 := by
  rw [← len_data]
  rcases h with h | h | h | h
  · rw [h]; simp
  · rw [h]; simp
  · rw [h]; simp
  · exact (name_parts h).2.2
theorem gap_text (g : Nat) : (gapB g).all textB = true := by
  match g with
  | 0 => decide
  | 1 => decide
  | 2 => decide
  | g + 3 => show ([32, 35, 32, 123, 32, 120, 32, 59, 10] : List UInt8).all textB = true; decide
theorem flat2_text : ∀ items : List (ByteArray × Nat), (∀ p ∈ items, wordT p.1) → (flat2 items).all textB = true
  | [], _ => rfl
  | (w, g) :: r, h => by
    rw [flat2, List.all_append, List.all_append, wordT_text (h (w, g) (List.mem_cons_self ..)), gap_text, flat2_text r (fun p hp => h p (List.mem_cons_of_mem _ hp))]; rfl
theorem flat2_append : ∀ a b : List (ByteArray × Nat), flat2 (a ++ b) = flat2 a ++ flat2 b
  | [], _ => rfl
  | (w, g) :: r, b => by rw [List.cons_append, flat2, flat2, flat2_append r b]; simp

def lineAt : List (ByteArray × Nat) → Nat → Nat → Nat
  | [], n, _ => n
  | _ :: _, n, 0 => n
  | (_, g) :: r, n, k + 1 => lineAt r (if 1 < g then n + 1 else n) k
theorem lineAt_zero (items : List (ByteArray × Nat)) (n : Nat) : lineAt items n 0 = n := by cases items <;> rfl
theorem lineAt_step : ∀ (items : List (ByteArray × Nat)) (n k : Nat) (h : k < items.length), lineAt items n (k + 1) = if 1 < (items[k]'h).2 then lineAt items n k + 1 else lineAt items n k
  | [], n, k, h => by cases h
  | (w, g) :: r, n, 0, h => by
    show lineAt r (if 1 < g then n + 1 else n) 0 = if 1 < g then n + 1 else n
    exact lineAt_zero _ _
  | (w, g) :: r, n, k + 1, h => by
    rw [lineAt, lineAt_step r _ k (by simpa using h)]; rfl
theorem lineAt_le : ∀ (items : List (ByteArray × Nat)) (n k : Nat), lineAt items n k ≤ n + k
  | [], n, k => Nat.le_add_right n k
  | _ :: _, n, 0 => Nat.le_refl _
  | (w, g) :: r, n, k + 1 => by
    rw [lineAt]
    have := lineAt_le r (if 1 < g then n + 1 else n) k
    split at this <;> split <;> omega
theorem exp2_len : ∀ (items : List (ByteArray × Nat)) (n : Nat), (exp2 items n).length = items.length
  | [], _ => rfl
  | (w, g) :: r, n => by rw [exp2, List.length_cons, List.length_cons, exp2_len]
theorem exp2_get : ∀ (items : List (ByteArray × Nat)) (n k : Nat) (h : k < items.length), (exp2 items n)[k]? = some (lineAt items n k, (items[k]'h).1)
  | [], n, k, h => by cases h
  | (w, g) :: r, n, 0, h => rfl
  | (w, g) :: r, n, k + 1, h => by
    rw [exp2, List.getElem?_cons_succ, exp2_get r _ k (by simpa using h)]; rfl

/-- The first k words with their gaps. -/
def itemsTo (ws : List ByteArray) (ns : List Int) (k : Nat) : List (ByteArray × Nat) := (List.range k).map fun i => (ws.getD i ByteArray.empty, (ns.getD i 0).toNat % 4)
theorem itemsTo_succ (ws : List ByteArray) (ns : List Int) (k : Nat) : itemsTo ws ns (k + 1) = itemsTo ws ns k ++ [(ws.getD k ByteArray.empty, (ns.getD k 0).toNat % 4)] := by
  unfold itemsTo; rw [List.range_succ, List.map_append]; rfl
theorem itemsTo_len (ws : List ByteArray) (ns : List Int) (k : Nat) : (itemsTo ws ns k).length = k := by simp [itemsTo]
theorem itemsTo_get (ws : List ByteArray) (ns : List Int) (k j : Nat) (h : j < (itemsTo ws ns k).length) : (itemsTo ws ns k)[j]'h = (ws.getD j ByteArray.empty, (ns.getD j 0).toNat % 4) := by
  simp [itemsTo]

/-- What the first loop has made. -/
def SpRel (ws : List ByteArray) (ns : List Int) (k : Nat) (L : ByteArray) : Prop :=
  L.data.toList = flat2 (itemsTo ws ns k) ∧ (∀ p ∈ itemsTo ws ns k, wordT p.1) ∧ L.size ≤ 24 * k
theorem spRel_zero (ws : List ByteArray) (ns : List Int) : SpRel ws ns 0 ⟨#[]⟩ := ⟨rfl, (by intro p hp; cases hp), Nat.le_refl 0⟩
theorem spRel_step {ws : List ByteArray} {ns : List Int} {k : Nat} {L t gb : ByteArray} (h : SpRel ws ns k L) (ht : t = ws.getD k ByteArray.empty) (hw : wordT t)
    (hg : gb.data.toList = gapB ((ns.getD k 0).toNat % 4)) (hgs : gb.size ≤ 9) : SpRel ws ns (k + 1) (L ++ t ++ gb) := by
  obtain ⟨h1, h2, h3⟩ := h
  refine ⟨?_, ?_, ?_⟩
  · rw [itemsTo_succ, flat2_append, app_data, app_data, h1, hg, ← ht]; simp [flat2]
  · intro p hp
    rw [itemsTo_succ, List.mem_append] at hp
    rcases hp with hp | hp
    · exact h2 p hp
    · rw [List.mem_singleton.1 hp]; rw [← ht]; exact hw
  · rw [app_size, app_size]
    have := wordT_size hw
    omega
theorem spRel_toks {ws : List ByteArray} {ns : List Int} {k : Nat} {L : ByteArray} (h : SpRel ws ns k L) (hk : k ≤ 40) : errL L = 0 ∧ toksL L = exp2 (itemsTo ws ns k) 1 := by
  obtain ⟨h1, h2, h3⟩ := h
  have he : errL L = 0 := by
    rw [errL_small (by omega)]
    unfold textAll
    rw [h1, flat2_text _ h2]; rfl
  refine ⟨he, pairD_inj ?_⟩
  rw [toksL_list L he, h1, spaced (itemsTo ws ns k) [] 1 (.inl rfl) (fun p hp => wordT_tok (h2 p hp))]
  simp [tokS, flush]
end Go.Proofs.Ytlhocklcfhkbnaa.Sp
