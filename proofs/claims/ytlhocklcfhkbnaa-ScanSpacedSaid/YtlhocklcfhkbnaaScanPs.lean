/-
  PLAIN FACTS ON TOKENS WRITTEN WITH GAPS BETWEEN THEM: they are read back, each with its line. No program is named here.
-/
import Derived.Test.YtlhocklcfhkbnaaScanPt
import Derived.Test.YtlhocklcfhkbnaaScanPc
import Derived.Lib.Strings
namespace Go.Proofs.Ytlhocklcfhkbnaa.Sp
set_option linter.unusedSimpArgs false
set_option linter.unusedVariables false

def flush (cur : List UInt8) : List (List UInt8) := if cur = [] then [] else [cur]
/-- The tokens of a line, byte by byte; cur: the token at hand. -/
def tokS : List UInt8 → List UInt8 → List (List UInt8)
  | cur, [] => flush cur
  | cur, c :: r => if c = 35 then flush cur else if blankB c = true then flush cur ++ tokS [] r else if markB c = true then flush cur ++ [c] :: tokS [] r else tokS (cur ++ [c]) r

theorem stop_parts {c : UInt8} (h : stopB c = false) : ¬ c = 35 ∧ blankB c = false ∧ markB c = false := by
  unfold stopB at h
  simp only [Bool.or_eq_false_iff] at h
  exact ⟨by simpa using h.2, h.1.1, h.1.2⟩
theorem tokS_word (c : UInt8) (r cur : List UInt8) (h : stopB c = false) : tokS cur (c :: r) = tokS (cur ++ [c]) r := by
  obtain ⟨h1, h2, h3⟩ := stop_parts h
  rw [tokS, if_neg h1, if_neg (by simp [h2]), if_neg (by simp [h3])]
theorem tokS_run : ∀ (l cur r : List UInt8), l.all (fun c => !stopB c) = true → tokS cur (l ++ r) = tokS (cur ++ l) r
  | [], cur, r, _ => by simp
  | c :: l, cur, r, h => by
    rw [List.all_cons, Bool.and_eq_true] at h
    rw [List.cons_append, tokS_word c (l ++ r) cur (by simpa using h.1), tokS_run l (cur ++ [c]) r h.2]
    simp
/-- Behind a token stands its end. -/
theorem tokS_flush (cur r : List UInt8) (hc : cur ≠ []) (hr : ∀ c t, r = c :: t → stopB c = true) : tokS cur r = cur :: tokS [] r := by
  cases r with
  | nil => simp [tokS, flush, hc]
  | cons c t =>
    have hs := hr c t rfl
    rw [tokS, tokS]
    by_cases h35 : c = 35
    · simp [h35, flush, hc]
    · by_cases hb : blankB c = true
      · simp [h35, hb, flush, hc]
      · by_cases hm : markB c = true
        · simp [h35, hb, hm, flush, hc]
        · exfalso
          have := stop_false h35 (by simpa using hb) (by simpa using hm)
          rw [this] at hs; cases hs

theorem drop_split (p : UInt8 → Bool) (l : List UInt8) : l = l.takeWhile p ++ l.dropWhile p := (List.takeWhile_append_dropWhile ..).symm
theorem takeWhile_all (p : UInt8 → Bool) : ∀ l : List UInt8, (l.takeWhile p).all p = true
  | [] => rfl
  | c :: l => by
    rw [List.takeWhile_cons]
    split
    · rename_i h; rw [List.all_cons, h, takeWhile_all p l]; rfl
    · rfl
theorem dropWhile_head (p : UInt8 → Bool) : ∀ (l : List UInt8) (c : UInt8) (t : List UInt8), l.dropWhile p = c :: t → p c = false
  | [], c, t, h => by cases h
  | b :: l, c, t, h => by
    rw [List.dropWhile_cons] at h
    split at h
    · exact dropWhile_head p l c t h
    · rename_i hb
      simp only [List.cons.injEq] at h
      rw [← h.1]; simpa using hb
theorem drop_takeWhile (p : UInt8 → Bool) : ∀ l : List UInt8, l.drop (l.takeWhile p).length = l.dropWhile p
  | [] => rfl
  | c :: l => by
    rw [List.takeWhile_cons, List.dropWhile_cons]
    split
    · rw [List.length_cons, List.drop_succ_cons, drop_takeWhile p l]
    · rfl

theorem tokF_list (t : ByteArray) : ∀ (f i : Nat), t.size - i ≤ f → datas (tokF t i) = tokS [] (t.data.toList.drop i)
  | f, i, hf => by
    by_cases hi : i < t.size
    · cases f with
      | zero => omega
      | succ f =>
        by_cases hc : t[i]'hi = 35
        · rw [tokF_comment t i hi hc, drop_data t i hi, tokS, if_pos hc]; rfl
        · by_cases hb : blankB (t[i]'hi) = true
          · rw [tokF_blank t i hi hc hb, drop_data t i hi, tokS, if_neg hc, if_pos hb, tokF_list t f (i + 1) (by omega)]; rfl
          · have hb' : blankB (t[i]'hi) = false := by simpa using hb
            by_cases hm : markB (t[i]'hi) = true
            · rw [tokF_mark t i hi hc hb' hm, drop_data t i hi, tokS, if_neg hc, if_neg hb, if_pos hm]
              have ih := tokF_list t f (i + 1) (by omega)
              simp only [datas, List.map_cons] at ih ⊢
              rw [ih, Lib.extract_data, show i + 1 - i = 1 by omega, drop_data t i hi]
              simp [flush]
            · have hm' : markB (t[i]'hi) = false := by simpa using hm
              have hs := stop_false hc hb' hm'
              have hg := endAt_gt stopB t i hi hs
              rw [tokF_word t i hi hc hb' hm']
              have ih := tokF_list t f (endAt stopB t.data.toList i) (by omega)
              have e : endAt stopB t.data.toList i = i + ((t.data.toList.drop i).takeWhile (fun c => !stopB c)).length := rfl
              have hne : (t.data.toList.drop i).takeWhile (fun c => !stopB c) ≠ [] := by
                rw [drop_data t i hi, List.takeWhile_cons]; simp [hs]
              have e2 : t.data.toList.drop (endAt stopB t.data.toList i) = (t.data.toList.drop i).dropWhile (fun c => !stopB c) := by
                rw [e, ← List.drop_drop, drop_takeWhile]
              simp only [datas, List.map_cons] at ih ⊢
              rw [ih, e2, Lib.extract_data]
              have e3 : ((t.data.toList.drop i).take (endAt stopB t.data.toList i - i)) = (t.data.toList.drop i).takeWhile (fun c => !stopB c) := by
                have := List.take_left (l₁ := (t.data.toList.drop i).takeWhile (fun c => !stopB c)) (l₂ := (t.data.toList.drop i).dropWhile (fun c => !stopB c))
                rw [← drop_split] at this
                rw [e, Nat.add_sub_cancel_left]; exact this
              rw [e3]
              have e4 := drop_split (fun c => !stopB c) (t.data.toList.drop i)
              have e5 := tokS_run ((t.data.toList.drop i).takeWhile (fun c => !stopB c)) [] ((t.data.toList.drop i).dropWhile (fun c => !stopB c)) (takeWhile_all _ _)
              rw [← e4, List.nil_append] at e5
              rw [e5, tokS_flush _ _ hne (fun c r hr => by have := dropWhile_head _ _ c r hr; simpa using this)]
    · rw [tokF_end t i hi, List.drop_eq_nil_of_le (by simp; omega)]; rfl

def tokensD : List (List UInt8) → Nat → List (Nat × List UInt8)
  | [], _ => []
  | l :: r, n => (tokS [] l).map (fun x => (n, x)) ++ tokensD r (n + 1)
def pairD (l : List (Nat × ByteArray)) : List (Nat × List UInt8) := l.map fun p => (p.1, p.2.data.toList)
theorem pairD_inj : ∀ {x y : List (Nat × ByteArray)}, pairD x = pairD y → x = y
  | [], [], _ => rfl
  | [], _ :: _, h => by simp [pairD] at h
  | _ :: _, [], h => by simp [pairD] at h
  | (n, s) :: x, (m, t) :: y, h => by
    have h1 : (n, s.data.toList) = (m, t.data.toList) := by have := congrArg List.head? h; simpa [pairD] using this
    have h2 : pairD x = pairD y := by have := congrArg List.tail h; simpa [pairD] using this
    simp only [Prod.mk.injEq] at h1
    rw [h1.1, data_inj h1.2, pairD_inj h2]
theorem tokensF_list : ∀ (ls : List ByteArray) (n : Nat), pairD (tokensF ls n) = tokensD (datas ls) n
  | [], _ => rfl
  | t :: r, n => by
    have h := tokF_list t t.size 0 (by omega)
    rw [List.drop_zero] at h
    have e : pairD ((tokF t 0).map (fun x => (n, x))) = (datas (tokF t 0)).map (fun x => (n, x)) := by simp [pairD, datas]
    rw [tokensF]
    have e2 : pairD ((tokF t 0).map (fun x => (n, x)) ++ tokensF r (n + 1)) = pairD ((tokF t 0).map (fun x => (n, x))) ++ pairD (tokensF r (n + 1)) := List.map_append ..
    rw [e2, e, h, tokensF_list r (n + 1)]
    rfl
theorem toksL_list (s : ByteArray) (h : errL s = 0) : pairD (toksL s) = tokensD (spl [] s.data.toList) 1 := by
  unfold toksL; rw [tokensF_list, linesL_ok h, linesF_list]

/-! ### Words and gaps -/
def gapB : Nat → List UInt8
  | 0 => [32]
  | 1 => [9]
  | 2 => [10]
  | _ => [32, 35, 32, 123, 32, 120, 32, 59, 10]
def tokW (w : List UInt8) : Prop := (∃ c, w = [c] ∧ markB c = true) ∨ (w ≠ [] ∧ w.all (fun c => !stopB c && !(c == 10)) = true)
def flat2 : List (ByteArray × Nat) → List UInt8
  | [] => []
  | (w, g) :: r => w.data.toList ++ (gapB g ++ flat2 r)
def exp2 : List (ByteArray × Nat) → Nat → List (Nat × ByteArray)
  | [], _ => []
  | (w, g) :: r, n => (n, w) :: exp2 r (if 1 < g then n + 1 else n)

/-- A line so far: no comment in it, and a blank at its end. -/
def closedL (cur : List UInt8) : Prop := cur = [] ∨ ∃ l b, cur = l ++ [b] ∧ blankB b = true ∧ ∀ c ∈ l, ¬ c = 35
theorem tokS_closed (b : UInt8) (hb : blankB b = true) (X : List UInt8) : ∀ (l cur : List UInt8), (∀ c ∈ l, ¬ c = 35) → tokS cur (l ++ [b] ++ X) = tokS cur (l ++ [b]) ++ tokS [] X
  | [], cur, _ => by
    have h35 : ¬ b = 35 := by rintro rfl; cases hb
    simp [tokS, h35, hb, flush]
  | c :: l, cur, h => by
    have hc : ¬ c = 35 := h c (List.mem_cons_self ..)
    have ih := fun cur => tokS_closed b hb X l cur (fun x hx => h x (List.mem_cons_of_mem _ hx))
    rw [List.cons_append, List.cons_append, tokS, tokS, if_neg hc, if_neg hc]
    split
    · rw [ih, List.append_assoc]
    · split
      · rw [ih, List.append_assoc]; rfl
      · rw [ih]
theorem tokS_split {cur : List UInt8} (h : closedL cur) (Y : List UInt8) : tokS [] (cur ++ Y) = tokS [] cur ++ tokS [] Y := by
  rcases h with rfl | ⟨l, b, rfl, hb, h35⟩
  · simp [tokS, flush]
  · exact tokS_closed b hb Y l [] h35
/-- One token, and what ends it. -/
theorem tokS_tok {w : List UInt8} (h : tokW w) (Y : List UInt8) (hY : ∀ c t, Y = c :: t → stopB c = true) : tokS [] (w ++ Y) = w :: tokS [] Y := by
  rcases h with ⟨c, rfl, hm⟩ | ⟨hne, hall⟩
  · have h35 : ¬ c = 35 := by rintro rfl; cases hm
    have hb : blankB c = false := by
      rw [mark_int] at hm; rw [blank_int]; simp at hm ⊢; omega
    rw [List.cons_append, List.nil_append, tokS, if_neg h35, if_neg (by simp [hb]), if_pos hm]; rfl
  · have h2 : w.all (fun c => !stopB c) = true := by
      rw [List.all_eq_true] at hall ⊢
      intro c hc; have := hall c hc; rw [Bool.and_eq_true] at this; exact this.1
    rw [tokS_run w [] Y h2, List.nil_append, tokS_flush w Y hne hY]
theorem tokW_nl {w : List UInt8} (h : tokW w) : ∀ c ∈ w, ¬ c = 10 ∧ ¬ c = 35 := by
  rcases h with ⟨c, rfl, hm⟩ | ⟨hne, hall⟩
  · intro x hx; rw [List.mem_singleton.1 hx]
    exact ⟨(by rintro rfl; cases hm), (by rintro rfl; cases hm)⟩
  · intro c hc
    rw [List.all_eq_true] at hall
    have := hall c hc
    simp only [Bool.and_eq_true, Bool.not_eq_true'] at this
    exact ⟨by simpa using this.2, (stop_parts this.1).1⟩
theorem spl_run : ∀ (l cur r : List UInt8), (∀ c ∈ l, ¬ c = 10) → spl cur (l ++ r) = spl (cur ++ l) r
  | [], cur, r, _ => by simp
  | c :: l, cur, r, h => by
    rw [List.cons_append, spl, if_neg (h c (List.mem_cons_self ..)), spl_run l (cur ++ [c]) r (fun x hx => h x (List.mem_cons_of_mem _ hx))]
    simp
theorem closed_word {cur w : List UInt8} (h : closedL cur) (hw : ∀ c ∈ w, ¬ c = 10 ∧ ¬ c = 35) (b : UInt8) (hb : blankB b = true) : closedL (cur ++ w ++ [b]) := by
  refine .inr ⟨cur ++ w, b, rfl, hb, ?_⟩
  intro c hc
  rcases List.mem_append.1 hc with hc | hc
  · rcases h with rfl | ⟨l, b', rfl, hb', h35⟩
    · cases hc
    · rcases List.mem_append.1 hc with hc | hc
      · exact h35 c hc
      · rw [List.mem_singleton.1 hc]; rintro rfl; cases hb'
  · exact (hw c hc).2

theorem spaced : ∀ (items : List (ByteArray × Nat)) (cur : List UInt8) (n : Nat), closedL cur → (∀ p ∈ items, tokW p.1.data.toList) →
    tokensD (spl cur (flat2 items)) n = (tokS [] cur).map (fun x => (n, x)) ++ pairD (exp2 items n)
  | [], cur, n, hcur, _ => by
    rw [flat2, spl]
    split
    · rename_i h; subst h; rfl
    · rfl
  | (w, g) :: r, cur, n, hcur, hw => by
    have hT := hw (w, g) (List.mem_cons_self ..)
    have hN := tokW_nl hT
    have hr := fun p hp => hw p (List.mem_cons_of_mem _ hp)
    rw [flat2, spl_run w.data.toList cur _ (fun c hc => (hN c hc).1)]
    have blank : ∀ b : UInt8, blankB b = true → ¬ b = 10 → tokensD (spl (cur ++ w.data.toList) ([b] ++ flat2 r)) n = (tokS [] cur).map (fun x => (n, x)) ++ pairD ((n, w) :: exp2 r n) := by
      intro b hb h10
      have hbs : stopB b = true := by unfold stopB; rw [hb]; rfl
      rw [spl_run [b] _ _ (by intro c hc; rw [List.mem_singleton.1 hc]; exact h10), spaced r _ n (closed_word hcur hN b hb) hr, List.append_assoc cur, tokS_split hcur,
        tokS_tok hT [b] (by intro c t e; simp only [List.cons.injEq] at e; rw [← e.1]; exact hbs)]
      have e : tokS [] [b] = [] := by
        have h35 : ¬ b = 35 := by rintro rfl; cases hb
        simp [tokS, h35, hb, flush]
      rw [e]; simp [pairD]
    have feed : ∀ Z : List UInt8, (∀ c ∈ Z, ¬ c = 10) → (∀ c t, Z = c :: t → stopB c = true) → tokS [] Z = [] → tokensD (spl (cur ++ w.data.toList) (Z ++ ([10] ++ flat2 r))) n = (tokS [] cur).map (fun x => (n, x)) ++ pairD ((n, w) :: exp2 r (n + 1)) := by
      intro Z h10 hst hnil
      rw [spl_run Z _ _ h10, List.cons_append, List.nil_append, spl, if_pos rfl, tokensD, spaced r [] (n + 1) (.inl rfl) hr, List.append_assoc cur, tokS_split hcur, tokS_tok hT Z hst, hnil]
      simp [pairD, tokS, flush]
    match g with
    | 0 => exact blank 32 rfl (by decide)
    | 1 => exact blank 9 rfl (by decide)
    | 2 =>
      exact feed [] (by intro c hc; cases hc) (by intro c t e; cases e) rfl
    | g + 3 =>
      have := feed [32, 35, 32, 123, 32, 120, 32, 59] (by decide) (by intro c t e; simp only [List.cons.injEq] at e; rw [← e.1]; rfl) (by decide)
      have e : exp2 ((w, g + 3) :: r) n = (n, w) :: exp2 r (n + 1) := by rw [exp2, if_pos (by omega)]
      rw [e]
      exact this
end Go.Proofs.Ytlhocklcfhkbnaa.Sp
