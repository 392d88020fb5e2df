/-
  PLAIN FACTS ON WORDS JOINED BY BLANKS: their fields are the words. No program is named here.
-/
import Derived.Test.YtlhocklcfhkbnaaScanPf
import Derived.Test.YtlhocklcfhkbnaaScanPc
import Derived.Lib.Strings
namespace Go.Proofs.Ytlhocklcfhkbnaa.Sp
set_option linter.unusedSimpArgs false
set_option linter.unusedVariables false

/-- A word of ScanJoin. -/
def wordOk (w : ByteArray) : Prop := 1 ≤ w.size ∧ w.size ≤ 40 ∧ w.data.toList.head? ≠ some 33 ∧ w.data.toList.all (fun c => !blankB c) = true
def flatL : List ByteArray → List UInt8
  | [] => []
  | w :: r => w.data.toList ++ 32 :: flatL r
theorem flatL_append : ∀ (a b : List ByteArray), flatL (a ++ b) = flatL a ++ flatL b
  | [], _ => rfl
  | w :: r, b => by rw [List.cons_append, flatL, flatL, flatL_append r b]; simp
theorem flatL_snoc (a : List ByteArray) (w : ByteArray) : flatL (a ++ [w]) = flatL a ++ w.data.toList ++ [32] := by
  rw [flatL_append]; simp [flatL]

theorem takeWhile_word (p : UInt8 → Bool) : ∀ (l : List UInt8) (c : UInt8) (r : List UInt8), l.all p = true → p c = false → (l ++ c :: r).takeWhile p = l
  | [], c, r, _, hc => by simp [hc]
  | b :: l, c, r, hl, hc => by
    rw [List.all_cons, Bool.and_eq_true] at hl
    rw [List.cons_append, List.takeWhile_cons, hl.1, if_pos rfl, takeWhile_word p l c r hl.2 hc]

theorem fields_word (s : ByteArray) (c : UInt8) (p : Nat) (w : ByteArray) (rest : List UInt8) (hd : s.data.toList.drop p = w.data.toList ++ 32 :: rest)
    (h1 : 1 ≤ w.size) (hc : w.data.toList.head? ≠ some c) (hb : w.data.toList.all (fun c => !blankB c) = true) :
    fieldsF s c p = w :: fieldsF s c (p + w.size + 1) := by
  have hlen := congrArg List.length hd
  simp only [List.length_drop, len_data, List.length_append, List.length_cons] at hlen
  have hp : p < s.size := by omega
  have hcons := hd
  rw [drop_data s p hp] at hcons
  cases e : w.data.toList with
  | nil => have := congrArg List.length e; simp only [len_data, List.length_nil] at this; omega
  | cons x t =>
    rw [e] at hcons hc hb
    simp only [List.cons_append, List.cons.injEq] at hcons
    have hx : blankB (s[p]'hp) = false := by
      rw [hcons.1]; rw [List.all_cons, Bool.and_eq_true] at hb; simpa using hb.1
    have hxc : ¬ s[p]'hp = c := by rw [hcons.1]; simpa using hc
    have hend : endAt blankB s.data.toList p = p + w.size := by
      unfold endAt
      rw [hd, takeWhile_word _ _ _ _ (by rw [e]; exact hb) (by rfl), len_data]
    rw [fieldsF_word s c p hp hx hxc, hend]
    have hw : s.extract p (p + w.size) = w := by
      apply data_inj
      rw [Lib.extract_data, hd, show p + w.size - p = w.data.toList.length by rw [len_data]; omega, List.take_left]
    have hq : p + w.size < s.size := by omega
    have h32 : s[p + w.size]'hq = 32 := by
      have h2 := congrArg (fun l => l[w.size]?) hd
      simp only [List.getElem?_drop] at h2
      rw [get_data s _ hq, List.getElem?_append_right (by simp)] at h2
      simpa using h2
    rw [hw, fieldsF_blank s c (p + w.size) hq (by rw [h32]; rfl)]

theorem fields_words (s : ByteArray) (c : UInt8) : ∀ (ws : List ByteArray) (p : Nat) (tail : List UInt8), s.data.toList.drop p = flatL ws ++ tail →
    (∀ w ∈ ws, 1 ≤ w.size ∧ w.data.toList.head? ≠ some c ∧ w.data.toList.all (fun c => !blankB c) = true) → ∃ q, fieldsF s c p = ws ++ fieldsF s c q ∧ s.data.toList.drop q = tail
  | [], p, tail, hd, _ => ⟨p, rfl, hd⟩
  | w :: ws, p, tail, hd, hw => by
    have h := hw w (List.mem_cons_self ..)
    rw [flatL] at hd
    have hd' : s.data.toList.drop p = w.data.toList ++ 32 :: (flatL ws ++ tail) := by rw [hd]; simp
    have h2 : s.data.toList.drop (p + w.size + 1) = flatL ws ++ tail := by
      have := congrArg (List.drop (w.size + 1)) hd'
      rw [List.drop_drop] at this
      rw [← Nat.add_assoc] at this
      rw [this]
      have e : w.data.toList ++ 32 :: (flatL ws ++ tail) = (w.data.toList ++ [32]) ++ (flatL ws ++ tail) := by simp
      have el : w.size + 1 = (w.data.toList ++ [32]).length := by simp
      rw [e, el, List.drop_left]
    obtain ⟨q, h3, h4⟩ := fields_words s c ws (p + w.size + 1) tail h2 (fun x hx => hw x (List.mem_cons_of_mem _ hx))
    exact ⟨q, by rw [fields_word s c p w _ hd' h.1 h.2.1 h.2.2, h3]; rfl, h4⟩

theorem fields_nil (s : ByteArray) (c : UInt8) (q : Nat) (h : s.data.toList.drop q = []) : fieldsF s c q = [] := by
  apply fieldsF_end
  have := congrArg List.length h
  simp only [List.length_drop, len_data, List.length_nil] at this
  omega
theorem fields_mark (s : ByteArray) (c : UInt8) (q : Nat) (r : List UInt8) (h : s.data.toList.drop q = c :: r) (hb : blankB c = false) : fieldsF s c q = [] := by
  have hl := congrArg List.length h
  simp only [List.length_drop, len_data, List.length_cons] at hl
  have hq : q < s.size := by omega
  rw [drop_data s q hq] at h
  simp only [List.cons.injEq] at h
  exact fieldsF_comment s c q hq (by rw [h.1]; exact hb) h.1

theorem join_fields (L : ByteArray) (ws : List ByteArray) (h : L.data.toList = flatL ws) (hw : ∀ w ∈ ws, wordOk w) : fieldsF L 33 0 = ws := by
  obtain ⟨q, h1, h2⟩ := fields_words L 33 ws 0 [] (by rw [List.drop_zero, h, List.append_nil]) (fun w hx => ⟨(hw w hx).1, (hw w hx).2.2.1, (hw w hx).2.2.2⟩)
  rw [h1, fields_nil L 33 q h2, List.append_nil]
theorem join_fields2 (L : ByteArray) (ws : List ByteArray) (h : L.data.toList = flatL ws) (hw : ∀ w ∈ ws, wordOk w) : fieldsF (ByteArray.mk #[9] ++ L ++ ByteArray.mk #[33, 120, 32, 121]) 33 0 = ws := by
  have e : (ByteArray.mk #[9] ++ L ++ ByteArray.mk #[33, 120, 32, 121]).data.toList = 9 :: (flatL ws ++ [33, 120, 32, 121]) := by
    rw [app_data, app_data, h]; simp
  have hs : 0 < (ByteArray.mk #[9] ++ L ++ ByteArray.mk #[33, 120, 32, 121]).size := by
    rw [← len_data, e]; simp
  have d1 : (ByteArray.mk #[9] ++ L ++ ByteArray.mk #[33, 120, 32, 121]).data.toList.drop 1 = flatL ws ++ [33, 120, 32, 121] := by rw [e]; rfl
  have h0 : (ByteArray.mk #[9] ++ L ++ ByteArray.mk #[33, 120, 32, 121])[0]'hs = 9 := by
    have h2 := get_data _ 0 hs
    rw [e] at h2
    simpa using h2.symm
  obtain ⟨q, h1, h2⟩ := fields_words _ 33 ws 1 _ d1 (fun w hx => ⟨(hw w hx).1, (hw w hx).2.2.1, (hw w hx).2.2.2⟩)
  rw [fieldsF_blank _ 33 0 hs (by rw [h0]; rfl), h1, fields_mark _ 33 q _ h2 (by rfl), List.append_nil]
end Go.Proofs.Ytlhocklcfhkbnaa.Sp
