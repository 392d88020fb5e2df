/-
  PLAIN FACTS ON LINES, OVER LISTS: how the lines of two texts joined by a line feed are made. No program is named here.
-/
import Derived.Test.YtlhocklcfhkbnaaScanPl
import Derived.Lib.Strings
namespace Go.Proofs.Ytlhocklcfhkbnaa.Sp
set_option linter.unusedSimpArgs false
set_option linter.unusedVariables false

def spl : List UInt8 → List UInt8 → List (List UInt8)
  | cur, [] => if cur = [] then [] else [cur]
  | cur, c :: r => if c = 10 then cur :: spl [] r else spl (cur ++ [c]) r

theorem spl_join (b : List UInt8) : ∀ (a cur : List UInt8), spl cur (a ++ 10 :: b) = spl cur (a ++ [10]) ++ spl [] b
  | [], cur => by simp [spl]
  | c :: a, cur => by
    rw [List.cons_append, List.cons_append, spl, spl]
    by_cases hc : c = 10
    · rw [if_pos hc, if_pos hc, spl_join b a []]; rfl
    · rw [if_neg hc, if_neg hc, spl_join b a (cur ++ [c])]

def datas (l : List ByteArray) : List (List UInt8) := l.map fun x => x.data.toList
theorem data_inj {s t : ByteArray} (h : s.data.toList = t.data.toList) : s = t := by
  cases s; cases t
  simp only [ByteArray.mk.injEq] at h ⊢
  exact Array.toList_inj.1 h
theorem datas_inj : ∀ {x y : List ByteArray}, datas x = datas y → x = y
  | [], [], _ => rfl
  | [], _ :: _, h => by simp [datas] at h
  | _ :: _, [], h => by simp [datas] at h
  | s :: x, t :: y, h => by
    have h1 : s.data.toList = t.data.toList := by have := congrArg List.head? h; simpa [datas] using this
    have h2 : datas x = datas y := by have := congrArg List.tail h; simpa [datas] using this
    rw [data_inj h1, datas_inj h2]

theorem linesF_spl (s : ByteArray) : ∀ (f st i : Nat), s.size - i ≤ f → st ≤ i → i ≤ s.size → datas (linesF s st i) = spl ((s.data.toList.take i).drop st) (s.data.toList.drop i)
  | 0, st, i, hf, h1, h2 => by
    have hi : i = s.size := by omega
    subst hi
    rw [linesF_end s st s.size (by omega), List.take_of_length_le (by simp), List.drop_eq_nil_of_le (i := s.size) (by simp), spl]
    by_cases hlt : st < s.size
    · rw [if_pos hlt, if_neg (by intro e; have := congrArg List.length e; simp at this; omega)]
      simp only [datas, List.map_cons, List.map_nil, Lib.extract_data]
      rw [List.take_of_length_le (by simp)]
    · rw [if_neg hlt, if_pos (List.drop_eq_nil_of_le (by simp; omega))]; rfl
  | f + 1, st, i, hf, h1, h2 => by
    by_cases hlt : i < s.size
    · have ht : (s.data.toList.take (i + 1)).drop st = (s.data.toList.take i).drop st ++ [s[i]'hlt] := by
        rw [take_data s i hlt, List.drop_append_of_le_length (by simp; omega)]
      by_cases hc : s[i]'hlt = 10
      · rw [linesF_nl s st i hlt hc, drop_data s i hlt, spl, if_pos hc]
        have ih := linesF_spl s f (i + 1) (i + 1) (by omega) (by omega) (by omega)
        rw [List.drop_eq_nil_of_le (by simp; omega)] at ih
        rw [← ih]
        simp only [datas, List.map_cons, Lib.extract_data]
        rw [List.drop_take]
      · rw [linesF_no s st i hlt hc, drop_data s i hlt, spl, if_neg hc, linesF_spl s f st (i + 1) (by omega) (by omega) (by omega), ht]
    · have hi : i = s.size := by omega
      subst hi
      rw [linesF_end s st s.size (by omega), List.take_of_length_le (by simp), List.drop_eq_nil_of_le (i := s.size) (by simp), spl]
      by_cases hlt : st < s.size
      · rw [if_pos hlt, if_neg (by intro e; have := congrArg List.length e; simp at this; omega)]
        simp only [datas, List.map_cons, List.map_nil, Lib.extract_data]
        rw [List.take_of_length_le (by simp)]
      · rw [if_neg hlt, if_pos (List.drop_eq_nil_of_le (by simp; omega))]; rfl

theorem linesF_list (s : ByteArray) : datas (linesF s 0 0) = spl [] s.data.toList := by
  have := linesF_spl s s.size 0 0 (by omega) (by omega) (by omega)
  simpa using this

theorem app_data (a b : ByteArray) : (a ++ b).data.toList = a.data.toList ++ b.data.toList := by
  rw [ByteArray.data_append, Array.toList_append]
theorem app_size (a b : ByteArray) : (a ++ b).size = a.size + b.size := ByteArray.size_append ..

theorem linesF_join (a b : ByteArray) : linesF (a ++ ⟨#[10]⟩ ++ b) 0 0 = linesF (a ++ ⟨#[10]⟩) 0 0 ++ linesF b 0 0 := by
  apply datas_inj
  have e : datas (linesF (a ++ ⟨#[10]⟩) 0 0 ++ linesF b 0 0) = datas (linesF (a ++ ⟨#[10]⟩) 0 0) ++ datas (linesF b 0 0) := List.map_append ..
  rw [e, linesF_list, linesF_list, linesF_list, app_data, app_data]
  have := spl_join b.data.toList a.data.toList []
  simpa using this

def textAll (s : ByteArray) : Bool := s.data.toList.all textB
theorem textTo_all (s : ByteArray) : textTo s s.size = textAll s := by unfold textTo textAll; rw [List.take_of_length_le (by simp)]
theorem errL_small {s : ByteArray} (h : s.size ≤ 65536) : errL s = if textAll s then 0 else 2 := by
  unfold errL; rw [if_neg (by omega), textTo_all]
theorem textAll_app (a b : ByteArray) : textAll (a ++ b) = (textAll a && textAll b) := by unfold textAll; rw [app_data, List.all_append]
theorem textAll_nl (a : ByteArray) : textAll (a ++ ⟨#[10]⟩) = textAll a := by rw [textAll_app]; simp [textAll, textB]
end Go.Proofs.Ytlhocklcfhkbnaa.Sp
