/-
  THE CONTRACTS OF model.Same AND WHAT IT CALLS.
-/
import Derived.Test.YtlhbfpapmolohaaGreatModK
import Derived.Test.YtlhbfpapmolohaaGreatModQ
import Derived.Test.YtlhbfpapmolohaaGreatModG
import Derived.Test.YtlhbfpapmolohaaGreatModS
namespace Go.Proofs.YtlhbfpapmolohaaGreat.Mw
set_option linter.unusedSimpArgs false
set_option linter.unusedVariables false
open Go.RowKit Kt Mm Mp

theorem strE (a b : ByteArray) : (a.toList == b.toList) = decide (a = b) := str_dec a b
theorem intE (a b : Int) : (a == b) = decide (a = b) := int_dec a b
theorem boolE (a b : Bool) : (a == b) = decide (a = b) := bool_dec a b


set_option maxHeartbeats 2000000 in
theorem smPl (a b : PList) (w : World) (ha : InRow ePRule 5 w a.v a.rules) (hb : InRow ePRule 5 w b.v b.rules) :
    Calls Tryz.prog 52 #[.agg (ePList a).toArray, .agg (ePList b).toArray] w fun e w' => e = .returned (.bool (samePl a b)) ∧ Below w.heap.size w w' := by
  obtain ⟨X, hX⟩ : ∃ X, X = (ePList a).toArray := ⟨_, rfl⟩
  obtain ⟨Y, hY⟩ : ∃ Y, Y = (ePList b).toArray := ⟨_, rfl⟩
  obtain ⟨w2, hw2⟩ : ∃ w2, (w.alloc (.cells X 64)).alloc (.cells Y 64) = w2 := ⟨_, rfl⟩
  have hhX : w2.heap[w.heap.size]? = some (.cells X 64 (0, 0)) := by rw [← hw2, Below.heap_alloc _ _ _ (by simp), heap_new]
  have hhY : w2.heap[w.heap.size + 1]? = some (.cells Y 64 (0, 0)) := by rw [← hw2]; have h := heap_new (w.alloc (.cells X 64)) (.cells Y 64 (0, 0)); rwa [new_size] at h
  have FX0 : ∀ v : World, Below w2.heap.size w2 v → v.cell? ⟨w.heap.size, 0, none⟩ = some (.string a.name) := fun v h => box_at (blk_keep hhX h) (by rw [hX]; rfl)
  have FX1 : ∀ v : World, Below w2.heap.size w2 v → v.cell? ⟨w.heap.size, 1, none⟩ = some (a.v) := fun v h => box_at (blk_keep hhX h) (by rw [hX]; rfl)
  have FY0 : ∀ v : World, Below w2.heap.size w2 v → v.cell? ⟨w.heap.size + 1, 0, none⟩ = some (.string b.name) := fun v h => box_at (blk_keep hhY h) (by rw [hY]; rfl)
  have FY1 : ∀ v : World, Below w2.heap.size w2 v → v.cell? ⟨w.heap.size + 1, 1, none⟩ = some (b.v) := fun v h => box_at (blk_keep hhY h) (by rw [hY]; rfl)
  have Gw2 : Below w2.heap.size w2 w2 := Below.refl _ _
  have Hw2 := hid (show Below w.heap.size w w2 by rw [← hw2]; exact al2 _ _ _)
  have hX' := hid hX
  have hY' := hid hY
  try rw [← hX]
  try rw [← hY]
  clear hX hY hhX hhY
  have hc := fun wx (h : Below w2.heap.size w2 wx) => eqPRule a.v b.v a.rules b.rules wx (rows_keep ha.row (then_ Hw2.out h)) ha.len (rows_keep hb.row (then_ Hw2.out h)) hb.len
  have R := hid (show samePl a b = (decide (a.name = b.name) && decide (a.rules = b.rules)) from rfl)
  obtain ⟨o, ho⟩ : ∃ o, o = decide (a.rules = b.rules) := ⟨_, rfl⟩
  rw [← ho] at hc R
  have hs := strE a.name b.name
  obtain ⟨n, hn⟩ : ∃ n, n = decide (a.name = b.name) := ⟨_, rfl⟩
  rw [← hn] at hs R
  clear ha hb ho hn
  cases n
  all_goals
    go_enter Tryz.func52, Tryz.ntmps52
    repeat' (first | (go_at_call 125; with_reducible refine (hc _ (by assumption)).mono ?_; rintro e w' ⟨rfl, b⟩; have b' := then_ (w := w2) (by assumption) b; clear b; try dsimp only) | go_skip | go_guarded | go_step | go_upon)
    all_goals go_ret
    all_goals exact ⟨ret_bool (by rw [R.out]; simp_all), then_ Hw2.out (by assumption)⟩

set_option maxHeartbeats 2000000 in
theorem smMp (a b : RMap) (w : World) (ha : InRow eCla 7 w a.v a.clauses) (hb : InRow eCla 7 w b.v b.clauses) :
    Calls Tryz.prog 54 #[.agg (eRMap a).toArray, .agg (eRMap b).toArray] w fun e w' => e = .returned (.bool (sameMp a b)) ∧ Below w.heap.size w w' := by
  obtain ⟨X, hX⟩ : ∃ X, X = (eRMap a).toArray := ⟨_, rfl⟩
  obtain ⟨Y, hY⟩ : ∃ Y, Y = (eRMap b).toArray := ⟨_, rfl⟩
  obtain ⟨w2, hw2⟩ : ∃ w2, (w.alloc (.cells X 67)).alloc (.cells Y 67) = w2 := ⟨_, rfl⟩
  have hhX : w2.heap[w.heap.size]? = some (.cells X 67 (0, 0)) := by rw [← hw2, Below.heap_alloc _ _ _ (by simp), heap_new]
  have hhY : w2.heap[w.heap.size + 1]? = some (.cells Y 67 (0, 0)) := by rw [← hw2]; have h := heap_new (w.alloc (.cells X 67)) (.cells Y 67 (0, 0)); rwa [new_size] at h
  have FX0 : ∀ v : World, Below w2.heap.size w2 v → v.cell? ⟨w.heap.size, 0, none⟩ = some (.string a.name) := fun v h => box_at (blk_keep hhX h) (by rw [hX]; rfl)
  have FX1 : ∀ v : World, Below w2.heap.size w2 v → v.cell? ⟨w.heap.size, 1, none⟩ = some (a.v) := fun v h => box_at (blk_keep hhX h) (by rw [hX]; rfl)
  have FY0 : ∀ v : World, Below w2.heap.size w2 v → v.cell? ⟨w.heap.size + 1, 0, none⟩ = some (.string b.name) := fun v h => box_at (blk_keep hhY h) (by rw [hY]; rfl)
  have FY1 : ∀ v : World, Below w2.heap.size w2 v → v.cell? ⟨w.heap.size + 1, 1, none⟩ = some (b.v) := fun v h => box_at (blk_keep hhY h) (by rw [hY]; rfl)
  have Gw2 : Below w2.heap.size w2 w2 := Below.refl _ _
  have Hw2 := hid (show Below w.heap.size w w2 by rw [← hw2]; exact al2 _ _ _)
  have hX' := hid hX
  have hY' := hid hY
  try rw [← hX]
  try rw [← hY]
  clear hX hY hhX hhY
  have hc := fun wx (h : Below w2.heap.size w2 wx) => eqCla a.v b.v a.clauses b.clauses wx (rows_keep ha.row (then_ Hw2.out h)) ha.len (rows_keep hb.row (then_ Hw2.out h)) hb.len
  have R := hid (show sameMp a b = (decide (a.name = b.name) && decide (a.clauses = b.clauses)) from rfl)
  obtain ⟨o, ho⟩ : ∃ o, o = decide (a.clauses = b.clauses) := ⟨_, rfl⟩
  rw [← ho] at hc R
  have hs := strE a.name b.name
  obtain ⟨n, hn⟩ : ∃ n, n = decide (a.name = b.name) := ⟨_, rfl⟩
  rw [← hn] at hs R
  clear ha hb ho hn
  cases n
  all_goals
    go_enter Tryz.func54, Tryz.ntmps54
    repeat' (first | (go_at_call 126; with_reducible refine (hc _ (by assumption)).mono ?_; rintro e w' ⟨rfl, b⟩; have b' := then_ (w := w2) (by assumption) b; clear b; try dsimp only) | go_skip | go_guarded | go_step | go_upon)
    all_goals go_ret
    all_goals exact ⟨ret_bool (by rw [R.out]; simp_all), then_ Hw2.out (by assumption)⟩

set_option maxHeartbeats 2000000 in
theorem smAc (a b : Acl) (w : World) (ha : InRow eRule 10 w a.v a.rules) (hb : InRow eRule 10 w b.v b.rules) :
    Calls Tryz.prog 56 #[.agg (eAcl a).toArray, .agg (eAcl b).toArray] w fun e w' => e = .returned (.bool (sameAc a b)) ∧ Below w.heap.size w w' := by
  obtain ⟨X, hX⟩ : ∃ X, X = (eAcl a).toArray := ⟨_, rfl⟩
  obtain ⟨Y, hY⟩ : ∃ Y, Y = (eAcl b).toArray := ⟨_, rfl⟩
  obtain ⟨w2, hw2⟩ : ∃ w2, (w.alloc (.cells X 70)).alloc (.cells Y 70) = w2 := ⟨_, rfl⟩
  have hhX : w2.heap[w.heap.size]? = some (.cells X 70 (0, 0)) := by rw [← hw2, Below.heap_alloc _ _ _ (by simp), heap_new]
  have hhY : w2.heap[w.heap.size + 1]? = some (.cells Y 70 (0, 0)) := by rw [← hw2]; have h := heap_new (w.alloc (.cells X 70)) (.cells Y 70 (0, 0)); rwa [new_size] at h
  have FX0 : ∀ v : World, Below w2.heap.size w2 v → v.cell? ⟨w.heap.size, 0, none⟩ = some (.string a.name) := fun v h => box_at (blk_keep hhX h) (by rw [hX]; rfl)
  have FX1 : ∀ v : World, Below w2.heap.size w2 v → v.cell? ⟨w.heap.size, 1, none⟩ = some (a.v) := fun v h => box_at (blk_keep hhX h) (by rw [hX]; rfl)
  have FY0 : ∀ v : World, Below w2.heap.size w2 v → v.cell? ⟨w.heap.size + 1, 0, none⟩ = some (.string b.name) := fun v h => box_at (blk_keep hhY h) (by rw [hY]; rfl)
  have FY1 : ∀ v : World, Below w2.heap.size w2 v → v.cell? ⟨w.heap.size + 1, 1, none⟩ = some (b.v) := fun v h => box_at (blk_keep hhY h) (by rw [hY]; rfl)
  have Gw2 : Below w2.heap.size w2 w2 := Below.refl _ _
  have Hw2 := hid (show Below w.heap.size w w2 by rw [← hw2]; exact al2 _ _ _)
  have hX' := hid hX
  have hY' := hid hY
  try rw [← hX]
  try rw [← hY]
  clear hX hY hhX hhY
  have hc := fun wx (h : Below w2.heap.size w2 wx) => eqRule a.v b.v a.rules b.rules wx (rows_keep ha.row (then_ Hw2.out h)) ha.len (rows_keep hb.row (then_ Hw2.out h)) hb.len
  have R := hid (show sameAc a b = (decide (a.name = b.name) && decide (a.rules = b.rules)) from rfl)
  obtain ⟨o, ho⟩ : ∃ o, o = decide (a.rules = b.rules) := ⟨_, rfl⟩
  rw [← ho] at hc R
  have hs := strE a.name b.name
  obtain ⟨n, hn⟩ : ∃ n, n = decide (a.name = b.name) := ⟨_, rfl⟩
  rw [← hn] at hs R
  clear ha hb ho hn
  cases n
  all_goals
    go_enter Tryz.func56, Tryz.ntmps56
    repeat' (first | (go_at_call 127; with_reducible refine (hc _ (by assumption)).mono ?_; rintro e w' ⟨rfl, b⟩; have b' := then_ (w := w2) (by assumption) b; clear b; try dsimp only) | go_skip | go_guarded | go_step | go_upon)
    all_goals go_ret
    all_goals exact ⟨ret_bool (by rw [R.out]; simp_all), then_ Hw2.out (by assumption)⟩

set_option maxHeartbeats 4000000 in
theorem smLS (a b : Rtr) (w : World) (ha : RtrIn w a) (hb : RtrIn w b) :
    Calls Tryz.prog 59 #[.agg (eLS a).toArray, .agg (eLS b).toArray] w fun e w' => e = .returned (.bool (sameLs a b)) ∧ Below w.heap.size w w' := by
  obtain ⟨X, hX⟩ : ∃ X, X = (eLS a).toArray := ⟨_, rfl⟩
  obtain ⟨Y, hY⟩ : ∃ Y, Y = (eLS b).toArray := ⟨_, rfl⟩
  obtain ⟨w2, hw2⟩ : ∃ w2, (w.alloc (.cells X 31)).alloc (.cells Y 31) = w2 := ⟨_, rfl⟩
  have hhX : w2.heap[w.heap.size]? = some (.cells X 31 (0, 0)) := by rw [← hw2, Below.heap_alloc _ _ _ (by simp), heap_new]
  have hhY : w2.heap[w.heap.size + 1]? = some (.cells Y 31 (0, 0)) := by rw [← hw2]; have h := heap_new (w.alloc (.cells X 31)) (.cells Y 31 (0, 0)); rwa [new_size] at h
  have FX0 : ∀ v : World, Below w2.heap.size w2 v → v.cell? ⟨w.heap.size, 0, none⟩ = some (.bool a.lsOn) := fun v h => box_at (blk_keep hhX h) (by rw [hX]; rfl)
  have FY0 : ∀ v : World, Below w2.heap.size w2 v → v.cell? ⟨w.heap.size + 1, 0, none⟩ = some (.bool b.lsOn) := fun v h => box_at (blk_keep hhY h) (by rw [hY]; rfl)
  have FX1 : ∀ v : World, Below w2.heap.size w2 v → v.cell? ⟨w.heap.size, 1, none⟩ = some (.int .i64 a.lsAdmin) := fun v h => box_at (blk_keep hhX h) (by rw [hX]; rfl)
  have FY1 : ∀ v : World, Below w2.heap.size w2 v → v.cell? ⟨w.heap.size + 1, 1, none⟩ = some (.int .i64 b.lsAdmin) := fun v h => box_at (blk_keep hhY h) (by rw [hY]; rfl)
  have FX2 : ∀ v : World, Below w2.heap.size w2 v → v.cell? ⟨w.heap.size, 2, none⟩ = some (a.vRngs) := fun v h => box_at (blk_keep hhX h) (by rw [hX]; rfl)
  have FY2 : ∀ v : World, Below w2.heap.size w2 v → v.cell? ⟨w.heap.size + 1, 2, none⟩ = some (b.vRngs) := fun v h => box_at (blk_keep hhY h) (by rw [hY]; rfl)
  have FX3 : ∀ v : World, Below w2.heap.size w2 v → v.cell? ⟨w.heap.size, 3, none⟩ = some (a.vLsr) := fun v h => box_at (blk_keep hhX h) (by rw [hX]; rfl)
  have FY3 : ∀ v : World, Below w2.heap.size w2 v → v.cell? ⟨w.heap.size + 1, 3, none⟩ = some (b.vLsr) := fun v h => box_at (blk_keep hhY h) (by rw [hY]; rfl)
  have Gw2 : Below w2.heap.size w2 w2 := Below.refl _ _
  have Hw2 := hid (show Below w.heap.size w w2 by rw [← hw2]; exact al2 _ _ _)
  have hX' := hid hX
  have hY' := hid hY
  try rw [← hX]
  try rw [← hY]
  clear hX hY hhX hhY
  have R := hid (show sameLs a b = (decide (a.lsOn = b.lsOn) && decide (a.lsAdmin = b.lsAdmin) && decide (a.rngs = b.rngs) && decide (a.lsr = b.lsr)) from rfl)
  have hc2 := fun wx (h : Below w2.heap.size w2 wx) => eqRng a.vRngs b.vRngs a.rngs b.rngs wx (rows_keep ha.rngs.row (then_ Hw2.out h)) ha.rngs.len (rows_keep hb.rngs.row (then_ Hw2.out h)) hb.rngs.len
  obtain ⟨o2, ho2⟩ : ∃ o, o = decide (a.rngs = b.rngs) := ⟨_, rfl⟩
  rw [← ho2] at hc2 R
  obtain ⟨va2, hva2⟩ : ∃ v, v = a.vRngs := ⟨_, rfl⟩
  obtain ⟨vb2, hvb2⟩ : ∃ v, v = b.vRngs := ⟨_, rfl⟩
  rw [← hva2] at FX2 hc2
  rw [← hvb2] at FY2 hc2
  have hc3 := fun wx (h : Below w2.heap.size w2 wx) => eqRed a.vLsr b.vLsr a.lsr b.lsr wx (rows_keep ha.lsr.row (then_ Hw2.out h)) ha.lsr.len (rows_keep hb.lsr.row (then_ Hw2.out h)) hb.lsr.len
  obtain ⟨o3, ho3⟩ : ∃ o, o = decide (a.lsr = b.lsr) := ⟨_, rfl⟩
  rw [← ho3] at hc3 R
  obtain ⟨va3, hva3⟩ : ∃ v, v = a.vLsr := ⟨_, rfl⟩
  obtain ⟨vb3, hvb3⟩ : ∃ v, v = b.vLsr := ⟨_, rfl⟩
  rw [← hva3] at FX3 hc3
  rw [← hvb3] at FY3 hc3
  have hs0 := boolE a.lsOn b.lsOn
  obtain ⟨n0, hn0⟩ : ∃ n, n = decide (a.lsOn = b.lsOn) := ⟨_, rfl⟩
  rw [← hn0] at hs0 R
  have hs1 := intE a.lsAdmin b.lsAdmin
  obtain ⟨n1, hn1⟩ : ∃ n, n = decide (a.lsAdmin = b.lsAdmin) := ⟨_, rfl⟩
  rw [← hn1] at hs1 R
  clear ha hb ho2 hva2 hvb2 ho3 hva3 hvb3 hn0 hn1
  cases n0
  case false =>
    go_enter Tryz.func59, Tryz.ntmps59
    repeat' (first | (go_at_call 128; with_reducible refine (hc2 _ (by assumption)).mono ?_; rintro e w' ⟨rfl, b⟩; have b' := then_ (w := w2) (by assumption) b; clear b; try dsimp only) | (go_at_call 129; with_reducible refine (hc3 _ (by assumption)).mono ?_; rintro e w' ⟨rfl, b⟩; have b' := then_ (w := w2) (by assumption) b; clear b; try dsimp only) | go_skip | go_guarded | go_step | go_upon)
    all_goals go_ret
    all_goals exact ⟨ret_bool (by rw [R.out]; simp_all), then_ Hw2.out (by assumption)⟩
  case true =>
    cases n1
    case false =>
      go_enter Tryz.func59, Tryz.ntmps59
      repeat' (first | (go_at_call 128; with_reducible refine (hc2 _ (by assumption)).mono ?_; rintro e w' ⟨rfl, b⟩; have b' := then_ (w := w2) (by assumption) b; clear b; try dsimp only) | (go_at_call 129; with_reducible refine (hc3 _ (by assumption)).mono ?_; rintro e w' ⟨rfl, b⟩; have b' := then_ (w := w2) (by assumption) b; clear b; try dsimp only) | go_skip | go_guarded | go_step | go_upon)
      all_goals go_ret
      all_goals exact ⟨ret_bool (by rw [R.out]; simp_all), then_ Hw2.out (by assumption)⟩
    case true =>
      go_enter Tryz.func59, Tryz.ntmps59
      repeat' (first | (go_at_call 128; with_reducible refine (hc2 _ (by assumption)).mono ?_; rintro e w' ⟨rfl, b⟩; have b' := then_ (w := w2) (by assumption) b; clear b; try dsimp only) | (go_at_call 129; with_reducible refine (hc3 _ (by assumption)).mono ?_; rintro e w' ⟨rfl, b⟩; have b' := then_ (w := w2) (by assumption) b; clear b; try dsimp only) | go_skip | go_guarded | go_step | go_upon)
      all_goals go_ret
      all_goals exact ⟨ret_bool (by rw [R.out]; simp_all), then_ Hw2.out (by assumption)⟩

set_option maxHeartbeats 4000000 in
theorem smDV (a b : Rtr) (w : World) (ha : RtrIn w a) (hb : RtrIn w b) :
    Calls Tryz.prog 60 #[.agg (eDV a).toArray, .agg (eDV b).toArray] w fun e w' => e = .returned (.bool (sameDv a b)) ∧ Below w.heap.size w w' := by
  obtain ⟨X, hX⟩ : ∃ X, X = (eDV a).toArray := ⟨_, rfl⟩
  obtain ⟨Y, hY⟩ : ∃ Y, Y = (eDV b).toArray := ⟨_, rfl⟩
  obtain ⟨w2, hw2⟩ : ∃ w2, (w.alloc (.cells X 33)).alloc (.cells Y 33) = w2 := ⟨_, rfl⟩
  have hhX : w2.heap[w.heap.size]? = some (.cells X 33 (0, 0)) := by rw [← hw2, Below.heap_alloc _ _ _ (by simp), heap_new]
  have hhY : w2.heap[w.heap.size + 1]? = some (.cells Y 33 (0, 0)) := by rw [← hw2]; have h := heap_new (w.alloc (.cells X 33)) (.cells Y 33 (0, 0)); rwa [new_size] at h
  have FX0 : ∀ v : World, Below w2.heap.size w2 v → v.cell? ⟨w.heap.size, 0, none⟩ = some (.bool a.dvOn) := fun v h => box_at (blk_keep hhX h) (by rw [hX]; rfl)
  have FY0 : ∀ v : World, Below w2.heap.size w2 v → v.cell? ⟨w.heap.size + 1, 0, none⟩ = some (.bool b.dvOn) := fun v h => box_at (blk_keep hhY h) (by rw [hY]; rfl)
  have FX1 : ∀ v : World, Below w2.heap.size w2 v → v.cell? ⟨w.heap.size, 1, none⟩ = some (.int .i64 a.dvAdmin) := fun v h => box_at (blk_keep hhX h) (by rw [hX]; rfl)
  have FY1 : ∀ v : World, Below w2.heap.size w2 v → v.cell? ⟨w.heap.size + 1, 1, none⟩ = some (.int .i64 b.dvAdmin) := fun v h => box_at (blk_keep hhY h) (by rw [hY]; rfl)
  have FX2 : ∀ v : World, Below w2.heap.size w2 v → v.cell? ⟨w.heap.size, 2, none⟩ = some (.string a.dvIn) := fun v h => box_at (blk_keep hhX h) (by rw [hX]; rfl)
  have FY2 : ∀ v : World, Below w2.heap.size w2 v → v.cell? ⟨w.heap.size + 1, 2, none⟩ = some (.string b.dvIn) := fun v h => box_at (blk_keep hhY h) (by rw [hY]; rfl)
  have FX3 : ∀ v : World, Below w2.heap.size w2 v → v.cell? ⟨w.heap.size, 3, none⟩ = some (.string a.dvOut) := fun v h => box_at (blk_keep hhX h) (by rw [hX]; rfl)
  have FY3 : ∀ v : World, Below w2.heap.size w2 v → v.cell? ⟨w.heap.size + 1, 3, none⟩ = some (.string b.dvOut) := fun v h => box_at (blk_keep hhY h) (by rw [hY]; rfl)
  have FX4 : ∀ v : World, Below w2.heap.size w2 v → v.cell? ⟨w.heap.size, 4, none⟩ = some (a.vDvr) := fun v h => box_at (blk_keep hhX h) (by rw [hX]; rfl)
  have FY4 : ∀ v : World, Below w2.heap.size w2 v → v.cell? ⟨w.heap.size + 1, 4, none⟩ = some (b.vDvr) := fun v h => box_at (blk_keep hhY h) (by rw [hY]; rfl)
  have Gw2 : Below w2.heap.size w2 w2 := Below.refl _ _
  have Hw2 := hid (show Below w.heap.size w w2 by rw [← hw2]; exact al2 _ _ _)
  have hX' := hid hX
  have hY' := hid hY
  try rw [← hX]
  try rw [← hY]
  clear hX hY hhX hhY
  have R := hid (show sameDv a b = (decide (a.dvOn = b.dvOn) && decide (a.dvAdmin = b.dvAdmin) && decide (a.dvIn = b.dvIn) && decide (a.dvOut = b.dvOut) && decide (a.dvr = b.dvr)) from rfl)
  have hc4 := fun wx (h : Below w2.heap.size w2 wx) => eqRed a.vDvr b.vDvr a.dvr b.dvr wx (rows_keep ha.dvr.row (then_ Hw2.out h)) ha.dvr.len (rows_keep hb.dvr.row (then_ Hw2.out h)) hb.dvr.len
  obtain ⟨o4, ho4⟩ : ∃ o, o = decide (a.dvr = b.dvr) := ⟨_, rfl⟩
  rw [← ho4] at hc4 R
  obtain ⟨va4, hva4⟩ : ∃ v, v = a.vDvr := ⟨_, rfl⟩
  obtain ⟨vb4, hvb4⟩ : ∃ v, v = b.vDvr := ⟨_, rfl⟩
  rw [← hva4] at FX4 hc4
  rw [← hvb4] at FY4 hc4
  have hs0 := boolE a.dvOn b.dvOn
  obtain ⟨n0, hn0⟩ : ∃ n, n = decide (a.dvOn = b.dvOn) := ⟨_, rfl⟩
  rw [← hn0] at hs0 R
  have hs1 := intE a.dvAdmin b.dvAdmin
  obtain ⟨n1, hn1⟩ : ∃ n, n = decide (a.dvAdmin = b.dvAdmin) := ⟨_, rfl⟩
  rw [← hn1] at hs1 R
  have hs2 := strE a.dvIn b.dvIn
  obtain ⟨n2, hn2⟩ : ∃ n, n = decide (a.dvIn = b.dvIn) := ⟨_, rfl⟩
  rw [← hn2] at hs2 R
  have hs3 := strE a.dvOut b.dvOut
  obtain ⟨n3, hn3⟩ : ∃ n, n = decide (a.dvOut = b.dvOut) := ⟨_, rfl⟩
  rw [← hn3] at hs3 R
  clear ha hb ho4 hva4 hvb4 hn0 hn1 hn2 hn3
  cases n0
  case false =>
    go_enter Tryz.func60, Tryz.ntmps60
    repeat' (first | (go_at_call 129; with_reducible refine (hc4 _ (by assumption)).mono ?_; rintro e w' ⟨rfl, b⟩; have b' := then_ (w := w2) (by assumption) b; clear b; try dsimp only) | go_skip | go_guarded | go_step | go_upon)
    all_goals go_ret
    all_goals exact ⟨ret_bool (by rw [R.out]; simp_all), then_ Hw2.out (by assumption)⟩
  case true =>
    cases n1
    case false =>
      go_enter Tryz.func60, Tryz.ntmps60
      repeat' (first | (go_at_call 129; with_reducible refine (hc4 _ (by assumption)).mono ?_; rintro e w' ⟨rfl, b⟩; have b' := then_ (w := w2) (by assumption) b; clear b; try dsimp only) | go_skip | go_guarded | go_step | go_upon)
      all_goals go_ret
      all_goals exact ⟨ret_bool (by rw [R.out]; simp_all), then_ Hw2.out (by assumption)⟩
    case true =>
      cases n2
      case false =>
        go_enter Tryz.func60, Tryz.ntmps60
        repeat' (first | (go_at_call 129; with_reducible refine (hc4 _ (by assumption)).mono ?_; rintro e w' ⟨rfl, b⟩; have b' := then_ (w := w2) (by assumption) b; clear b; try dsimp only) | go_skip | go_guarded | go_step | go_upon)
        all_goals go_ret
        all_goals exact ⟨ret_bool (by rw [R.out]; simp_all), then_ Hw2.out (by assumption)⟩
      case true =>
        cases n3
        case false =>
          go_enter Tryz.func60, Tryz.ntmps60
          repeat' (first | (go_at_call 129; with_reducible refine (hc4 _ (by assumption)).mono ?_; rintro e w' ⟨rfl, b⟩; have b' := then_ (w := w2) (by assumption) b; clear b; try dsimp only) | go_skip | go_guarded | go_step | go_upon)
          all_goals go_ret
          all_goals exact ⟨ret_bool (by rw [R.out]; simp_all), then_ Hw2.out (by assumption)⟩
        case true =>
          go_enter Tryz.func60, Tryz.ntmps60
          repeat' (first | (go_at_call 129; with_reducible refine (hc4 _ (by assumption)).mono ?_; rintro e w' ⟨rfl, b⟩; have b' := then_ (w := w2) (by assumption) b; clear b; try dsimp only) | go_skip | go_guarded | go_step | go_upon)
          all_goals go_ret
          all_goals exact ⟨ret_bool (by rw [R.out]; simp_all), then_ Hw2.out (by assumption)⟩

set_option maxHeartbeats 4000000 in
theorem smPV (a b : Rtr) (w : World) (ha : RtrIn w a) (hb : RtrIn w b) :
    Calls Tryz.prog 61 #[.agg (ePV a).toArray, .agg (ePV b).toArray] w fun e w' => e = .returned (.bool (samePv a b)) ∧ Below w.heap.size w w' := by
  obtain ⟨X, hX⟩ : ∃ X, X = (ePV a).toArray := ⟨_, rfl⟩
  obtain ⟨Y, hY⟩ : ∃ Y, Y = (ePV b).toArray := ⟨_, rfl⟩
  obtain ⟨w2, hw2⟩ : ∃ w2, (w.alloc (.cells X 39)).alloc (.cells Y 39) = w2 := ⟨_, rfl⟩
  have hhX : w2.heap[w.heap.size]? = some (.cells X 39 (0, 0)) := by rw [← hw2, Below.heap_alloc _ _ _ (by simp), heap_new]
  have hhY : w2.heap[w.heap.size + 1]? = some (.cells Y 39 (0, 0)) := by rw [← hw2]; have h := heap_new (w.alloc (.cells X 39)) (.cells Y 39 (0, 0)); rwa [new_size] at h
  have FX0 : ∀ v : World, Below w2.heap.size w2 v → v.cell? ⟨w.heap.size, 0, none⟩ = some (.bool a.pvOn) := fun v h => box_at (blk_keep hhX h) (by rw [hX]; rfl)
  have FY0 : ∀ v : World, Below w2.heap.size w2 v → v.cell? ⟨w.heap.size + 1, 0, none⟩ = some (.bool b.pvOn) := fun v h => box_at (blk_keep hhY h) (by rw [hY]; rfl)
  have FX1 : ∀ v : World, Below w2.heap.size w2 v → v.cell? ⟨w.heap.size, 1, none⟩ = some (.int .i64 a.ext) := fun v h => box_at (blk_keep hhX h) (by rw [hX]; rfl)
  have FY1 : ∀ v : World, Below w2.heap.size w2 v → v.cell? ⟨w.heap.size + 1, 1, none⟩ = some (.int .i64 b.ext) := fun v h => box_at (blk_keep hhY h) (by rw [hY]; rfl)
  have FX2 : ∀ v : World, Below w2.heap.size w2 v → v.cell? ⟨w.heap.size, 2, none⟩ = some (.int .i64 a.intl) := fun v h => box_at (blk_keep hhX h) (by rw [hX]; rfl)
  have FY2 : ∀ v : World, Below w2.heap.size w2 v → v.cell? ⟨w.heap.size + 1, 2, none⟩ = some (.int .i64 b.intl) := fun v h => box_at (blk_keep hhY h) (by rw [hY]; rfl)
  have FX3 : ∀ v : World, Below w2.heap.size w2 v → v.cell? ⟨w.heap.size, 3, none⟩ = some (a.vNbrs) := fun v h => box_at (blk_keep hhX h) (by rw [hX]; rfl)
  have FY3 : ∀ v : World, Below w2.heap.size w2 v → v.cell? ⟨w.heap.size + 1, 3, none⟩ = some (b.vNbrs) := fun v h => box_at (blk_keep hhY h) (by rw [hY]; rfl)
  have FX4 : ∀ v : World, Below w2.heap.size w2 v → v.cell? ⟨w.heap.size, 4, none⟩ = some (a.vNets) := fun v h => box_at (blk_keep hhX h) (by rw [hX]; rfl)
  have FY4 : ∀ v : World, Below w2.heap.size w2 v → v.cell? ⟨w.heap.size + 1, 4, none⟩ = some (b.vNets) := fun v h => box_at (blk_keep hhY h) (by rw [hY]; rfl)
  have FX5 : ∀ v : World, Below w2.heap.size w2 v → v.cell? ⟨w.heap.size, 5, none⟩ = some (a.vAggs) := fun v h => box_at (blk_keep hhX h) (by rw [hX]; rfl)
  have FY5 : ∀ v : World, Below w2.heap.size w2 v → v.cell? ⟨w.heap.size + 1, 5, none⟩ = some (b.vAggs) := fun v h => box_at (blk_keep hhY h) (by rw [hY]; rfl)
  have FX6 : ∀ v : World, Below w2.heap.size w2 v → v.cell? ⟨w.heap.size, 6, none⟩ = some (a.vCnds) := fun v h => box_at (blk_keep hhX h) (by rw [hX]; rfl)
  have FY6 : ∀ v : World, Below w2.heap.size w2 v → v.cell? ⟨w.heap.size + 1, 6, none⟩ = some (b.vCnds) := fun v h => box_at (blk_keep hhY h) (by rw [hY]; rfl)
  have FX7 : ∀ v : World, Below w2.heap.size w2 v → v.cell? ⟨w.heap.size, 7, none⟩ = some (a.vPvr) := fun v h => box_at (blk_keep hhX h) (by rw [hX]; rfl)
  have FY7 : ∀ v : World, Below w2.heap.size w2 v → v.cell? ⟨w.heap.size + 1, 7, none⟩ = some (b.vPvr) := fun v h => box_at (blk_keep hhY h) (by rw [hY]; rfl)
  have Gw2 : Below w2.heap.size w2 w2 := Below.refl _ _
  have Hw2 := hid (show Below w.heap.size w w2 by rw [← hw2]; exact al2 _ _ _)
  have hX' := hid hX
  have hY' := hid hY
  try rw [← hX]
  try rw [← hY]
  clear hX hY hhX hhY
  have R := hid (show samePv a b = (decide (a.pvOn = b.pvOn) && decide (a.ext = b.ext) && decide (a.intl = b.intl) && decide (a.nbrs = b.nbrs) && decide (a.nets = b.nets) && decide (a.aggs = b.aggs) && decide (a.cnds = b.cnds) && decide (a.pvr = b.pvr)) from rfl)
  have hc3 := fun wx (h : Below w2.heap.size w2 wx) => eqNbr a.vNbrs b.vNbrs a.nbrs b.nbrs wx (rows_keep ha.nbrs.row (then_ Hw2.out h)) ha.nbrs.len (rows_keep hb.nbrs.row (then_ Hw2.out h)) hb.nbrs.len
  obtain ⟨o3, ho3⟩ : ∃ o, o = decide (a.nbrs = b.nbrs) := ⟨_, rfl⟩
  rw [← ho3] at hc3 R
  obtain ⟨va3, hva3⟩ : ∃ v, v = a.vNbrs := ⟨_, rfl⟩
  obtain ⟨vb3, hvb3⟩ : ∃ v, v = b.vNbrs := ⟨_, rfl⟩
  rw [← hva3] at FX3 hc3
  rw [← hvb3] at FY3 hc3
  have hc4 := fun wx (h : Below w2.heap.size w2 wx) => eqPfx a.vNets b.vNets a.nets b.nets wx (rows_keep ha.nets.row (then_ Hw2.out h)) ha.nets.len (rows_keep hb.nets.row (then_ Hw2.out h)) hb.nets.len
  obtain ⟨o4, ho4⟩ : ∃ o, o = decide (a.nets = b.nets) := ⟨_, rfl⟩
  rw [← ho4] at hc4 R
  obtain ⟨va4, hva4⟩ : ∃ v, v = a.vNets := ⟨_, rfl⟩
  obtain ⟨vb4, hvb4⟩ : ∃ v, v = b.vNets := ⟨_, rfl⟩
  rw [← hva4] at FX4 hc4
  rw [← hvb4] at FY4 hc4
  have hc5 := fun wx (h : Below w2.heap.size w2 wx) => eqAggr a.vAggs b.vAggs a.aggs b.aggs wx (rows_keep ha.aggs.row (then_ Hw2.out h)) ha.aggs.len (rows_keep hb.aggs.row (then_ Hw2.out h)) hb.aggs.len
  obtain ⟨o5, ho5⟩ : ∃ o, o = decide (a.aggs = b.aggs) := ⟨_, rfl⟩
  rw [← ho5] at hc5 R
  obtain ⟨va5, hva5⟩ : ∃ v, v = a.vAggs := ⟨_, rfl⟩
  obtain ⟨vb5, hvb5⟩ : ∃ v, v = b.vAggs := ⟨_, rfl⟩
  rw [← hva5] at FX5 hc5
  rw [← hvb5] at FY5 hc5
  have hc6 := fun wx (h : Below w2.heap.size w2 wx) => eqCnd a.vCnds b.vCnds a.cnds b.cnds wx (rows_keep ha.cnds.row (then_ Hw2.out h)) ha.cnds.len (rows_keep hb.cnds.row (then_ Hw2.out h)) hb.cnds.len
  obtain ⟨o6, ho6⟩ : ∃ o, o = decide (a.cnds = b.cnds) := ⟨_, rfl⟩
  rw [← ho6] at hc6 R
  obtain ⟨va6, hva6⟩ : ∃ v, v = a.vCnds := ⟨_, rfl⟩
  obtain ⟨vb6, hvb6⟩ : ∃ v, v = b.vCnds := ⟨_, rfl⟩
  rw [← hva6] at FX6 hc6
  rw [← hvb6] at FY6 hc6
  have hc7 := fun wx (h : Below w2.heap.size w2 wx) => eqRed a.vPvr b.vPvr a.pvr b.pvr wx (rows_keep ha.pvr.row (then_ Hw2.out h)) ha.pvr.len (rows_keep hb.pvr.row (then_ Hw2.out h)) hb.pvr.len
  obtain ⟨o7, ho7⟩ : ∃ o, o = decide (a.pvr = b.pvr) := ⟨_, rfl⟩
  rw [← ho7] at hc7 R
  obtain ⟨va7, hva7⟩ : ∃ v, v = a.vPvr := ⟨_, rfl⟩
  obtain ⟨vb7, hvb7⟩ : ∃ v, v = b.vPvr := ⟨_, rfl⟩
  rw [← hva7] at FX7 hc7
  rw [← hvb7] at FY7 hc7
  have hs0 := boolE a.pvOn b.pvOn
  obtain ⟨n0, hn0⟩ : ∃ n, n = decide (a.pvOn = b.pvOn) := ⟨_, rfl⟩
  rw [← hn0] at hs0 R
  have hs1 := intE a.ext b.ext
  obtain ⟨n1, hn1⟩ : ∃ n, n = decide (a.ext = b.ext) := ⟨_, rfl⟩
  rw [← hn1] at hs1 R
  have hs2 := intE a.intl b.intl
  obtain ⟨n2, hn2⟩ : ∃ n, n = decide (a.intl = b.intl) := ⟨_, rfl⟩
  rw [← hn2] at hs2 R
  clear ha hb ho3 hva3 hvb3 ho4 hva4 hvb4 ho5 hva5 hvb5 ho6 hva6 hvb6 ho7 hva7 hvb7 hn0 hn1 hn2
  cases n0
  case false =>
    go_enter Tryz.func61, Tryz.ntmps61
    repeat' (first | (go_at_call 130; with_reducible refine (hc3 _ (by assumption)).mono ?_; rintro e w' ⟨rfl, b⟩; have b' := then_ (w := w2) (by assumption) b; clear b; try dsimp only) | (go_at_call 131; with_reducible refine (hc4 _ (by assumption)).mono ?_; rintro e w' ⟨rfl, b⟩; have b' := then_ (w := w2) (by assumption) b; clear b; try dsimp only) | (go_at_call 132; with_reducible refine (hc5 _ (by assumption)).mono ?_; rintro e w' ⟨rfl, b⟩; have b' := then_ (w := w2) (by assumption) b; clear b; try dsimp only) | (go_at_call 133; with_reducible refine (hc6 _ (by assumption)).mono ?_; rintro e w' ⟨rfl, b⟩; have b' := then_ (w := w2) (by assumption) b; clear b; try dsimp only) | (go_at_call 129; with_reducible refine (hc7 _ (by assumption)).mono ?_; rintro e w' ⟨rfl, b⟩; have b' := then_ (w := w2) (by assumption) b; clear b; try dsimp only) | go_skip | go_guarded | go_step | go_upon)
    all_goals go_ret
    all_goals exact ⟨ret_bool (by rw [R.out]; simp_all), then_ Hw2.out (by assumption)⟩
  case true =>
    cases n1
    case false =>
      go_enter Tryz.func61, Tryz.ntmps61
      repeat' (first | (go_at_call 130; with_reducible refine (hc3 _ (by assumption)).mono ?_; rintro e w' ⟨rfl, b⟩; have b' := then_ (w := w2) (by assumption) b; clear b; try dsimp only) | (go_at_call 131; with_reducible refine (hc4 _ (by assumption)).mono ?_; rintro e w' ⟨rfl, b⟩; have b' := then_ (w := w2) (by assumption) b; clear b; try dsimp only) | (go_at_call 132; with_reducible refine (hc5 _ (by assumption)).mono ?_; rintro e w' ⟨rfl, b⟩; have b' := then_ (w := w2) (by assumption) b; clear b; try dsimp only) | (go_at_call 133; with_reducible refine (hc6 _ (by assumption)).mono ?_; rintro e w' ⟨rfl, b⟩; have b' := then_ (w := w2) (by assumption) b; clear b; try dsimp only) | (go_at_call 129; with_reducible refine (hc7 _ (by assumption)).mono ?_; rintro e w' ⟨rfl, b⟩; have b' := then_ (w := w2) (by assumption) b; clear b; try dsimp only) | go_skip | go_guarded | go_step | go_upon)
      all_goals go_ret
      all_goals exact ⟨ret_bool (by rw [R.out]; simp_all), then_ Hw2.out (by assumption)⟩
    case true =>
      cases n2
      case false =>
        go_enter Tryz.func61, Tryz.ntmps61
        repeat' (first | (go_at_call 130; with_reducible refine (hc3 _ (by assumption)).mono ?_; rintro e w' ⟨rfl, b⟩; have b' := then_ (w := w2) (by assumption) b; clear b; try dsimp only) | (go_at_call 131; with_reducible refine (hc4 _ (by assumption)).mono ?_; rintro e w' ⟨rfl, b⟩; have b' := then_ (w := w2) (by assumption) b; clear b; try dsimp only) | (go_at_call 132; with_reducible refine (hc5 _ (by assumption)).mono ?_; rintro e w' ⟨rfl, b⟩; have b' := then_ (w := w2) (by assumption) b; clear b; try dsimp only) | (go_at_call 133; with_reducible refine (hc6 _ (by assumption)).mono ?_; rintro e w' ⟨rfl, b⟩; have b' := then_ (w := w2) (by assumption) b; clear b; try dsimp only) | (go_at_call 129; with_reducible refine (hc7 _ (by assumption)).mono ?_; rintro e w' ⟨rfl, b⟩; have b' := then_ (w := w2) (by assumption) b; clear b; try dsimp only) | go_skip | go_guarded | go_step | go_upon)
        all_goals go_ret
        all_goals exact ⟨ret_bool (by rw [R.out]; simp_all), then_ Hw2.out (by assumption)⟩
      case true =>
        go_enter Tryz.func61, Tryz.ntmps61
        repeat' (first | (go_at_call 130; with_reducible refine (hc3 _ (by assumption)).mono ?_; rintro e w' ⟨rfl, b⟩; have b' := then_ (w := w2) (by assumption) b; clear b; try dsimp only) | (go_at_call 131; with_reducible refine (hc4 _ (by assumption)).mono ?_; rintro e w' ⟨rfl, b⟩; have b' := then_ (w := w2) (by assumption) b; clear b; try dsimp only) | (go_at_call 132; with_reducible refine (hc5 _ (by assumption)).mono ?_; rintro e w' ⟨rfl, b⟩; have b' := then_ (w := w2) (by assumption) b; clear b; try dsimp only) | (go_at_call 133; with_reducible refine (hc6 _ (by assumption)).mono ?_; rintro e w' ⟨rfl, b⟩; have b' := then_ (w := w2) (by assumption) b; clear b; try dsimp only) | (go_at_call 129; with_reducible refine (hc7 _ (by assumption)).mono ?_; rintro e w' ⟨rfl, b⟩; have b' := then_ (w := w2) (by assumption) b; clear b; try dsimp only) | go_skip | go_guarded | go_step | go_upon)
        all_goals go_ret
        all_goals exact ⟨ret_bool (by rw [R.out]; simp_all), then_ Hw2.out (by assumption)⟩
end Go.Proofs.YtlhbfpapmolohaaGreat.Mw
