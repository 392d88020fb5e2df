/-
  REGIONS THAT DRAW THEIR ORDER, LOAD CELLS AND CALL FUNCTIONS THAT MAKE MEMORY OF THEIR OWN: one walk in the order of the text serves every order, at the class of worlds 'as this one below block B'. No function of the program is named.
-/
import Derived.WalkKit
import Derived.Below
import Derived.Deep.QuietTactic
import Derived.BigQuiet
namespace Go.Proofs.Ytlhbfpapmolohaa.Kt
set_option linter.unusedSimpArgs false
set_option linter.unusedVariables false
open Go.RowKit

/-- A world that is as w0 below block B. -/
structure Later (B : Nat) (w0 : World) where
  w : World
  h : Below B w0 w

instance (B : Nat) (w0 : World) : Nonempty (Later B w0) := ⟨⟨w0, Below.refl B w0⟩⟩

theorem wp_region_later {P : Program} {id : Nat} {Q : Exit → Act → World → Prop} {a : Act} {w : World} {l : List Oper} (B : Nat) (hm : P.follows .mixedOrders = true) (hB : Region.lexB .any l.toArray = true)
    (h : wpQuiet P l.toArray (fun w' => ∃ u : Later B w, w' = u.w) (fun a' => ∀ w', (∃ u : Later B w, w' = u.w) → Q .normal a' w') l a) : (Code.region id l.toArray true).wp P Q a w :=
  wp_region_quiet (C := fun w' => ∃ u : Later B w, w' = u.w) hm hB ⟨⟨_, (Below.refl B w).drew⟩, rfl⟩ (by simpa using h)

theorem later_cell {B : Nat} {w0 : World} {p : Addr} {v : Value} (hB : p.block < B) (h : w0.cell? p = some v) : ∀ u : Later B w0, u.w.cell? p = some v :=
  fun u => (u.h.cell hB).trans h

/-- A callee that leaves all that it met. -/
theorem later_of {P : Program} {f : FuncId} {args : Array Value} {B : Nat} {w0 : World} {u : Later B w0} {v : Value} (hB : B ≤ w0.heap.size)
    (h : Calls P f args u.w fun e w'' => e = .returned v ∧ Below u.w.heap.size u.w w'') : Calls P f args u.w fun e w'' => e = .returned v ∧ ∃ u' : Later B w0, w'' = u'.w :=
  h.mono fun _ w'' ⟨he, hb⟩ => ⟨he, ⟨w'', u.h.trans (hb.mono (Nat.le_trans hB u.h.size))⟩, rfl⟩
/-- A callee that turns nothing. -/
theorem later_same {P : Program} {f : FuncId} {args : Array Value} {B : Nat} {w0 : World} {u : Later B w0} {v : Value}
    (h : Calls P f args u.w fun e w'' => e = .returned v ∧ u.w = w'') : Calls P f args u.w fun e w'' => e = .returned v ∧ ∃ u' : Later B w0, w'' = u'.w :=
  h.mono fun _ w'' ⟨he, hb⟩ => ⟨he, u, hb.symm⟩

/-- What is called in a world that is as w0. -/
theorem same_below {P : Program} {f : FuncId} {args : Array Value} {w : World} {e0 : Ending}
    (h : Calls P f args w fun e w'' => e = e0 ∧ w = w'') : Calls P f args w fun e w'' => e = e0 ∧ Below w.heap.size w w'' :=
  h.mono fun _ _ ⟨he, hb⟩ => ⟨he, hb ▸ Below.refl _ _⟩

/-! ### A new block of cells -/
theorem new_cell (w : World) (cs : Array Value) (T : TypeId) (j : Nat) : (w.alloc (.cells cs T)).cell? ⟨w.heap.size, j, none⟩ = cs[j]? := World.cell?_alloc_at _ _ _ _ rfl
theorem new_size (w : World) (o : Obj) : (w.alloc o).heap.size = w.heap.size + 1 := by simp
theorem new_below (w : World) (o : Obj) : Below w.heap.size w (w.alloc o) := (Below.refl _ _).alloc (Nat.le_refl _) o

theorem drewN_below (B : Nat) (w : World) (n : Nat) : Below B w (w.drewN n) := ⟨rfl, rfl, rfl, Nat.le_refl _, fun _ _ => rfl⟩
/-- One step behind another. -/
theorem then_ {w w1 w2 : World} (h : Below w.heap.size w w1) (k : Below w1.heap.size w1 w2) : Below w.heap.size w w2 := h.trans (k.mono h.size)
theorem al1 (w : World) (o : Obj) : Below w.heap.size w (w.alloc o) := new_below w o
theorem al2 (w : World) (o o' : Obj) : Below w.heap.size w ((w.alloc o).alloc o') := then_ (al1 w o) (al1 _ o')
theorem al3 (w : World) (o o' o2 : Obj) : Below w.heap.size w (((w.alloc o).alloc o').alloc o2) := then_ (al2 w o o') (al1 _ o2)

section
variable (w : World) (x y x' y' : Value) (T T' : TypeId)
/-- One parameter of two cells in a block of its own. -/
theorem box_0 : ∀ u : Later (w.heap.size + 1) (w.alloc (.cells #[x, y] T)), u.w.cell? ⟨w.heap.size, 0, none⟩ = some x := later_cell (by simp) (new_cell w #[x, y] T 0)
theorem box_1 : ∀ u : Later (w.heap.size + 1) (w.alloc (.cells #[x, y] T)), u.w.cell? ⟨w.heap.size, 1, none⟩ = some y := later_cell (by simp) (new_cell w #[x, y] T 1)
theorem box_below (u : Later (w.heap.size + 1) (w.alloc (.cells #[x, y] T))) : Below w.heap.size w u.w := (new_below w _).trans (u.h.mono (Nat.le_succ _))
/-- Two such parameters. -/
theorem two_old (j : Nat) : ((w.alloc (.cells #[x, y] T)).alloc (.cells #[x', y'] T')).cell? ⟨w.heap.size, j, none⟩ = #[x, y][j]? := by
  have h1 : Below (w.heap.size + 1) (w.alloc (.cells #[x, y] T)) ((w.alloc (.cells #[x, y] T)).alloc (.cells #[x', y'] T')) := by
    have := new_below (w.alloc (.cells #[x, y] T)) (.cells #[x', y'] T')
    rwa [new_size] at this
  rw [h1.cell (p := ⟨w.heap.size, j, none⟩) (by simp)]
  exact new_cell w _ T j
theorem two_new (j : Nat) : ((w.alloc (.cells #[x, y] T)).alloc (.cells #[x', y'] T')).cell? ⟨w.heap.size + 1, j, none⟩ = #[x', y'][j]? := by
  have := new_cell (w.alloc (.cells #[x, y] T)) #[x', y'] T' j
  rwa [new_size] at this
theorem two_0 : ∀ u : Later (w.heap.size + 2) ((w.alloc (.cells #[x, y] T)).alloc (.cells #[x', y'] T')), u.w.cell? ⟨w.heap.size, 0, none⟩ = some x := later_cell (by simp) (two_old w x y x' y' T T' 0)
theorem two_1 : ∀ u : Later (w.heap.size + 2) ((w.alloc (.cells #[x, y] T)).alloc (.cells #[x', y'] T')), u.w.cell? ⟨w.heap.size, 1, none⟩ = some y := later_cell (by simp) (two_old w x y x' y' T T' 1)
theorem two_2 : ∀ u : Later (w.heap.size + 2) ((w.alloc (.cells #[x, y] T)).alloc (.cells #[x', y'] T')), u.w.cell? ⟨w.heap.size + 1, 0, none⟩ = some x' := later_cell (by simp) (two_new w x y x' y' T T' 0)
theorem two_3 : ∀ u : Later (w.heap.size + 2) ((w.alloc (.cells #[x, y] T)).alloc (.cells #[x', y'] T')), u.w.cell? ⟨w.heap.size + 1, 1, none⟩ = some y' := later_cell (by simp) (two_new w x y x' y' T T' 1)
theorem two_cells {w1 : World} (h : Below (((w.alloc (.cells #[x, y] T)).alloc (.cells #[x', y'] T')).heap.size) ((w.alloc (.cells #[x, y] T)).alloc (.cells #[x', y'] T')) w1) :
    (w1.cell? ⟨w.heap.size, 0, none⟩ = some x ∧ w1.cell? ⟨w.heap.size, 1, none⟩ = some y) ∧ w1.cell? ⟨w.heap.size + 1, 0, none⟩ = some x' ∧ w1.cell? ⟨w.heap.size + 1, 1, none⟩ = some y' := by
  have h' : Below (w.heap.size + 2) ((w.alloc (.cells #[x, y] T)).alloc (.cells #[x', y'] T')) w1 := by rw [new_size, new_size] at h; exact h
  exact ⟨⟨two_0 w x y x' y' T T' ⟨w1, h'⟩, two_1 w x y x' y' T T' ⟨w1, h'⟩⟩, two_2 w x y x' y' T T' ⟨w1, h'⟩, two_3 w x y x' y' T T' ⟨w1, h'⟩⟩
theorem two_below (u : Later (w.heap.size + 2) ((w.alloc (.cells #[x, y] T)).alloc (.cells #[x', y'] T'))) : Below w.heap.size w u.w :=
  ((new_below w _).alloc (by simp) _).trans (u.h.mono (by omega))
theorem two_w0 : ∀ v : World, Below (w.heap.size + 2) ((w.alloc (.cells #[x, y] T)).alloc (.cells #[x', y'] T')) v → v.cell? ⟨w.heap.size, 0, none⟩ = some x := fun v h => two_0 w x y x' y' T T' ⟨v, h⟩
theorem two_w1 : ∀ v : World, Below (w.heap.size + 2) ((w.alloc (.cells #[x, y] T)).alloc (.cells #[x', y'] T')) v → v.cell? ⟨w.heap.size, 1, none⟩ = some y := fun v h => two_1 w x y x' y' T T' ⟨v, h⟩
theorem two_w2 : ∀ v : World, Below (w.heap.size + 2) ((w.alloc (.cells #[x, y] T)).alloc (.cells #[x', y'] T')) v → v.cell? ⟨w.heap.size + 1, 0, none⟩ = some x' := fun v h => two_2 w x y x' y' T T' ⟨v, h⟩
theorem two_w3 : ∀ v : World, Below (w.heap.size + 2) ((w.alloc (.cells #[x, y] T)).alloc (.cells #[x', y'] T')) v → v.cell? ⟨w.heap.size + 1, 1, none⟩ = some y' := fun v h => two_3 w x y x' y' T T' ⟨v, h⟩
theorem two_b {v : World} (h : Below (w.heap.size + 2) ((w.alloc (.cells #[x, y] T)).alloc (.cells #[x', y'] T')) v) : Below w.heap.size w v := two_below w x y x' y' T T' ⟨v, h⟩
theorem box_w0 : ∀ v : World, Below (w.heap.size + 1) (w.alloc (.cells #[x, y] T)) v → v.cell? ⟨w.heap.size, 0, none⟩ = some x := fun v h => box_0 w x y T ⟨v, h⟩
theorem box_w1 : ∀ v : World, Below (w.heap.size + 1) (w.alloc (.cells #[x, y] T)) v → v.cell? ⟨w.heap.size, 1, none⟩ = some y := fun v h => box_1 w x y T ⟨v, h⟩
theorem box_b {v : World} (h : Below (w.heap.size + 1) (w.alloc (.cells #[x, y] T)) v) : Below w.heap.size w v := box_below w x y T ⟨v, h⟩
end

section
variable (w : World) (A B C : Array Value) (T T1 T2 : TypeId)
/-- Three blocks of cells, one behind the other. -/
abbrev three : World := ((w.alloc (.cells A T)).alloc (.cells B T1)).alloc (.cells C T2)
theorem three_size : (three w A B C T T1 T2).heap.size = w.heap.size + 3 := by simp
theorem heap_new (w : World) (o : Obj) : (w.alloc o).heap[w.heap.size]? = some o := by show (w.heap.push o)[w.heap.size]? = _; simp
theorem three_b0 : (three w A B C T T1 T2).heap[w.heap.size]? = some (.cells A T (0, 0)) := by
  rw [Below.heap_alloc _ _ _ (by simp; omega), Below.heap_alloc _ _ _ (by simp), heap_new]
theorem three_b1 : (three w A B C T T1 T2).heap[w.heap.size + 1]? = some (.cells B T1 (0, 0)) := by
  rw [Below.heap_alloc _ _ _ (by simp)]
  have h := heap_new (w.alloc (.cells A T)) (.cells B T1 (0, 0))
  rwa [new_size] at h
theorem three_b2 : (three w A B C T T1 T2).heap[w.heap.size + 1 + 1]? = some (.cells C T2 (0, 0)) := by
  have h := heap_new ((w.alloc (.cells A T)).alloc (.cells B T1)) (.cells C T2 (0, 0))
  rwa [new_size, new_size] at h
end
theorem blk_cell {v : World} {b : Nat} {cs : Array Value} {T : TypeId} (h : v.heap[b]? = some (.cells cs T (0, 0))) (j : Nat) : v.cell? ⟨b, j, none⟩ = cs[j]? := by simp [World.cell?, h]
theorem blk_frozen {v : World} {b : Nat} {cs : Array Value} {T : TypeId} (h : v.heap[b]? = some (.cells cs T (0, 0))) (j : Nat) : v.frozen? ⟨b, j, none⟩ = false := by simp [World.frozen?, h]

/-- A new block of two cells, met again after whatever leaves it. -/
theorem box_all {w v : World} {x y : Value} {T : TypeId} (h : Below (w.alloc (.cells #[x, y] T)).heap.size (w.alloc (.cells #[x, y] T)) v) :
    v.heap[w.heap.size]? = some (.cells #[x, y] T (0, 0)) := by
  rw [h.block _ (by simp), heap_new]
theorem blk_two {v : World} {b : Nat} {x y : Value} {T : TypeId} (h : v.heap[b]? = some (.cells #[x, y] T (0, 0))) :
    (v.cell? ⟨b, 0, none⟩ = some x ∧ v.cell? ⟨b, 1, none⟩ = some y) ∧ v.frozen? ⟨b, 0, none⟩ = false ∧ v.frozen? ⟨b, 1, none⟩ = false :=
  ⟨⟨blk_cell h 0, blk_cell h 1⟩, blk_frozen h 0, blk_frozen h 1⟩
theorem blk_keep {v v' : World} {b : Nat} {o : Obj} (h : v.heap[b]? = some o) (k : Below v.heap.size v v') : v'.heap[b]? = some o := by
  rw [k.block b ((Array.getElem?_eq_some_iff.1 h).1)]; exact h
theorem blk_lt {v : World} {b : Nat} {o : Obj} (h : v.heap[b]? = some o) : b < v.heap.size := (Array.getElem?_eq_some_iff.1 h).1

/-- An owned row stays owned while only later blocks turn. -/
theorem own_keep {w w' : World} {B e size : Nat} {v : Value} {n : Nat} {xs : List Value} (h : w.ownsRow B e size v n xs) (hb : Below w.heap.size w w') : w'.ownsRow B e size v n xs := by
  obtain ⟨h1, h2⟩ := h
  refine ⟨h1, ?_⟩
  rcases h2 with h2 | ⟨g, cap, cur, rfl, hg, hh, r⟩
  · exact .inl h2
  · exact .inr ⟨g, cap, cur, rfl, hg, blk_keep hh hb, r⟩

/-- What a block of two cells gives in every later world. -/
theorem lat_0 {w0 : World} {b : Nat} {x y : Value} {T : TypeId} (h : w0.heap[b]? = some (.cells #[x, y] T (0, 0))) : ∀ u : Later w0.heap.size w0, u.w.cell? ⟨b, 0, none⟩ = some x := fun u => (blk_two (blk_keep h u.h)).1.1
theorem lat_1 {w0 : World} {b : Nat} {x y : Value} {T : TypeId} (h : w0.heap[b]? = some (.cells #[x, y] T (0, 0))) : ∀ u : Later w0.heap.size w0, u.w.cell? ⟨b, 1, none⟩ = some y := fun u => (blk_two (blk_keep h u.h)).1.2

/-- The same, by a hypothesis on the world at hand. -/
theorem if_0 {w0 : World} {b : Nat} {x y : Value} {T : TypeId} (h : w0.heap[b]? = some (.cells #[x, y] T (0, 0))) : ∀ v : World, Below w0.heap.size w0 v → v.cell? ⟨b, 0, none⟩ = some x := fun v k => (blk_two (blk_keep h k)).1.1
theorem if_1 {w0 : World} {b : Nat} {x y : Value} {T : TypeId} (h : w0.heap[b]? = some (.cells #[x, y] T (0, 0))) : ∀ v : World, Below w0.heap.size w0 v → v.cell? ⟨b, 1, none⟩ = some y := fun v k => (blk_two (blk_keep h k)).1.2
theorem two_h0 (w : World) (x y x' y' : Value) (T T' : TypeId) : ((w.alloc (.cells #[x, y] T)).alloc (.cells #[x', y'] T')).heap[w.heap.size]? = some (.cells #[x, y] T (0, 0)) := by
  rw [Below.heap_alloc _ _ _ (by simp), heap_new]
theorem two_h1 (w : World) (x y x' y' : Value) (T T' : TypeId) : ((w.alloc (.cells #[x, y] T)).alloc (.cells #[x', y'] T')).heap[w.heap.size + 1]? = some (.cells #[x', y'] T' (0, 0)) := by
  have h := heap_new (w.alloc (.cells #[x, y] T)) (.cells #[x', y'] T' (0, 0))
  rwa [new_size] at h
end Go.Proofs.Ytlhbfpapmolohaa.Kt
