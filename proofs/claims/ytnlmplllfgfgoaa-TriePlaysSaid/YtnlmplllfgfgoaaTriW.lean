/-
  SLICES OF PREFIXES, OF ENTRIES AND OF CALLS IN OLD MEMORY, AS A ROW's DATUM READS THEM.
-/
import Derived.Test.YtnlmplllfgfgoaaTriM
import Derived.Test.YtnlmplllfgfgoaaRows
import Derived.Deep.SlicePairs
import Derived.ChangeArms
import Derived.ProofKit
namespace Go.Proofs.Ytnlmplllfgfgoaa.Ad
set_option linter.unusedSimpArgs false
set_option linter.unusedVariables false
open Go.RowKit Am Tp Tm

theorem u32_nat {m : Int} (h : (Lit.int .u32 m).wf = true) : ∃ k : Nat, m = k ∧ k < 4294967296 := by
  have h' : 0 ≤ m ∧ m ≤ 4294967295 := by
    simp [Lit.wf, IntKind.min, IntKind.max, IntKind.signed, IntKind.bits] at h
    omega
  exact ⟨m.toNat, by omega, by omega⟩
/-- A call of a law's list. -/
abbrev RAct := (Int × RPx) × (Int × Nat)
def rAct (x : RAct) : List Value := [.int .i64 x.1.1, .int .u32 (x.1.2.1 : Int), .int .i64 x.1.2.2, .int .i64 x.2.1, .int .u32 (x.2.2 : Int)]
theorem rAct_len (x : RAct) : (rAct x).length = 5 := rfl

section
variable {H : Type} {enc : TypeId × Value → H} {W : World} {base : Nat} {spare : Nat → Bool} {held : Bool}
theorem el_px {fuel : Nat} {cs : List Value} {x : DataW H × List MemPlace} (h : DataW.trod enc Try.prog W base spare held fuel 31 cs = some x) : ∃ p : RPx, cs = rPx p ∧ p.1 < 4294967296 := by
  obtain ⟨xs, k, _, _, hlen, hxl, hf⟩ := DataW.trod_struct Try.underlying31 h
  have hc : Try.prog.cellsOf 31 = 2 := by kernel_rfl
  have h1 : Try.prog.cellsOf 29 = 1 := by kernel_rfl
  have h2 : Try.prog.cellsOf 3 = 1 := by kernel_rfl
  rw [hc] at hlen
  match cs, hlen, xs, hxl with
  | [v0, v1], _, [y0, y1], _ =>
    have g0 := hf 0 _ rfl
    have g1 := hf 1 _ rfl
    simp [h1, h2] at g0 g1
    obtain ⟨z0, e0, _, w0⟩ := DataW.trod_int Try.underlying29 g0
    obtain ⟨z1, e1, _, w1⟩ := DataW.trod_int Try.underlying3 g1
    simp at e0 e1
    obtain ⟨y, rfl, hy⟩ := u32_nat w0
    exact ⟨(y, z1), by rw [e0, e1]; rfl, hy⟩
theorem el_en {fuel : Nat} {cs : List Value} {x : DataW H × List MemPlace} (h : DataW.trod enc Try.prog W base spare held fuel 51 cs = some x) : ∃ p : REn, cs = rEn p ∧ p.1.1 < 4294967296 := by
  obtain ⟨xs, k, _, _, hlen, hxl, hf⟩ := DataW.trod_struct Try.underlying51 h
  have hc : Try.prog.cellsOf 51 = 3 := by kernel_rfl
  have h1 : Try.prog.cellsOf 31 = 2 := by kernel_rfl
  have h2 : Try.prog.cellsOf 3 = 1 := by kernel_rfl
  rw [hc] at hlen
  match cs, hlen, xs, hxl with
  | [v0, v1, v2], _, [y0, y1], _ =>
    have g0 := hf 0 _ rfl
    have g1 := hf 1 _ rfl
    simp [h1, h2] at g0 g1
    obtain ⟨p, e0, hp⟩ := el_px g0
    obtain ⟨z1, e1, _, w1⟩ := DataW.trod_int Try.underlying3 g1
    simp [rPx] at e0 e1
    exact ⟨(p, z1), by rw [e0.1, e0.2, e1]; rfl, hp⟩
theorem el_act {fuel : Nat} {cs : List Value} {x : DataW H × List MemPlace} (h : DataW.trod enc Try.prog W base spare held fuel 33 cs = some x) : ∃ p : RAct, cs = rAct p ∧ p.1.2.1 < 4294967296 ∧ p.2.2 < 4294967296 := by
  obtain ⟨xs, k, _, _, hlen, hxl, hf⟩ := DataW.trod_struct Try.underlying33 h
  have hc : Try.prog.cellsOf 33 = 5 := by kernel_rfl
  have h1 : Try.prog.cellsOf 31 = 2 := by kernel_rfl
  have h2 : Try.prog.cellsOf 3 = 1 := by kernel_rfl
  have h3 : Try.prog.cellsOf 29 = 1 := by kernel_rfl
  rw [hc] at hlen
  match cs, hlen, xs, hxl with
  | [v0, v1, v2, v3, v4], _, [y0, y1, y2, y3], _ =>
    have g0 := hf 0 _ rfl
    have g1 := hf 1 _ rfl
    have g2 := hf 2 _ rfl
    have g3 := hf 3 _ rfl
    simp [h1, h2, h3] at g0 g1 g2 g3
    obtain ⟨z0, e0, _, w0⟩ := DataW.trod_int Try.underlying3 g0
    obtain ⟨p, e1, hp⟩ := el_px g1
    obtain ⟨z2, e2, _, w2⟩ := DataW.trod_int Try.underlying3 g2
    obtain ⟨z3, e3, _, w3⟩ := DataW.trod_int Try.underlying29 g3
    obtain ⟨y, rfl, hy⟩ := u32_nat w3
    simp [rPx] at e0 e1 e2 e3
    exact ⟨((z0, p), (z2, y)), by rw [e0, e1.1, e1.2, e2, e3]; rfl, hp, hy⟩
/-- A slice whose elements are some cells each. -/
theorem opened {α : Type} {f : α → List Value} {z : Nat} {Q : α → Prop} (d : α) {t e : TypeId} (hz : ∀ x, (f x).length = z) (ht : Try.prog.underlying t = some (.slice e)) (hc : Try.prog.cellsOf e = z)
    (hel : ∀ {n : Nat} {cs : List Value} {x : DataW H × List MemPlace}, DataW.trod enc Try.prog W base spare held n e cs = some x → ∃ p : α, cs = f p ∧ Q p)
    {fuel : Nat} {a : Option Addr} {len cap : Nat} {x : DataW H × List MemPlace} (h : DataW.trod enc Try.prog W base spare held fuel t (Value.slice a len cap).cells.toList = some x) :
    ∃ s : List α, IsRow f z W (.slice a len cap) s ∧ ∀ y ∈ s, Q y := by
  rcases Deep.open_slice ht h with ⟨hcs, _⟩ | ⟨ad, l, c, m, n, D, Pl, hcs, _, hl, hm, hmm, _, hx⟩
  · simp [Value.cells] at hcs
    obtain ⟨rfl, rfl, rfl⟩ := hcs
    exact ⟨[], rows_nil, fun y hy => by cases hy⟩
  · simp [Value.cells] at hcs
    obtain ⟨rfl, rfl, rfl⟩ := hcs
    have hlm : len ≤ m := by rw [hmm]; split <;> omega
    have each : ∀ i, ∃ q : α, i < len → (∀ j, j < z → W.cell? (ad.add (i * z + j)) = (f q)[j]?) ∧ Q q := by
      intro i
      by_cases hi : i < len
      · obtain ⟨cs', h1, h2⟩ := hx i (by omega)
        rw [hc] at h1
        obtain ⟨p, rfl, hp⟩ := hel h2
        obtain ⟨_, _, hcell⟩ := World.cells?_some h1
        refine ⟨p, fun _ => ⟨fun j hj => ?_, hp⟩⟩
        have := hcell j hj
        rwa [Deep.add_add] at this
      · exact ⟨d, fun h => absurd h hi⟩
    obtain ⟨g, hg⟩ := Classical.axiomOfChoice each
    refine ⟨(List.range len).map g, n_row (n := len) ⟨by rw [fl_len hz]; simp, .inr ⟨ad, cap, rfl, hl, fun j u hj => ?_⟩⟩ (by simp), fun y hy => ?_⟩
    · have hjl : j < ((List.range len).map g).length * z := by rw [← fl_len hz]; exact (List.getElem?_eq_some_iff.1 hj).1
      simp at hjl
      have hz0 : 0 < z := Nat.pos_of_ne_zero fun e => by rw [e] at hjl; simp at hjl
      have hk : j / z < len := (Nat.div_lt_iff_lt_mul hz0).2 hjl
      have hje : j = j / z * z + j % z := by rw [Nat.mul_comm]; exact (Nat.div_add_mod j z).symm
      have hget : ((List.range len).map g)[j / z]? = some (g (j / z)) := by simp [hk]
      have hfg := fl_get hz ((List.range len).map g) (j / z) (g (j / z)) hget (j % z) (Nat.mod_lt _ hz0)
      have hw := (hg (j / z) hk).1 (j % z) (Nat.mod_lt _ hz0)
      rw [← hje] at hfg hw
      rw [hw, ← hfg]
      exact hj
    · rw [List.mem_map] at hy
      obtain ⟨k, hk, rfl⟩ := hy
      exact (hg k (List.mem_range.1 hk)).2
end
end Go.Proofs.Ytnlmplllfgfgoaa.Ad
