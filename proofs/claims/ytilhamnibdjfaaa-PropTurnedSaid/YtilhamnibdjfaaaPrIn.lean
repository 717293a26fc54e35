/-
  What came in, opened: rows of rows of ints, a row of int8s, a row of bools, a row of ints.
-/
import Derived.Test.YtilhamnibdjfaaaPrM
import Derived.Deep.Matrix
import Derived.Deep.Grids
import Derived.ShutString
import Derived.ChangeOld
import Derived.Carry
namespace Go.Proofs.Ytilhamnibdjfaaa
open Go.ChangeShapes Go.WideShapes Go.ChangeAt Go.RowKit

theorem laidOutW : laidOutB Try.prog = true := by kernel_rfl
theorem plain_addr {w : World} {a : Addr} {v : Value} (h : w.cell? (a.add 0) = some v) : ∃ b o, a = ⟨b, o, none⟩ := by
  obtain ⟨b, off, spot⟩ := a
  have hspot : spot = none := by simpa [Addr.add] using World.cell?_spot h
  subst hspot
  exact ⟨b, off, rfl⟩
/-- a row of numbers out of its cells -/
theorem rk_cells {k : IntKind} {w : World} {a : Option Addr} {len cap : Nat} {zs : List Int} (hl : len ≤ cap) (hz : zs.length = cap) (h0 : a = none → cap = 0) (hc : ∀ a', a = some a' → ∀ c, c < cap → w.cell? (a'.add c) = some (.int k (zs.getD c 0))) :
    (zs.take len).length = len ∧ RK k w (.slice a len cap) (zs.take len) := by
  have hlen : (zs.take len).length = len := by rw [List.length_take]; omega
  refine ⟨hlen, a, cap, by rw [hlen], by rw [hlen]; exact hl, h0, fun j hj => ?_⟩
  rw [hlen] at hj
  cases a with
  | none => have := h0 rfl; omega
  | some a' =>
    have h1 := hc a' rfl j (by omega)
    obtain ⟨b, o, rfl⟩ := plain_addr (hc a' rfl 0 (by omega))
    refine ⟨b, o, rfl, ?_⟩
    rw [Go.WideShapes.add_plain] at h1
    rw [h1]
    simp only [List.getD_eq_getElem?_getD]
    rw [List.getElem?_take_of_lt hj]
theorem choose_row {H : Type} {enc : TypeId × Value → H} {W : World} {k : IntKind} {t e : TypeId} {a : Option Addr} {len cap : Nat} {d : DataW H} {ps : List MemPlace} (ht : Try.prog.underlying t = some (.slice e)) (he : Try.prog.underlying e = some (.int k)) (hce : Try.prog.cellsOf e = 1)
    (h : DataW.Trod enc Try.prog W 0 (fun _ => true) true t (.slice a len cap) d ps) : ∃ xs : List Int, xs.length = len ∧ RK k W (.slice a len cap) xs ∧ xs.length ≤ maxLen ∧ ∀ x ∈ xs, (Lit.int k x).wf = true := by
  obtain ⟨fuel, hf⟩ := h
  rcases open_ints ht he hce hf with ⟨hcs, _⟩ | ⟨x, l, c, zs, hcs, _, hl, hm, hz, _, hcell, hwz⟩
  · simp [Value.cells] at hcs
    obtain ⟨rfl, rfl, rfl⟩ := hcs
    exact ⟨[], rfl, ⟨none, 0, rfl, Nat.le_refl _, fun _ => rfl, fun j hj => absurd hj (by simp)⟩, by simp, fun x hx => by cases hx⟩
  · simp [Value.cells] at hcs
    obtain ⟨rfl, rfl, rfl⟩ := hcs
    have hz' : zs.length = cap := by simpa using hz
    obtain ⟨h1, h2⟩ := rk_cells (k := k) (w := W) (a := some x) (len := len) (cap := cap) hl hz' (fun h => by cases h) (fun a' ha c hc => by cases ha; exact hcell c (by omega))
    exact ⟨zs.take len, h1, h2, by rw [h1]; omega, fun y hy => hwz y (List.mem_of_mem_take hy)⟩
theorem rows_in {H : Type} {enc : TypeId × Value → H} {W : World} {a : Option Addr} {len cap : Nat} {d : DataW H} {ps : List MemPlace}
    (h : DataW.Trod enc Try.prog W 0 (fun _ => true) true 22 (.slice a len cap) d ps) : ∃ L : List (List Int), L.length = len ∧ RR W (.slice a len cap) L ∧ (∀ c ∈ L, c.length ≤ maxLen) ∧ ∀ c ∈ L, Fit c := by
  obtain ⟨fuel, hf⟩ := h
  rcases Go.Deep.open_int_rows Try.underlying22 Try.underlying35 Try.underlying3 (by kernel_rfl) (by kernel_rfl) hf with ⟨hcs, _⟩ | ⟨x, l, c, A, Ln, C, Z, hcs, _, hl, hm, _, hcell⟩
  · simp [Value.cells] at hcs
    obtain ⟨rfl, rfl, rfl⟩ := hcs
    exact ⟨[], rfl, nil_rows W, fun c hc => absurd hc (by simp), fun c hc => absurd hc (by simp)⟩
  · simp [Value.cells] at hcs
    obtain ⟨rfl, rfl, rfl⟩ := hcs
    have hrow : ∀ r, r < len → ((Z r).take (Ln r)).length = Ln r ∧ RK .i64 W (.slice (A r) (Ln r) (C r)) ((Z r).take (Ln r)) := fun r hr => by
      obtain ⟨h1, h2, h3, h4, h5, h6, h7⟩ := hcell r (by omega)
      exact rk_cells h2 h4 h6 (fun a' ha => (h7 a' ha).2)
    have hL : ((List.range len).map (fun r => (Z r).take (Ln r))).length = len := by simp
    refine ⟨(List.range len).map (fun r => (Z r).take (Ln r)), hL, ⟨some x, cap, by rw [hL], by rw [hL]; exact hl, fun h => absurd h (by simp), fun i hi => ?_⟩, fun c hc => ?_, fun c hc => ?_⟩
    · rw [hL] at hi
      obtain ⟨h1, -⟩ := hcell i (by omega)
      obtain ⟨b, o, rfl⟩ := plain_addr (hcell 0 (by omega)).1
      rw [Go.WideShapes.add_plain] at h1
      refine ⟨b, o, _, rfl, h1, ?_⟩
      have e : ((List.range len).map (fun r => (Z r).take (Ln r))).getD i [] = (Z i).take (Ln i) := by simp [List.getD_eq_getElem?_getD, hi]
      rw [e]
      exact (hrow i hi).2
    · obtain ⟨r, hr, rfl⟩ := List.mem_map.1 hc
      have hr' := List.mem_range.1 hr
      rw [(hrow r hr').1]
      obtain ⟨h1, h2, h3, -⟩ := hcell r (by omega)
      omega
    · obtain ⟨r, hr, rfl⟩ := List.mem_map.1 hc
      have hr' := List.mem_range.1 hr
      obtain ⟨h1, h2, h3, h4, h5, -⟩ := hcell r (by omega)
      exact fun y hy => bounds_i64 (h5 y (List.mem_of_mem_take hy))
/-- a row of bools that can be read -/
def RBo (w : World) (v : Value) (bs : List Bool) : Prop := ∃ a c, v = .slice a bs.length c ∧ bs.length ≤ maxLen ∧ ∀ j, j < bs.length → ∃ b o, a = some ⟨b, o, none⟩ ∧ w.cell? ⟨b, o + j, none⟩ = some (.bool (bs.getD j false))
theorem RBo.later {w w' : World} {v : Value} {bs : List Bool} (h : RBo w v bs) (hb : Below w.heap.size w w') : RBo w' v bs := by
  obtain ⟨a, c, e, hl, h⟩ := h
  refine ⟨a, c, e, hl, fun j hj => ?_⟩
  obtain ⟨b, o, ea, hc⟩ := h j hj
  exact ⟨b, o, ea, cell_later hb hc⟩
theorem bools_in {H : Type} {enc : TypeId × Value → H} {W : World} {a : Option Addr} {len cap : Nat} {d : DataW H} {ps : List MemPlace}
    (h : DataW.Trod enc Try.prog W 0 (fun _ => true) true 33 (.slice a len cap) d ps) : ∃ bs : List Bool, bs.length = len ∧ RBo W (.slice a len cap) bs := by
  obtain ⟨fuel, hf⟩ := h
  rcases Go.Deep.open_bools Try.underlying33 Try.underlying4 (by kernel_rfl) hf with ⟨hcs, _⟩ | ⟨x, l, c, B, hcs, _, hl, hm, _, hcell⟩
  · simp [Value.cells] at hcs
    obtain ⟨rfl, rfl, rfl⟩ := hcs
    exact ⟨[], rfl, none, 0, rfl, by simp, fun j hj => absurd hj (by simp)⟩
  · simp [Value.cells] at hcs
    obtain ⟨rfl, rfl, rfl⟩ := hcs
    have hL : ((List.range len).map B).length = len := by simp
    refine ⟨(List.range len).map B, hL, some x, cap, by rw [hL], by rw [hL]; omega, fun j hj => ?_⟩
    rw [hL] at hj
    have h1 := hcell j (by omega)
    obtain ⟨b, o, rfl⟩ := plain_addr (hcell 0 (by omega))
    rw [Go.WideShapes.add_plain] at h1
    refine ⟨b, o, rfl, ?_⟩
    rw [h1]
    simp [List.getD_eq_getElem?_getD, hj]
theorem fit_all {xs : List Int} (h : ∀ x ∈ xs, (Lit.int .i64 x).wf = true) : Fit xs := fun x hx => bounds_i64 (h x hx)
end Go.Proofs.Ytilhamnibdjfaaa
