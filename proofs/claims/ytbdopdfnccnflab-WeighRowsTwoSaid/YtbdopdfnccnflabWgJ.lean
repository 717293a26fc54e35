/-
  Small facts of rows that the statements about rows share.
-/
import Derived.Test.YtbdopdfnccnflabWgG
import Derived.Test.YtbdopdfnccnflabWgH
namespace Go.Proofs.Ytbdopdfnccnflab
open Go.RowKit

theorem words_take {xs : List Nat} (h : Words xs) (k : Nat) : Words (xs.take k) := fun d hd => h d (List.mem_of_mem_take hd)
theorem len_take (xs : List Nat) : (xs.take 100).length ≤ 100 := by simp; omega
theorem words_resc {ds : List Nat} (h : Words ds) : Words (rescW ds) := by
  unfold rescW
  intro d hd
  split at hd
  · obtain ⟨y, hy, rfl⟩ := List.mem_map.1 hd
    obtain ⟨x, hx, rfl⟩ := List.mem_map.1 hy
    exact scale_lt _ (tame_rung x)
  · obtain ⟨x, hx, rfl⟩ := List.mem_map.1 hd
    exact tame_lt x (h x hx)
theorem len_resc (ds : List Nat) : (rescW ds).length = ds.length := by unfold rescW; split <;> simp
theorem heavy_some {ds : List Nat} (h : 0 < ds.length) : ∃ m : Nat, heavyW ds = m ∧ m < ds.length ∧ (∀ i, i < ds.length → lessW (ds.getD m 0) (ds.getD i 0) = false) ∧ (∀ i, i < m → lessW (ds.getD i 0) (ds.getD m 0) = true) := by
  rcases heavyAt_spec (fun j => ds.getD j 0) ds.length with ⟨h0, -⟩ | ⟨m, h1, h2, h3, h4⟩
  · omega
  · exact ⟨m, h1, h2, fun i hi => decide_eq_false (by have := h3 i hi; omega), fun i hi => decide_eq_true (h4 i hi)⟩
theorem frow_cells {w : World} {v : Value} {ds : List Nat} (h : FRow w v ds) (h0 : 0 < ds.length) : ∃ g c, v = .slice (some ⟨g, 0, none⟩) ds.length c ∧ ds.length ≤ c ∧ FLies w (some ⟨g, 0, none⟩) ds ∧ (∀ j, j < ds.length → w.cell? ⟨g, j, none⟩ = some (.float .f64 (ds.getD j 0))) := by
  obtain ⟨A, c, rfl, hc, hl⟩ := h
  have hl' := hl
  rcases hl with rfl | ⟨g, rfl, hh⟩
  · simp at h0
  · exact ⟨g, c, rfl, hc, hl', hh⟩
theorem frow_nil {w : World} {v : Value} (h : FRow w v []) : ∃ A c, v = .slice A 0 c ∧ FLies w A [] := by
  obtain ⟨A, c, rfl, -, hl⟩ := h
  exact ⟨A, c, rfl, hl⟩
end Go.Proofs.Ytbdopdfnccnflab
