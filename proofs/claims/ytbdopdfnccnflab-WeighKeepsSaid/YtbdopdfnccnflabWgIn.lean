/-
  A slice of uint64s that came in, as a row of words.
-/
import Derived.Test.YtbdopdfnccnflabWgB
import Derived.ProofKit
import Derived.OpenShut
import Derived.ShutString
import Derived.ChangeOld
import Derived.Carry
namespace Go.Proofs.Ytbdopdfnccnflab
open Go.ChangeShapes Go.WideShapes Go.ChangeAt Go.RowKit

theorem laidOutW : laidOutB Try.prog = true := by kernel_rfl
theorem word_of {a : Int} (h : (Lit.int .u64 a).wf = true) : ∃ x : Nat, a = x ∧ x < 18446744073709551616 := by
  have := bounds_u64 h
  exact ⟨a.toNat, by omega, by omega⟩
theorem slice_in {H : Type} {enc : TypeId × Value → H} {W : World} {a : Option Addr} {len cap : Nat} {d : DataW H} {ps : List MemPlace}
    (h : DataW.Trod enc Try.prog W 0 (fun _ => true) true 22 (.slice a len cap) d ps) : ∃ xs : List Nat, xs.length = len ∧ ILies W a xs ∧ Words xs ∧ xs.length ≤ maxLen ∧ xs.length ≤ cap := by
  obtain ⟨fuel, hf⟩ := h
  rcases open_ints Try.underlying22 Try.underlying31 (by kernel_rfl) hf with ⟨hcs, _⟩ | ⟨x, l, c, zs, hcs, _, hl, hm, hz, _, hcell, hwz⟩
  · simp [Value.cells] at hcs
    obtain ⟨rfl, rfl, rfl⟩ := hcs
    exact ⟨[], rfl, .inl rfl, fun d hd => by simp at hd, by simp, by simp⟩
  · simp [Value.cells] at hcs
    obtain ⟨rfl, rfl, rfl⟩ := hcs
    have hz' : zs.length = cap := by simpa using hz
    have hlen : ((zs.take len).map Int.toNat).length = len := by simp; omega
    refine ⟨(zs.take len).map Int.toNat, hlen, ?_, ?_, by omega, by omega⟩
    · by_cases h0 : len = 0
      · left; subst h0; simp
      · obtain ⟨b, off, rfl, hc⟩ := ints_at hcell (by omega)
        refine .inr ⟨b, off, rfl, fun j hj => ?_⟩
        rw [hlen] at hj
        rw [hc j (by omega)]
        have hb := range_u64 hwz j
        have e : ((zs.take len).map Int.toNat).getD j 0 = (zs.getD j 0).toNat := by
          simp [List.getD, List.getElem?_map, hj, List.getElem?_eq_getElem (show j < zs.length by omega)]
        rw [e]
        have : 0 ≤ zs.getD j 0 := hb.1
        rw [Int.toNat_of_nonneg this]
    · intro n hn
      obtain ⟨m, hm1, rfl⟩ := List.mem_map.1 hn
      have := bounds_u64 (hwz m (List.mem_of_mem_take hm1))
      omega
end Go.Proofs.Ytbdopdfnccnflab
