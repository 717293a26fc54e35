/-
  Clauses with the same literals: the same follows.
-/
import Derived.Test.YtilhamnibdjfaaaPrM
namespace Go.Proofs.Ytilhamnibdjfaaa
open Go.RowKit

/-- each clause of the one has a clause of the other with the same literals -/
def Sim (L M : List (List Int)) : Prop := (∀ c ∈ L, ∃ d ∈ M, ∀ x, x ∈ c ↔ x ∈ d) ∧ ∀ d ∈ M, ∃ c ∈ L, ∀ x, x ∈ c ↔ x ∈ d
theorem okC_congr {A c d : List Int} (h : ∀ x, x ∈ c ↔ x ∈ d) : okC A c ↔ okC A d := by
  unfold okC
  simp only [h]
theorem Sim.closed {L M : List (List Int)} (h : Sim L M) (B : List Int) : closed L B ↔ closed M B := by
  constructor
  · intro k d hd
    obtain ⟨c, hc, e⟩ := h.2 d hd
    exact (okC_congr e).1 (k c hc)
  · intro k c hc
    obtain ⟨d, hd, e⟩ := h.1 c hc
    exact (okC_congr e).2 (k d hd)
theorem Sim.evl {L M : List (List Int)} (h : Sim L M) (B : List Int) : Go.Proofs.Ytilhamnibdjfaaa.evl L B = Go.Proofs.Ytilhamnibdjfaaa.evl M B := by
  have e1 : (∀ c ∈ L, ∃ x ∈ c, wh B x = 1) ↔ ∀ c ∈ M, ∃ x ∈ c, wh B x = 1 := by
    constructor
    · intro k d hd
      obtain ⟨c, hc, e⟩ := h.2 d hd
      obtain ⟨x, hx, e1⟩ := k c hc
      exact ⟨x, (e x).1 hx, e1⟩
    · intro k c hc
      obtain ⟨d, hd, e⟩ := h.1 c hc
      obtain ⟨x, hx, e1⟩ := k d hd
      exact ⟨x, (e x).2 hx, e1⟩
  have e2 : (∃ c ∈ L, ∀ x ∈ c, wh B x = -1) ↔ ∃ c ∈ M, ∀ x ∈ c, wh B x = -1 := by
    constructor
    · rintro ⟨c, hc, k⟩
      obtain ⟨d, hd, e⟩ := h.1 c hc
      exact ⟨d, hd, fun x hx => k x ((e x).2 hx)⟩
    · rintro ⟨d, hd, k⟩
      obtain ⟨c, hc, e⟩ := h.2 d hd
      exact ⟨c, hc, fun x hx => k x ((e x).1 hx)⟩
  obtain ⟨a1, a2, a3, a4⟩ := evl_spec L B
  obtain ⟨b1, b2, b3, b4⟩ := evl_spec M B
  by_cases h1 : Go.Proofs.Ytilhamnibdjfaaa.evl L B = 1
  · rw [h1, b1.2 (e1.1 (a1.1 h1))]
  · by_cases h2 : Go.Proofs.Ytilhamnibdjfaaa.evl L B = -1
    · rw [h2, b2.2 (e2.1 (a2.1 h2))]
    · have h3 : Go.Proofs.Ytilhamnibdjfaaa.evl M B ≠ 1 := fun e => h1 (a1.2 (e1.2 (b1.1 e)))
      have h4 : Go.Proofs.Ytilhamnibdjfaaa.evl M B ≠ -1 := fun e => h2 (a2.2 (e2.2 (b2.1 e)))
      omega
theorem Sim.unit {L M : List (List Int)} (h : Sim L M) (A : List Int) : (Go.Proofs.Ytilhamnibdjfaaa.unit L A).2 = (Go.Proofs.Ytilhamnibdjfaaa.unit M A).2 ∧ ((Go.Proofs.Ytilhamnibdjfaaa.unit L A).2 = false → (Go.Proofs.Ytilhamnibdjfaaa.unit L A).1 = (Go.Proofs.Ytilhamnibdjfaaa.unit M A).1) := unit_same A h.closed
/-- an append of one number, in a plain region -/
theorem run_num1 {w : World} {base n : Nat} {v : Value} {R : List Int} (x : Int) (h : w.ownsRow base 3 1 v n (nums .i64 R)) (hn : n ≤ 1000) (hb : base ≤ w.heap.size) :
    ∃ v' w', (Builtin.append_ #[35, 35] 35 #[v, .slice (some ⟨w.heap.size, 0, none⟩) 1 1]).run Try.prog (w.alloc (.cells #[.int .i64 x] 3)) = .ok v' w' ∧ w'.ownsRow base 3 1 v' (n + 1) (nums .i64 (R ++ [x])) ∧ Below base w w' := by
  obtain ⟨i0, hi0, hz0, hz1, hz2⟩ := int_parts
  have b1 := bel_alloc w (.cells #[.int .i64 x] 3)
  have h1 := own_keep h b1
  obtain ⟨v', w', e, h2, h3, -, -⟩ := run_append_own_at (P := Try.prog) (w.alloc (.cells #[.int .i64 x] 3)) base 35 35 3 i0 _ 1 8 Try.underlying35 hi0 hz0 hz1 hz2 rfl (by omega) v n (nums .i64 R) h1 ⟨w.heap.size, 0, none⟩ 1 1 [.int .i64 x] rfl (one_cell _ _ _) (nums_one .i64 [x]) (by unfold maxLen; omega) (by omega) (Nat.le_trans hb b1.size)
  refine ⟨v', w', e, by rw [nums_append]; exact h2, ?_⟩
  exact (b1.mono hb).trans (below_grown h3 (fun k hk => (own_lt h1 hk).1) (Nat.le_trans hb b1.size))
/-- an append of one row, in a plain region -/
theorem run_row1 {w : World} {base B' : Nat} {v u : Value} {C : List (List Int)} {us : List Value} {R : List Int} (h : CR w base v C us) (hu : w.ownsRow B' 3 1 u R.length (nums .i64 R)) (hl : C.length ≤ 1000) (hb : base ≤ w.heap.size) :
    ∃ v' w', (Builtin.append_ #[22, 22] 22 #[v, .slice (some ⟨w.heap.size, 0, none⟩) 1 1]).run Try.prog (w.alloc (.cells #[u] 35)) = .ok v' w' ∧ CR w' base v' (C ++ [R]) (us ++ [u]) ∧ Below base w w' := by
  have b1 := bel_alloc w (.cells #[u] 35)
  obtain ⟨v', w', e, h2, h3⟩ := run_row (ad := ⟨w.heap.size, 0, none⟩) (h.later b1) (own_keep hu b1) (one_cell w u 35) hl (Nat.le_trans hb b1.size)
  exact ⟨v', w', e, h2, (b1.mono hb).trans h3⟩
end Go.Proofs.Ytilhamnibdjfaaa
