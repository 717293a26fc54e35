/-
  Clauses with the same literals: the same follows.
-/
import Derived.Test.YtilhamnibdjfaaaPrM
namespace Go.Proofs.Ytilhamnibdjfaaa
open Go.RowKit

/-- each clause of the one has a clause of the other with the same literals -/
def Sim (L M : List (List Int)) : Prop := (∀ c ∈ L, ∃ d ∈ M, ∀ x, x ∈ c ↔ x ∈ d) ∧ ∀ d ∈ M, ∃ c ∈ L, ∀ x, x ∈ c ↔ x ∈ d
theorem okC_congr {A c d : List Int} (h : ∀ x, x ∈ c ↔ x ∈ d) : okC A c ↔ okC A d := by
  unfold okC
  simp only [h]
theorem Sim.closed {L M : List (List Int)} (h : Sim L M) (B : List Int) : closed L B ↔ closed M B := by
  constructor
  · intro k d hd
    obtain ⟨c, hc, e⟩ := h.2 d hd
    exact (okC_congr e).1 (k c hc)
  · intro k c hc
    obtain ⟨d, hd, e⟩ := h.1 c hc
    exact (okC_congr e).2 (k d hd)
theorem Sim.evl {L M : List (List Int)} (h : Sim L M) (B : List Int) : Go.Proofs.Ytilhamnibdjfaaa.evl L B = Go.Proofs.Ytilhamnibdjfaaa.evl M B := by
  have e1 : (∀ c ∈ L, ∃ x ∈ c, wh B x = 1) ↔ ∀ c ∈ M, ∃ x ∈ c, wh B x = 1 := by
    constructor
    · intro k d hd
      obtain ⟨c, hc, e⟩ := h.2 d hd
      obtain ⟨x, hx, e1⟩ := k c hc
      exact ⟨x, (e x).1 hx, e1⟩
    · intro k c hc
      obtain ⟨d, hd, e⟩ := h.1 c hc
      obtain ⟨x, hx, e1⟩ := k d hd
      exact ⟨x, (e x).2 hx, e1⟩
  have e2 : (∃ c ∈ L, ∀ x ∈ c, wh B x = -1) ↔ ∃ c ∈ M, ∀ x ∈ c, wh B x = -1 := by
    constructor
    · rintro ⟨c, hc, k⟩
      obtain ⟨d, hd, e⟩ := h.1 c hc
      exact ⟨d, hd, fun x hx => k x ((e x).2 hx)⟩
    · rintro ⟨d, hd, k⟩
      obtain ⟨c, hc, e⟩ := h.2 d hd
      exact ⟨c, hc, fun x hx => k x ((e x).1 hx)⟩
  obtain ⟨a1, a2, a3, a4⟩ := evl_spec L B
  obtain ⟨b1, b2, b3, b4⟩ := evl_spec M B
  by_cases h1 : Go.Proofs.Ytilhamnibdjfaaa.evl L B = 1
  · rw [h1, b1.2 (e1.1 (a1.1 h1))]
  · by_cases h2 : Go.Proofs.Ytilhamnibdjfaaa.evl L B = -1
    · rw [h2, b2.2 (e2.1 (a2.1 h2))]
    · have h3 : Go.Proofs.Ytilhamnibdjfaaa.evl M B ≠ 1 := fun e => h1 (a1.2 (e1.2 (b1.1 e)))
      have h4 : Go.Proofs.Ytilhamnibdjfaaa.evl M B ≠ -1 := fun e => h2 (a2.2 (e2.2 (b2.1 e)))
      omega
theorem Sim.unit {L M : List (List Int)} (h : Sim L M) (A : List Int) : (Go.Proofs.Ytilhamnibdjfaaa.unit L A).2 = (Go.Proofs.Ytilhamnibdjfaaa.unit M A).2 ∧ ((Go.Proofs.Ytilhamnibdjfaaa.unit L A).2 = false → (Go.Proofs.Ytilhamnibdjfaaa.unit L A).1 = (Go.Proofs.Ytilhamnibdjfaaa.unit M A).1) := unit_same A h.closed
/-- an append of one number, in a plain region -/
theorem run_num1 {w : World} {base n : Nat} {v : Value} {R : List Int} (x : Int) (h : w.ownsRow base 3 1 v n (nums .i64 R)) (hn : n ≤ 1000) (hb : base ≤ w.heap.size) :
    ∃ v' w', (Builtin.append_ #[35, 35] 35 #[v, .slice (some ⟨w.heap.size, 0, none⟩) 1 1]).run Try.prog (w.alloc (.cells #[.int .i64 x] 3)) = .ok v' w' ∧ w'.ownsRow base 3 1 v' (n + 1) (nums .i64 (R ++ [x])) ∧ Below base w w' := by
  obtain ⟨i0, hi0, hz0, hz1, hz2⟩ := int_parts
  have b1 := bel_alloc w (.cells #[.int .i64 x] 3)
  have h1 := own_keep h b1
  obtain ⟨v', w', e, h2, h3, -, -⟩ := run_append_own_at (P := Try.prog) (w.alloc (.cells #[.int .i64 x] 3)) base 35 35 3 i0 _ 1 8 Try.underlying35 hi0 hz0 hz1 hz2 rfl (by omega) v n (nums .i64 R) h1 ⟨w.heap.size, 0, none⟩ 1 1 [.int .i64 x] rfl (one_cell _ _ _) (nums_one .i64 [x]) (by unfold maxLen; omega) (by omega) (Nat.le_trans hb b1.size)
  refine ⟨v', w', e, by rw [nums_append]; exact h2, ?_⟩
  exact (b1.mono hb).trans (below_grown h3 (fun k hk => (own_lt h1 hk).1) (Nat.le_trans hb b1.size))
/-- an append of one row, in a plain region -/
theorem run_row1 {w : World} {base B' : Nat} {v u : Value} {C : List (List Int)} {us : List Value} {R : List Int} (h : CR w base v C us) (hu : w.ownsRow B' 3 1 u R.length (nums .i64 R)) (hl : C.length ≤ 1000) (hb : base ≤ w.heap.size) :
    ∃ v' w', (Builtin.append_ #[22, 22] 22 #[v, .slice (some ⟨w.heap.size, 0, none⟩) 1 1]).run Try.prog (w.alloc (.cells #[u] 35)) = .ok v' w' ∧ CR w' base v' (C ++ [R]) (us ++ [u]) ∧ Below base w w' := by
  have b1 := bel_alloc w (.cells #[u] 35)
  obtain ⟨v', w', e, h2, h3⟩ := run_row (ad := ⟨w.heap.size, 0, none⟩) (h.later b1) (own_keep hu b1) (one_cell w u 35) hl (Nat.le_trans hb b1.size)
  exact ⟨v', w', e, h2, (b1.mono hb).trans h3⟩
/-- an append of two numbers -/
theorem run_num2 {w : World} {base n : Nat} {v : Value} {R : List Int} (x y : Int) (h : w.ownsRow base 3 1 v n (nums .i64 R)) (hn : n ≤ 1000) (hb : base ≤ w.heap.size) :
    ∃ v' w', (Builtin.append_ #[35, 35] 35 #[v, .slice (some ⟨w.heap.size, 0, none⟩) 2 2]).run Try.prog (w.alloc (.cells #[.int .i64 x, .int .i64 y] 3)) = .ok v' w' ∧ w'.ownsRow base 3 1 v' (n + 2) (nums .i64 (R ++ [x, y])) ∧ Below base w w' := by
  obtain ⟨i0, hi0, hz0, hz1, hz2⟩ := int_parts
  have b1 := bel_alloc w (.cells #[.int .i64 x, .int .i64 y] 3)
  have h1 := own_keep h b1
  have hcs : ∀ j u, [Value.int .i64 x, .int .i64 y][j]? = some u → (w.alloc (.cells #[.int .i64 x, .int .i64 y] 3)).cell? ((⟨w.heap.size, 0, none⟩ : Addr).add j) = some u := by
    intro j u hu
    rw [Go.WideShapes.add_plain]
    match j, hu with
    | 0, hu => simpa [go_sem] using hu
    | 1, hu => simpa [go_sem] using hu
    | j + 2, hu => simp at hu
  obtain ⟨v', w', e, h2, h3, -, -⟩ := run_append_own_at (P := Try.prog) (w.alloc (.cells #[.int .i64 x, .int .i64 y] 3)) base 35 35 3 i0 _ 1 8 Try.underlying35 hi0 hz0 hz1 hz2 rfl (by omega) v n (nums .i64 R) h1 ⟨w.heap.size, 0, none⟩ 2 2 [.int .i64 x, .int .i64 y] rfl hcs (nums_one .i64 [x, y]) (by unfold maxLen; omega) (by omega) (Nat.le_trans hb b1.size)
  refine ⟨v', w', e, by rw [nums_append]; exact h2, ?_⟩
  exact (b1.mono hb).trans (below_grown h3 (fun k hk => (own_lt h1 hk).1) (Nat.le_trans hb b1.size))
theorem CR.rd {w : World} {base : Nat} {v : Value} {C : List (List Int)} {us : List Value} (h : CR w base v C us) : ∃ a c, v = .slice a C.length c ∧ C.length ≤ c ∧ ∀ i, i < C.length → ∃ g r b', a = some ⟨g, 0, none⟩ ∧ w.cell? ⟨g, i, none⟩ = some r ∧ w.ownsRow b' 3 1 r (C.getD i []).length (nums .i64 (C.getD i [])) := by
  obtain ⟨a, c, e, hc, h0⟩ := own_val h.row
  refine ⟨a, c, e, hc, fun i hi => ?_⟩
  obtain ⟨g, cap, e'⟩ := own_some h.row (by omega)
  rw [e] at e'
  simp only [Value.slice.injEq, true_and] at e'
  obtain ⟨rfl, rfl⟩ := e'
  have hi' : i < us.length := by rw [h.len]; exact hi
  have hr := h.row
  rw [e] at hr
  obtain ⟨b, k⟩ := h.els i hi'
  refine ⟨g, us[i], b, rfl, ?_, k⟩
  rw [hr.cellAt i (by omega), List.getElem?_eq_getElem hi']
theorem CR.one_cells {w : World} {base : Nat} {v : Value} {C : List (List Int)} {us : List Value} (h : CR w base v C us) : ∀ u ∈ us, u.oneCell' = true := by
  intro u hu
  obtain ⟨i, hi, rfl⟩ := List.getElem_of_mem hu
  obtain ⟨b, k⟩ := h.els i hi
  obtain ⟨a, c, e, -⟩ := own_val k
  rw [e]; rfl
theorem CR.joined {w w' : World} {base b2 : Nat} {v v2 v' : Value} {C M : List (List Int)} {us us2 : List Value} (h : CR w base v C us) (h2 : CR w b2 v2 M us2) (hr : w'.ownsRow base 35 1 v' (C.length + M.length) (us ++ us2)) (hg : w.grownBy w' v.ownBlock) : CR w' base v' (C ++ M) (us ++ us2) := by
  refine ⟨by simpa using hr, by simp [h.len, h2.len], fun i hi => ?_⟩
  by_cases hlt : i < us.length
  · obtain ⟨b, k⟩ := h.els i hlt
    have e1 : (C ++ M).getD i [] = C.getD i [] := by
      have : i < C.length := by rw [← h.len]; exact hlt
      simp [List.getD_eq_getElem?_getD, List.getElem?_append_left this]
    rw [e1, List.getElem_append_left hlt]
    exact ⟨b, own_grown k hg (own_apart k h.row (by decide))⟩
  · have hi2 : i - us.length < us2.length := by rw [List.length_append] at hi; omega
    obtain ⟨b, k⟩ := h2.els (i - us.length) hi2
    have e1 : (C ++ M).getD i [] = M.getD (i - us.length) [] := by
      rw [List.getD_eq_getElem?_getD, List.getElem?_append_right (by rw [← h.len]; omega), ← List.getD_eq_getElem?_getD, h.len]
    rw [e1, List.getElem_append_right (by omega)]
    exact ⟨b, own_grown k hg (own_apart k h.row (by decide))⟩
/-- rows more, by append -/
theorem run_rows {w : World} {base b2 : Nat} {v v2 : Value} {C M : List (List Int)} {us us2 : List Value} (h : CR w base v C us) (h2 : CR w b2 v2 M us2) (hl : C.length + M.length ≤ 1000) (hb : base ≤ w.heap.size) :
    ∃ v' w', (Builtin.append_ #[22, 22] 22 #[v, v2]).run Try.prog w = .ok v' w' ∧ CR w' base v' (C ++ M) (us ++ us2) ∧ Below base w w' := by
  obtain ⟨i0, hi0, hz0, hz1, hz2⟩ := sl_parts
  rcases h2.row.2 with ⟨rfl, h0⟩ | ⟨g, cap, cur, rfl, -⟩
  · have hM : M = [] := List.length_eq_zero_iff.1 h0
    subst hM
    have hu : us2 = [] := List.length_eq_zero_iff.1 h2.len
    subst hu
    refine ⟨v, w, run_append_owned_none w base 22 22 35 i0 1 Try.underlying22 hi0 v C.length us h.row, by simpa using h, Below.refl _ _⟩
  · obtain ⟨v', w', e, k2, k3, -, -⟩ := run_append_own_at (P := Try.prog) w base 22 22 35 i0 _ 1 24 Try.underlying22 hi0 hz0 hz1 hz2 rfl (by omega) v C.length us h.row ⟨g, 0, none⟩ M.length cap us2 (by rw [h2.len]; omega) (h2.row.cells rfl) h2.one_cells (by unfold maxLen; omega) (by omega) hb
    exact ⟨v', w', e, h.joined h2 k2 k3, below_grown k3 (fun k hk => (own_lt h.row hk).1) hb⟩
end Go.Proofs.Ytilhamnibdjfaaa
