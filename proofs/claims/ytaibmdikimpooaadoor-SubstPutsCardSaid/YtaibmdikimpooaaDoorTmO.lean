/-
  What 'CompactFunc' does with a row of names.
-/
import Derived.Test.YtaibmdikimpooaaDoorTmN
import Derived.Lib.SliceRun
namespace Go.Proofs.YtaibmdikimpooaaDoor
open Go.RowKit

abbrev Nm := ByteArray × Int
def noNm : Nm := (⟨#[]⟩, 0)
/-- the first j of a row, without what is as the one ahead of it -/
def ddN (l : List Nm) : Nat → List Nm
  | 0 => []
  | j + 1 => if 0 < j ∧ l.getD j noNm = l.getD (j - 1) noNm then ddN l j else ddN l j ++ [l.getD j noNm]
theorem ddN_len (l : List Nm) (j : Nat) : (ddN l j).length ≤ j := by
  induction j with
  | zero => simp [ddN]
  | succ j ih =>
    unfold ddN
    split
    · omega
    · simp; omega
theorem ddN_less (l : List Nm) {k : Nat} (hk : 0 < k) (h : l.getD k noNm = l.getD (k - 1) noNm) : ∀ j, k < j → (ddN l j).length < j := by
  intro j hj
  induction j with
  | zero => omega
  | succ j ih =>
    unfold ddN
    by_cases e : k = j
    · subst e
      rw [if_pos ⟨hk, h⟩]
      have := ddN_len l k
      omega
    · have := ih (by omega)
      split
      · omega
      · simp; omega
theorem ddN_take (l : List Nm) (k : Nat) (hk : k < l.length) (h : ddN l k = l.take k) (hne : ¬ (0 < k ∧ l.getD k noNm = l.getD (k - 1) noNm)) : ddN l (k + 1) = l.take (k + 1) := by
  unfold ddN
  rw [if_neg hne, h, List.take_succ_eq_append_getElem hk]
  simp [List.getD, List.getElem?_eq_getElem hk]
theorem own_later {w w' : World} {base e s n : Nat} {v : Value} {xs : List Value} (h : w.ownsRow base e s v n xs) (hb : Below w.heap.size w w') : w'.ownsRow base e s v n xs := by
  refine ⟨h.1, ?_⟩
  rcases h.2 with h0 | ⟨g, cap, cur, hv, hbg, hg, hr⟩
  · exact .inl h0
  · refine .inr ⟨g, cap, cur, hv, hbg, ?_, hr⟩
    have hlt : g < w.heap.size := by
      rcases Nat.lt_or_ge g w.heap.size with h1 | h1
      · exact h1
      · rw [Array.getElem?_eq_none h1] at hg; cases hg
    rw [hb.block g hlt]; exact hg
theorem asgs_get (m : List Nm) (k i : Nat) (hk : k < m.length) (hi : i < 5) : (asgs m)[k * 5 + i]? = (asg (m.getD k noNm))[i]? := by
  induction m generalizing k with
  | nil => simp at hk
  | cons x m ih =>
    have e : asgs (x :: m) = asg x ++ asgs m := rfl
    rw [e]
    cases k with
    | zero => simp only [Nat.zero_mul, Nat.zero_add]; rw [List.getElem?_append_left (by simp [asg]; omega)]; rfl
    | succ k =>
      rw [List.getElem?_append_right (by simp [asg]; omega)]
      have : (k + 1) * 5 + i - (asg x).length = k * 5 + i := by simp [asg]; omega
      rw [this, ih k (by simpa using hk)]
      rfl
/-- the five cells of a name in a row -/
def Five (w : World) (g o : Nat) (x : Nm) : Prop := w.cell? ⟨g, o, none⟩ = some (.string x.1) ∧ w.cell? ⟨g, o + 1, none⟩ = some (.int .i64 x.2) ∧ w.cell? ⟨g, o + 2, none⟩ = some (.string x.1) ∧ w.cell? ⟨g, o + 3, none⟩ = some (.int .i64 0) ∧ w.cell? ⟨g, o + 4, none⟩ = some (.slice none 0 0)
theorem own_five {w : World} {base g n cap : Nat} {m : List Nm} (h : w.ownsRow base 38 5 (.slice (some ⟨g, 0, none⟩) n cap) n (asgs m)) (hm : m.length = n) (k : Nat) (hk : k < n) : Five w g (k * 5) (m.getD k noNm) := by
  have c : ∀ i, i < 5 → w.cell? ⟨g, k * 5 + i, none⟩ = (asg (m.getD k noNm))[i]? := fun i hi => by
    rw [h.cellAt (k * 5 + i) (by omega), asgs_get m k i (by omega) hi]
  exact ⟨c 0 (by omega), c 1 (by omega), c 2 (by omega), c 3 (by omega), c 4 (by omega)⟩
theorem asgs_set (m : List Nm) (k : Nat) (y : Nm) (hk : k < m.length) : asgs (m.set k y) = ((((((asgs m).set (k * 5) (.string y.1)).set (k * 5 + 1) (.int .i64 y.2)).set (k * 5 + 2) (.string y.1)).set (k * 5 + 3) (.int .i64 0)).set (k * 5 + 4) (.slice none 0 0)) := by
  induction m generalizing k with
  | nil => simp at hk
  | cons x m ih =>
    have e : asgs (x :: m) = asg x ++ asgs m := rfl
    cases k with
    | zero => simp [asgs, asg]
    | succ k =>
      have hl : (asg x).length = 5 := rfl
      rw [List.set_cons_succ]
      have e2 : asgs (x :: m.set k y) = asg x ++ asgs (m.set k y) := rfl
      rw [e2, ih k (by simpa using hk), e]
      have r : ∀ (a b : List Value) (i : Nat) (v : Value), a.length = 5 → (a ++ b).set ((k + 1) * 5 + i) v = a ++ b.set (k * 5 + i) v := by
        intro a b i v ha
        rw [List.set_append_right _ _ (by omega)]
        congr 2
        omega
      have r0 : ∀ (a b : List Value) (v : Value), a.length = 5 → (a ++ b).set ((k + 1) * 5) v = a ++ b.set (k * 5) v := fun a b v ha => r a b 0 v ha
      rw [r0 _ _ _ hl, r _ _ 1 _ hl, r _ _ 2 _ hl, r _ _ 3 _ hl, r _ _ 4 _ hl]
theorem own_store {w : World} {base g n cap : Nat} {m : List Nm} (h : w.ownsRow base 38 5 (.slice (some ⟨g, 0, none⟩) n cap) n (asgs m)) (hm : m.length = n) (k : Nat) (hk : k < n) (y : Nm) :
    (((((w.setCell ⟨g, k * 5, none⟩ (.string y.1)).setCell ⟨g, k * 5 + 1, none⟩ (.int .i64 y.2)).setCell ⟨g, k * 5 + 2, none⟩ (.string y.1)).setCell ⟨g, k * 5 + 3, none⟩ (.int .i64 0)).setCell ⟨g, k * 5 + 4, none⟩ (.slice none 0 0)).ownsRow base 38 5 (.slice (some ⟨g, 0, none⟩) n cap) n (asgs (m.set k y)) := by
  rw [asgs_set m k y (by omega)]
  exact (((((h.stored _ _).1.stored _ _).1.stored _ _).1.stored _ _).1.stored _ _).1
end Go.Proofs.YtaibmdikimpooaaDoor
