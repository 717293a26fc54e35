/-
  What package prop's functions answer of a literal, of a clause, of all clauses.
-/
import Derived.Test.YtilhamnibdjfaaaPrB
namespace Go.Proofs.Ytilhamnibdjfaaa
open Go.RowKit

def RetV (v : Value) (w : World) (e : Ending) (w' : World) : Prop := e = .returned v ∧ Below w.heap.size w w'
/-- a literal's size, as Go reckons it -/
def vr (x : Int) : Int := if x = -9223372036854775808 then x else (x.natAbs : Int)
set_option maxRecDepth 100000 in
set_option maxHeartbeats 2000000 in
theorem variable_any (x : Int) (w : World) (h1 : -9223372036854775808 ≤ x) (h2 : x ≤ 9223372036854775807) : Calls Try.prog 28 #[.int .i64 x] w (RetV (.int .i64 (vr x)) w) := by
  by_cases hm : x = -9223372036854775808
  · subst hm
    have hw : wrap64 9223372036854775808 = -9223372036854775808 := by decide +kernel
    go_enter Try.func28, Try.ntmps28
    go_wp2
    go_ret
    exact ⟨by simp [vr, hw], Below.refl _ _⟩
  · by_cases hx : 0 ≤ x
    · have e : vr x = x := by unfold vr; rw [if_neg hm]; omega
      rw [e]
      have hw : IntKind.i64.wrap (-x) = -x := by rw [IntKind.wrap_i64]; omega
      have hle : -x ≤ x := by omega
      have hlt : ¬ x < -x := by omega
      have hmx : max x (-x) = x := by omega
      clear e
      go_enter Try.func28, Try.ntmps28
      go_wp2
      go_ret
      exact ⟨rfl, Below.refl _ _⟩
    · have e : vr x = -x := by unfold vr; rw [if_neg hm]; omega
      rw [e]
      have hw : IntKind.i64.wrap (-x) = -x := by rw [IntKind.wrap_i64]; omega
      have hle : x ≤ -x := by omega
      have hlt : x < -x := by omega
      have hmx : max x (-x) = -x := by omega
      clear e
      go_enter Try.func28, Try.ntmps28
      go_wp2
      go_ret
      exact ⟨rfl, Below.refl _ _⟩
set_option maxRecDepth 100000 in
set_option maxHeartbeats 2000000 in
theorem what_any (x : Int) (A : List Int) (u : Value) (w : World) (hu : RK .i8 w u A) (hl : A.length ≤ 1000) (h1 : -9223372036854775808 ≤ x) (h2 : x ≤ 9223372036854775807) :
    Calls Try.prog 27 #[.int .i64 x, u] w (RetV (.int .i8 (wh A x)) w) := by
  have V := mkHid (fun w => variable_any x w h1 h2)
  obtain ⟨a, c, rfl, hc, -, hr⟩ := hu
  have HR := mkHid hr
  clear hr
  unfold wh
  by_cases h0 : x.natAbs = 0 ∨ A.length ≤ x.natAbs
  · rw [if_pos h0]
    have hv : vr x ≤ 0 ∨ (A.length : Int) ≤ vr x := by unfold vr; split <;> omega
    clear HR
    generalize vr x = y at *
    generalize A.length = n at *
    by_cases hy : y ≤ 0
    · go_enter Try.func27, Try.ntmps27
      go_wp2_with (go_at_call 28; ((with_reducible refine (V.out _).mono ?_)); rintro e w4 ⟨rfl, hb4⟩)
      go_ret
      exact ⟨rfl, hb4⟩
    · have hy2 : (n : Int) ≤ y := by omega
      clear hv h0
      go_enter Try.func27, Try.ntmps27
      go_wp2_with (go_at_call 28; ((with_reducible refine (V.out _).mono ?_)); rintro e w4 ⟨rfl, hb4⟩)
      go_ret
      exact ⟨rfl, hb4⟩
  · rw [if_neg h0]
    obtain ⟨y, hy⟩ : ∃ y, x.natAbs = y := ⟨_, rfl⟩
    rw [hy] at h0 ⊢
    have hv : vr x = (y : Int) := by unfold vr; rw [if_neg (by omega)]; omega
    rw [hv] at V
    clear hv
    obtain ⟨b, o, rfl, e1⟩ := HR.out y (by omega)
    clear HR
    have hy1 : ¬ (y : Int) ≤ 0 := by omega
    have hy2 : (y : Int) < (A.length : Int) := by omega
    have E1 := mkHid e1
    have hx : x = (y : Int) ∨ x = -(y : Int) := by omega
    clear e1 h0 hy
    generalize A.getD y 0 = v at *
    generalize A.length = n at *
    by_cases hv : v = 0
    · rw [if_pos hv]
      subst hv
      go_enter Try.func27, Try.ntmps27
      go_wp2_with (go_at_call 28; ((with_reducible refine (V.out _).mono ?_)); rintro e w4 ⟨rfl, hb4⟩; have c1 := cell_later hb4 E1.out)
      go_ret
      exact ⟨rfl, hb4⟩
    · rw [if_neg hv]
      by_cases hx0 : 0 < x
      · by_cases hv0 : 0 < v
        · rw [if_pos (by simp [hx0, hv0])]
          have hd : (decide (0 < v) == decide (0 < x)) = true := by simp [hx0, hv0]
          go_enter Try.func27, Try.ntmps27
          go_wp2_with (go_at_call 28; ((with_reducible refine (V.out _).mono ?_)); rintro e w4 ⟨rfl, hb4⟩; have c1 := cell_later hb4 E1.out)
          go_ret
          exact ⟨rfl, hb4⟩
        · rw [if_neg (by simp [hx0, hv0])]
          go_enter Try.func27, Try.ntmps27
          go_wp2_with (go_at_call 28; ((with_reducible refine (V.out _).mono ?_)); rintro e w4 ⟨rfl, hb4⟩; have c1 := cell_later hb4 E1.out)
          go_ret
          exact ⟨rfl, hb4⟩
      · by_cases hv0 : 0 < v
        · rw [if_neg (by simp [hx0, hv0])]
          go_enter Try.func27, Try.ntmps27
          go_wp2_with (go_at_call 28; ((with_reducible refine (V.out _).mono ?_)); rintro e w4 ⟨rfl, hb4⟩; have c1 := cell_later hb4 E1.out)
          go_ret
          exact ⟨rfl, hb4⟩
        · rw [if_pos (by simp [hx0, hv0])]
          have hd : (decide (0 < v) == decide (0 < x)) = true := by simp [hx0, hv0]
          go_enter Try.func27, Try.ntmps27
          go_wp2_with (go_at_call 28; ((with_reducible refine (V.out _).mono ?_)); rintro e w4 ⟨rfl, hb4⟩; have c1 := cell_later hb4 E1.out)
          go_ret
          exact ⟨rfl, hb4⟩
end Go.Proofs.Ytilhamnibdjfaaa
