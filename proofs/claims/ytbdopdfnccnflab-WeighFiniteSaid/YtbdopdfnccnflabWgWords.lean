/-
  What package weigh's functions make of words of float64, as plain functions of the words; facts of these.
-/
import Derived.Test.YtbdopdfnccnflabWgMath
import GoSem.Core.Float
namespace Go.Proofs.Ytbdopdfnccnflab
open Ieee

def nanB (x : Nat) : Bool := decide (9218868437227405312 < rung x)
def tameW (x : Nat) : Nat := if 9218868437227405312 < rung x then 0 else if rung x = 9218868437227405312 then wd (ngv x) 9218868437227405311 else x
/-- where a word stands in the order -/
def plc (x : Nat) : Nat := if 9218868437227405312 < rung x then 0 else if ngv x then 9223372036854775808 - rung x else 9223372036854775809 + rung x
def lessW (x y : Nat) : Bool := decide (plc x < plc y)
def bumpW (x y : Nat) : Nat := tameW ((double.add (tameW x) (tameW y)).getD 0)
def decayW (x : Nat) : Nat := tameW ((double.div (tameW x) 4606732058837280358).getD 0)
def scaleW (x : Nat) : Nat := (double.mul x 3110860544497550640).getD 0
def farB (x : Nat) : Bool := decide (6103021453049119613 < rung x)

theorem rung_lt (x : Nat) : rung x < 9223372036854775808 := Nat.mod_lt _ (by omega)
theorem rung_wd (s : Bool) (r : Nat) (h : r < 9223372036854775808) : rung (wd s r) = r := by
  unfold rung wd; cases s <;> simp <;> omega
theorem ngv_wd (s : Bool) (r : Nat) (h : r < 9223372036854775808) : ngv (wd s r) = s := by
  unfold ngv wd; cases s <;> simp <;> omega
theorem wd_lt (s : Bool) (r : Nat) (h : r < 9223372036854775808) : wd s r < 18446744073709551616 := by
  unfold wd; cases s <;> simp <;> omega
theorem wd_eta (x : Nat) (h : x < 18446744073709551616) : wd (ngv x) (rung x) = x := by
  unfold wd ngv rung
  by_cases g : 9223372036854775808 ≤ x
  · have : x / 9223372036854775808 % 2 = 1 := by omega
    simp [this]; omega
  · have : x / 9223372036854775808 % 2 = 0 := by omega
    simp [this]; omega
theorem key_wd (s : Bool) (r : Nat) (h : r < 9223372036854775808) : key (wd s r) = sv s r := by
  unfold key; rw [rung_wd s r h, ngv_wd s r h]

theorem oLt {x y : Nat} (hx : rung x ≤ 9218868437227405312) (hy : rung y ≤ 9218868437227405312) : (FloatKind.f64.format.order x y == some .lt) = decide (key x < key y) := by
  show (double.order x y == _) = _; rw [order_num x y hx hy, cmp_lt]
theorem oEq {x y : Nat} (hx : rung x ≤ 9218868437227405312) (hy : rung y ≤ 9218868437227405312) : (FloatKind.f64.format.order x y == some .eq) = decide (key x = key y) := by
  show (double.order x y == _) = _; rw [order_num x y hx hy, cmp_eq]
theorem oGt {x y : Nat} (hx : rung x ≤ 9218868437227405312) (hy : rung y ≤ 9218868437227405312) : (FloatKind.f64.format.order x y == some .gt) = decide (key y < key x) := by
  show (double.order x y == _) = _; rw [order_num x y hx hy, cmp_gt]
theorem oNanL {x : Nat} (y : Nat) (hx : 9218868437227405312 < rung x) : FloatKind.f64.format.order x y = none := order_nan_l x y hx
theorem oNanR (x : Nat) {y : Nat} (hy : 9218868437227405312 < rung y) : FloatKind.f64.format.order x y = none := order_nan_r x y hy
theorem oSelf (x : Nat) : (FloatKind.f64.format.order x x == some .eq) = !nanB x := by
  unfold nanB
  by_cases h : 9218868437227405312 < rung x
  · rw [oNanL x h, decide_eq_true h]; rfl
  · rw [oEq (by omega) (by omega), decide_eq_false h]; simp
theorem oSelfN (x : Nat) : (FloatKind.f64.format.order x x != some .eq) = nanB x := by
  unfold bne; rw [oSelf]; simp

/- Tame -/
theorem tame_rung (x : Nat) : rung (tameW x) < 9218868437227405312 := by
  unfold tameW
  split
  · decide
  · split
    · rw [rung_wd _ _ (by omega)]; omega
    · omega
theorem tame_lt (x : Nat) (h : x < 18446744073709551616) : tameW x < 18446744073709551616 := by
  unfold tameW
  split
  · omega
  · split
    · exact wd_lt _ _ (by omega)
    · exact h
theorem tame_fin (x : Nat) (h : rung x < 9218868437227405312) : tameW x = x := by
  unfold tameW; rw [if_neg (by omega), if_neg (by omega)]
theorem tame_tame (x : Nat) : tameW (tameW x) = tameW x := tame_fin _ (tame_rung x)
theorem tame_nan {x : Nat} (h : 9218868437227405312 < rung x) : tameW x = 0 := by unfold tameW; rw [if_pos h]
theorem tame_inf {x : Nat} (h : rung x = 9218868437227405312) : tameW x = wd (ngv x) 9218868437227405311 := by unfold tameW; rw [if_neg (by omega), if_pos h]
/-- Tame of a word that is a number keeps the sign, and what is not infinite. -/
theorem tame_ngv {x : Nat} (h : rung x ≤ 9218868437227405312) : ngv (tameW x) = ngv x := by
  unfold tameW
  rw [if_neg (by omega)]
  split
  · exact ngv_wd _ _ (by omega)
  · rfl

/- Bump, Decay, Rescale: always numbers -/
theorem add_some (x y : Nat) (hx : rung x < 9218868437227405312) (hy : rung y < 9218868437227405312) : ∃ r, double.add x y = some r ∧ r < 18446744073709551616 ∧ rung r ≤ 9218868437227405312 := by
  refine ⟨_, add_fin x y hx hy, ?_, ?_⟩
  · have := R_le (Z x + Z y).natAbs (-1074); exact wd_lt _ _ (by omega)
  · have := R_le (Z x + Z y).natAbs (-1074); rw [rung_wd _ _ (by omega)]; exact this
theorem div_some (x : Nat) (hx : rung x < 9218868437227405312) : ∃ r, double.div x 4606732058837280358 = some r ∧ r < 18446744073709551616 ∧ rung r ≤ 9218868437227405312 ∧ ngv r = ngv x ∧ rung x ≤ rung r := by
  obtain ⟨r, e, h1, h2⟩ := div_fin x hx
  exact ⟨_, e, wd_lt _ _ (by omega), by rw [rung_wd _ _ (by omega)]; exact h2, ngv_wd _ _ (by omega), by rw [rung_wd _ _ (by omega)]; exact h1⟩
theorem V_scale : V (rung 3110860544497550640) ≤ 2 ^ 742 := by decide +kernel
theorem V_scale_pos : 2 ^ 741 ≤ V (rung 3110860544497550640) := by decide +kernel
theorem mul_some (x : Nat) (hx : rung x < 9218868437227405312) : double.mul x 3110860544497550640 = some (scaleW x) ∧ scaleW x = wd (ngv x) (R (V (rung x) * V (rung 3110860544497550640)) (-2148)) := by
  have h := mul_fin x 3110860544497550640 hx (by decide)
  have e : ngv 3110860544497550640 = false := by decide
  rw [e, Bool.xor_false] at h
  unfold scaleW
  rw [h]; exact ⟨rfl, rfl⟩
theorem scale_rung (x : Nat) (hx : rung x < 9218868437227405312) : rung (scaleW x) = R (V (rung x) * V (rung 3110860544497550640)) (-2148) := by
  have := R_le (V (rung x) * V (rung 3110860544497550640)) (-2148)
  rw [(mul_some x hx).2, rung_wd _ _ (by omega)]
theorem scale_ngv (x : Nat) (hx : rung x < 9218868437227405312) : ngv (scaleW x) = ngv x := by
  have := R_le (V (rung x) * V (rung 3110860544497550640)) (-2148)
  rw [(mul_some x hx).2, ngv_wd _ _ (by omega)]
theorem scale_lt (x : Nat) (hx : rung x < 9218868437227405312) : scaleW x < 18446744073709551616 := by
  have := R_le (V (rung x) * V (rung 3110860544497550640)) (-2148)
  rw [(mul_some x hx).2]; exact wd_lt _ _ (by omega)
theorem scale_mono {x y : Nat} (hx : rung x < 9218868437227405312) (hy : rung y < 9218868437227405312) (h : rung x ≤ rung y) : rung (scaleW x) ≤ rung (scaleW y) := by
  rw [scale_rung x hx, scale_rung y hy]
  refine R_mono _ (Nat.mul_le_mul_right _ ?_)
  rcases Nat.lt_or_eq_of_le h with h | h
  · exact Nat.le_of_lt (V_lt h)
  · rw [h]; exact Nat.le_refl _
/-- The greatest one rescaled is below 1e210. -/
theorem scale_top : rung (scaleW 9218868437227405311) ≤ 7747900000000000000 := by decide +kernel
theorem scale_bound (x : Nat) (hx : rung x < 9218868437227405312) : rung (scaleW x) ≤ 7747900000000000000 :=
  Nat.le_trans (scale_mono hx (by decide) (by have : rung 9218868437227405311 = 9218868437227405311 := by decide
                                              omega)) scale_top

theorem bump_lt (x y : Nat) : bumpW x y < 18446744073709551616 := by
  obtain ⟨r, e, h, -⟩ := add_some (tameW x) (tameW y) (tame_rung x) (tame_rung y)
  unfold bumpW; rw [e]; exact tame_lt r h
theorem decay_lt (x : Nat) : decayW x < 18446744073709551616 := by
  obtain ⟨r, e, h, -⟩ := div_some (tameW x) (tame_rung x)
  unfold decayW; rw [e]; exact tame_lt r h
theorem bump_rung (x y : Nat) : rung (bumpW x y) < 9218868437227405312 := tame_rung _
theorem decay_rung (x : Nat) : rung (decayW x) < 9218868437227405312 := tame_rung _
theorem tame_rung_ge (x r : Nat) (hx : rung x ≤ 9218868437227405312) (h : r ≤ rung x) (hr : r < 9218868437227405312) : r ≤ rung (tameW x) := by
  unfold tameW
  rw [if_neg (by omega)]
  split
  · rw [rung_wd _ _ (by omega)]; omega
  · exact h
theorem decay_grows (x : Nat) : ngv (decayW x) = ngv (tameW x) ∧ rung (tameW x) ≤ rung (decayW x) := by
  obtain ⟨r, e, h, h2, h3, h4⟩ := div_some (tameW x) (tame_rung x)
  unfold decayW; rw [e]
  show ngv (tameW r) = _ ∧ _ ≤ rung (tameW r)
  exact ⟨by rw [tame_ngv h2, h3], tame_rung_ge r _ h2 h4 (tame_rung x)⟩

/- the order by places -/
theorem plc_lt_iff {x y : Nat} (hx : rung x ≤ 9218868437227405312) (hy : rung y ≤ 9218868437227405312) : plc x < plc y ↔ key x < key y ∨ (key x = key y ∧ ngv x = true ∧ ngv y = false) := by
  have := rung_lt x; have := rung_lt y
  unfold plc key sv
  rw [if_neg (show ¬ 9218868437227405312 < rung x by omega), if_neg (show ¬ 9218868437227405312 < rung y by omega)]
  cases ngv x <;> cases ngv y <;> simp <;> omega
theorem plc_nan {x : Nat} (hx : 9218868437227405312 < rung x) : plc x = 0 := by unfold plc; rw [if_pos hx]
theorem plc_pos {x : Nat} (hx : rung x ≤ 9218868437227405312) : 0 < plc x := by
  unfold plc; rw [if_neg (by omega)]; split <;> omega
end Go.Proofs.Ytbdopdfnccnflab
