/-
  What the document's sums, products, quotients and order of fractions are: plain mathematics.
-/
import Derived.Test.YtkgaoafcjhjefaaRefN
namespace Go.Proofs.Ytkgaoafcjhjefaa
open Go.RowKit Go.Shelf

theorem sum_make (a b : Rat) : makeO (a.num * (b.den : Int) + b.num * (a.den : Int)) ((a.den : Int) * (b.den : Int)) = plusO (some a) (some b) := by
  have h1 := Rat.divInt_add_divInt a.num b.num (d₁ := a.den) (d₂ := b.den) (by have := a.den_nz; omega) (by have := b.den_nz; omega)
  rw [Rat.num_divInt_den, Rat.num_divInt_den] at h1
  unfold makeO
  rw [if_neg (Int.mul_ne_zero (by have := a.den_nz; omega) (by have := b.den_nz; omega)), ← h1]; rfl
theorem less_make (a b : Rat) : makeO (a.num * (b.den : Int) + -(b.num * (a.den : Int))) ((a.den : Int) * (b.den : Int)) = minusO (some a) (some b) := by
  have h1 := Rat.divInt_sub_divInt a.num b.num (d₁ := a.den) (d₂ := b.den) (by have := a.den_nz; omega) (by have := b.den_nz; omega)
  rw [Rat.num_divInt_den, Rat.num_divInt_den] at h1
  unfold makeO
  rw [if_neg (Int.mul_ne_zero (by have := a.den_nz; omega) (by have := b.den_nz; omega)), show a.num * (b.den : Int) + -(b.num * (a.den : Int)) = a.num * (b.den : Int) - b.num * (a.den : Int) by omega, ← h1]; rfl
theorem product_make (a b : Rat) : makeO (a.num * b.num) ((a.den : Int) * (b.den : Int)) = timesO (some a) (some b) := by
  have h1 := Rat.divInt_mul_divInt a.num b.num (d₁ := a.den) (d₂ := b.den)
  rw [Rat.num_divInt_den, Rat.num_divInt_den] at h1
  unfold makeO
  rw [if_neg (Int.mul_ne_zero (by have := a.den_nz; omega) (by have := b.den_nz; omega)), ← h1]; rfl
theorem quotient_make (a b : Rat) : makeO (a.num * (b.den : Int)) ((a.den : Int) * b.num) = overO (some a) (some b) := by
  unfold makeO
  by_cases hb : b = 0
  · have h0 : b.num = 0 := by rw [hb]; rfl
    have e : overO (some a) (some b) = none := by simp [overO, hb]
    rw [e, if_pos (by rw [h0]; simp)]
  · have hn : b.num ≠ 0 := fun h => hb (Rat.num_eq_zero.1 h)
    have h1 := Rat.divInt_mul_divInt a.num b.den (d₁ := a.den) (d₂ := b.num)
    rw [Rat.num_divInt_den] at h1
    have h2 : Rat.divInt (b.den : Int) b.num = b⁻¹ := by rw [← Rat.inv_divInt, Rat.num_divInt_den]
    rw [h2] at h1
    have e : overO (some a) (some b) = told (a / b) := by simp [overO, hb]
    rw [e, if_neg (Int.mul_ne_zero (by have := a.den_nz; omega) hn), Rat.div_def, h1]
theorem small_mul2 {a b : Int} (ha : fitB a = true) (hb : fitB b = true) : (a * b).natAbs ≤ 2 ^ 128 := by
  have h1 := (fitB_iff a).1 ha
  have h2 := (fitB_iff b).1 hb
  rw [Int.natAbs_mul]
  have := Nat.mul_le_mul (show a.natAbs ≤ 2 ^ 64 by omega) (show b.natAbs ≤ 2 ^ 64 by omega)
  have e2 : (2 : Nat) ^ 64 * 2 ^ 64 ≤ 2 ^ 128 := by decide
  omega
theorem small_mm {a b : Int} (ha : fitB a = true) (hb : fitB b = true) : Small (a * b) := by
  have h := small_mul2 ha hb
  have : (2 : Nat) ^ 128 ≤ 2 ^ 130 := by decide
  exact small_of (by omega)
theorem small_neg {z : Int} (h : Small z) : Small (-z) := by unfold Small at h ⊢; omega
theorem small_sum {a b c d : Int} (ha : fitB a = true) (hb : fitB b = true) (hc : fitB c = true) (hd : fitB d = true) : Small (a * b + c * d) ∧ Small (a * b + -(c * d)) := by
  have h1 := small_mul2 ha hb
  have h2 := small_mul2 hc hd
  have e : (2 : Nat) ^ 128 + 2 ^ 128 ≤ 2 ^ 130 := by decide
  exact ⟨small_of (by omega), small_of (by omega)⟩
end Go.Proofs.Ytkgaoafcjhjefaa
