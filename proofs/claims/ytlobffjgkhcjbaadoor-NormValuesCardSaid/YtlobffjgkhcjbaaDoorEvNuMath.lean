/-
  Plain mathematics of whole numbers of 64 bits and of fractions: nothing of the program in it.
-/
namespace Go.Proofs.YtlobffjgkhcjbaaDoor.Nu

/-- an int64 -/
def fitB (n : Int) : Bool := decide (-9223372036854775808 ≤ n) && decide (n ≤ 9223372036854775807)
theorem fitB_iff (n : Int) : fitB n = true ↔ -9223372036854775808 ≤ n ∧ n ≤ 9223372036854775807 := by
  simp [fitB]
theorem fitB_not (n : Int) : fitB n = false ↔ n < -9223372036854775808 ∨ 9223372036854775807 < n := by
  rw [← Bool.not_eq_true, fitB_iff]; omega
/-- what is told of a number: itself, or 0 -/
def tel (n : Int) : Int := if fitB n then n else 0
theorem tel_fit {n : Int} (h : fitB n = true) : tel n = n := by simp [tel, h]
theorem tel_not {n : Int} (h : fitB n = false) : tel n = 0 := by simp [tel, h]

/-- how far a number is from 0 -/
def szI (a : Int) : Int := (a.natAbs : Int)
theorem szI_nonneg (a : Int) : 0 ≤ szI a := by unfold szI; omega
theorem szI_neg {a : Int} (h : a < 0) : szI a = -a := by unfold szI; omega
theorem szI_pos {a : Int} (h : 0 ≤ a) : szI a = a := by unfold szI; omega
/-- the number that is so far from 0, below it or not -/
def sgnI (b : Bool) (x : Int) : Int := if b then -x else x
/-- the greatest common divisor -/
def gcdI (a b : Int) : Int := (Nat.gcd a.natAbs b.natAbs : Nat)
theorem gcdI_nonneg (a b : Int) : 0 ≤ gcdI a b := by unfold gcdI; omega
theorem gcdI_step (a b : Int) (ha : 0 ≤ a) (hb : 0 < b) : gcdI b (a % b) = gcdI a b := by
  unfold gcdI
  have e : (a % b).natAbs = a.natAbs % b.natAbs := by
    obtain ⟨x, rfl⟩ := Int.eq_ofNat_of_zero_le ha
    obtain ⟨y, rfl⟩ := Int.eq_ofNat_of_zero_le (Int.le_of_lt hb)
    show ((x : Int) % (y : Int)).natAbs = x % y
    rw [← Int.natCast_emod]; exact Int.natAbs_natCast _
  rw [e, Nat.gcd_comm, ← Nat.gcd_rec, Nat.gcd_comm]
theorem gcdI_zero (a : Int) (ha : 0 ≤ a) : gcdI a 0 = a := by
  unfold gcdI; simp; omega
theorem gcdI_szI (a b : Int) : gcdI (szI a) (szI b) = gcdI a b := by unfold gcdI szI; simp

/-- the two words of a number of 128 bits -/
def hiW (W : Int) : Int := (W / 18446744073709551616) % 18446744073709551616
def loW (W : Int) : Int := W % 18446744073709551616
theorem hiW_nonneg (W : Int) : 0 ≤ hiW W := by unfold hiW; omega
theorem hiW_lt (W : Int) : hiW W < 18446744073709551616 := by unfold hiW; omega
theorem loW_nonneg (W : Int) : 0 ≤ loW W := by unfold loW; omega
theorem loW_lt (W : Int) : loW W < 18446744073709551616 := by unfold loW; omega
/-- the borrow -/
def bor (x y : Int) : Int := if x < y then 1 else 0
theorem bor_nonneg (x y : Int) : 0 ≤ bor x y := by unfold bor; split <;> omega
theorem bor_le (x y : Int) : bor x y ≤ 1 := by unfold bor; split <;> omega
theorem lo_add (W V : Int) : (loW W + loW V) % 18446744073709551616 = loW (W + V) := by unfold loW; omega
theorem hi_add (W V : Int) : (hiW W + hiW V + (loW W + loW V) / 18446744073709551616) % 18446744073709551616 = hiW (W + V) := by
  unfold hiW loW; omega
theorem lo_sub (W V : Int) : (loW W - loW V) % 18446744073709551616 = loW (W - V) := by unfold loW; omega
theorem hi_sub (W V : Int) : (hiW W - hiW V - bor (loW W) (loW V)) % 18446744073709551616 = hiW (W - V) := by
  unfold bor hiW loW; split <;> omega
/-- is a number of 128 bits below 0? -/
def negB (W : Int) : Bool := decide (W < 0)
/-- the range of numbers of 128 bits, without the least -/
def Wide (W : Int) : Prop := -170141183460469231731687303715884105728 < W ∧ W < 170141183460469231731687303715884105728
theorem neg_hi (W : Int) (h : Wide W) : (hiW W / 9223372036854775808 == 1) = negB W := by
  unfold Wide at h; unfold negB
  rw [Bool.eq_iff_iff, beq_iff_eq, decide_eq_true_iff]
  unfold hiW; omega
theorem wide_mul {a b : Int} (ha : fitB a = true) (hb : fitB b = true) : -85070591730234615856620279821087277056 ≤ a * b ∧ a * b ≤ 85070591730234615865843651857942052864 := by
  rw [fitB_iff] at ha hb
  have h1 : 0 ≤ (a + 9223372036854775808) * (b + 9223372036854775808) := Int.mul_nonneg (by omega) (by omega)
  have h2 : 0 ≤ (9223372036854775807 - a) * (9223372036854775807 - b) := Int.mul_nonneg (by omega) (by omega)
  have h3 : 0 ≤ (a + 9223372036854775808) * (9223372036854775807 - b) := Int.mul_nonneg (by omega) (by omega)
  have h4 : 0 ≤ (9223372036854775807 - a) * (b + 9223372036854775808) := Int.mul_nonneg (by omega) (by omega)
  rw [Int.add_mul, Int.mul_add, Int.mul_add] at h1
  rw [Int.sub_mul, Int.mul_sub, Int.mul_sub] at h2
  rw [Int.add_mul, Int.mul_sub, Int.mul_sub] at h3
  rw [Int.sub_mul, Int.mul_add, Int.mul_add] at h4
  generalize a * b = c at *
  omega
theorem wide_mul_pos {a y : Int} (ha : fitB a = true) (hy : fitB y = true) (hy0 : 0 ≤ y) : -85070591730234615856620279821087277056 ≤ a * y ∧ a * y ≤ 85070591730234615856620279821087277056 := by
  rw [fitB_iff] at ha hy
  have h1 : 0 ≤ (a + 9223372036854775808) * y := Int.mul_nonneg (by omega) hy0
  have h2 : 0 ≤ (9223372036854775807 - a) * y := Int.mul_nonneg (by omega) hy0
  rw [Int.add_mul] at h1
  rw [Int.sub_mul] at h2
  generalize a * y = c at *
  omega
theorem wide_small {W : Int} (h : -85070591730234615856620279821087277056 ≤ W ∧ W ≤ 85070591730234615865843651857942052864) : Wide W := by unfold Wide; omega
/-- the product of two sizes, turned or not -/
theorem sz_mul (a b : Int) : szI a * szI b = szI (a * b) := by unfold szI; rw [Int.natAbs_mul]; exact (Int.natCast_mul _ _).symm
theorem sz_lt {a : Int} (h1 : -9223372036854775808 ≤ a) (h2 : a ≤ 9223372036854775807) : szI a < 18446744073709551616 := by unfold szI; omega
theorem sz_small {W : Int} (h : -85070591730234615856620279821087277056 ≤ W ∧ W ≤ 85070591730234615865843651857942052864) : szI W < 170141183460469231731687303715884105728 := by unfold szI; omega
theorem hi_nat (W : Int) (h0 : 0 ≤ W) (h : W < 340282366920938463463374607431768211456) : hiW W = W / 18446744073709551616 := by unfold hiW; omega
theorem hiW_zero : hiW 0 = 0 := by decide
theorem loW_zero : loW 0 = 0 := by decide
theorem mul_signs {a b : Int} (h : (decide (a < 0) != decide (b < 0)) = true) : a * b = -szI (a * b) := by
  have h2 : a * b ≤ 0 := by
    by_cases ha : a < 0 <;> by_cases hb : b < 0 <;> simp [ha, hb] at h
    · exact Int.mul_nonpos_of_nonpos_of_nonneg (by omega) (by omega)
    · exact Int.mul_nonpos_of_nonneg_of_nonpos (by omega) (by omega)
  unfold szI; omega
theorem mul_signs' {a b : Int} (h : (decide (a < 0) != decide (b < 0)) = false) : a * b = szI (a * b) := by
  have h2 : 0 ≤ a * b := by
    by_cases ha : a < 0 <;> by_cases hb : b < 0 <;> simp [ha, hb] at h
    · exact Int.mul_nonneg_of_nonpos_of_nonpos (by omega) (by omega)
    · exact Int.mul_nonneg (by omega) (by omega)
  unfold szI; omega
theorem sgn_sz (W : Int) : sgnI (negB W) (szI W) = W := by
  unfold sgnI negB szI
  by_cases h : W < 0 <;> simp [h] <;> omega
/-! ### long division by two digits of 32 bits -/
/-- the digit that is looked for -/
theorem mulY (q y1 y0 : Int) : q * (y1 * 4294967296 + y0) = 4294967296 * (q * y1) + q * y0 := by grind
theorem first_le (u v y1 y0 : Int) (h1 : 2147483648 ≤ y1) (h0 : 0 ≤ y0) (hu : 0 ≤ u) (hv0 : 0 ≤ v) (hv : v < 4294967296) :
    (u * 4294967296 + v) / (y1 * 4294967296 + y0) ≤ u / y1 := by
  have hy : 0 < y1 := by omega
  have hY : 0 < y1 * 4294967296 + y0 := by omega
  have hm := Int.ediv_mul_le (u * 4294967296 + v) (b := y1 * 4294967296 + y0) (by omega)
  have hq0 : 0 ≤ (u * 4294967296 + v) / (y1 * 4294967296 + y0) := Int.ediv_nonneg (by omega) (by omega)
  generalize (u * 4294967296 + v) / (y1 * 4294967296 + y0) = Q at *
  rw [mulY] at hm
  have hp : 0 ≤ Q * y0 := Int.mul_nonneg hq0 h0
  rw [Int.le_ediv_iff_mul_le hy]
  omega
theorem first_rest (u y1 : Int) (h1 : 2147483648 ≤ y1) : 0 ≤ u - u / y1 * y1 ∧ u - u / y1 * y1 < y1 := by
  have h := Int.emod_nonneg u (b := y1) (by omega)
  have h' := Int.emod_lt_of_pos u (b := y1) (by omega)
  have e := Int.emod_add_mul_ediv u y1
  rw [Int.mul_comm] at e
  omega
theorem first_bound (u y1 : Int) (h1 : 2147483648 ≤ y1) (hu : 0 ≤ u) (hu2 : u < 18446744073709551616) : 0 ≤ u / y1 ∧ u / y1 ≤ 8589934592 := by
  refine ⟨Int.ediv_nonneg hu (by omega), ?_⟩
  have h := Int.ediv_mul_le u (b := y1) (by omega)
  have hq0 : 0 ≤ u / y1 := Int.ediv_nonneg hu (by omega)
  generalize u / y1 = q at *
  rcases Int.lt_or_le 8589934592 q with hc | hc
  · have := Int.mul_le_mul (show (8589934593 : Int) ≤ q by omega) h1 (by omega) hq0
    omega
  · exact hc
/-- the test says: too large -/
theorem too_large (u v y1 y0 q r : Int) (h1 : 2147483648 ≤ y1) (h0 : 0 ≤ y0) (hr : r = u - q * y1)
    (ht : 4294967296 * r + v < q * y0) : (u * 4294967296 + v) / (y1 * 4294967296 + y0) ≤ q - 1 := by
  have hY : 0 < y1 * 4294967296 + y0 := by omega
  have h : (u * 4294967296 + v) / (y1 * 4294967296 + y0) < q := by
    rw [Int.ediv_lt_iff_lt_mul hY, mulY]; omega
  omega
theorem too_large2 (u v y1 y0 q : Int) (hY : 0 < y1 * 4294967296 + y0) (hu : u < y1 * 4294967296 + y0) (hv : v < 4294967296)
    (ht : 4294967296 ≤ q) : (u * 4294967296 + v) / (y1 * 4294967296 + y0) ≤ q - 1 := by
  have h : (u * 4294967296 + v) / (y1 * 4294967296 + y0) < 4294967296 := by
    rw [Int.ediv_lt_iff_lt_mul hY]; omega
  omega
/-- the test says: not too large -/
theorem just (u v y1 y0 q r : Int) (hY : 0 < y1 * 4294967296 + y0) (hr : r = u - q * y1) (hq : (u * 4294967296 + v) / (y1 * 4294967296 + y0) ≤ q)
    (ht : ¬ 4294967296 * r + v < q * y0) : q = (u * 4294967296 + v) / (y1 * 4294967296 + y0) := by
  have h : q ≤ (u * 4294967296 + v) / (y1 * 4294967296 + y0) := by
    rw [Int.le_ediv_iff_mul_le hY, mulY]; omega
  omega
/-- the rest is so large that no more is too large -/
theorem just2 (u v y1 y0 q r : Int) (h1 : 2147483648 ≤ y1) (hY : u < y1 * 4294967296 + y0) (h0 : 0 ≤ y0) (h0' : y0 < 4294967296) (hv : 0 ≤ v) (hr : r = u - q * y1) (hq0 : 0 ≤ q)
    (hq : (u * 4294967296 + v) / (y1 * 4294967296 + y0) ≤ q) (ht : 4294967296 ≤ r) : q = (u * 4294967296 + v) / (y1 * 4294967296 + y0) := by
  have hlt : q < 4294967296 := by
    rcases Int.lt_or_le q 4294967296 with h | h
    · exact h
    · have := Int.mul_le_mul_of_nonneg_right h (show 0 ≤ y1 by omega)
      omega
  have hm : q * y0 ≤ 4294967296 * 4294967296 := by
    have := Int.mul_le_mul (show q ≤ 4294967296 by omega) (show y0 ≤ 4294967296 by omega) h0 (by omega)
    exact this
  refine just u v y1 y0 q r (by omega) hr hq (by omega)
theorem small_mul (q y0 : Int) (hq0 : 0 ≤ q) (hq : q < 4294967296) (h0 : 0 ≤ y0) (h0' : y0 < 4294967296) : 0 ≤ q * y0 ∧ q * y0 < 18446744073709551616 := by
  refine ⟨Int.mul_nonneg hq0 h0, ?_⟩
  have := Int.mul_le_mul (show q ≤ 4294967295 by omega) (show y0 ≤ 4294967295 by omega) h0 (by omega)
  omega
theorem rest_mod (N Y : Int) (hY : 0 < Y) (hY2 : Y ≤ 18446744073709551616) : (N - N / Y * Y) % 18446744073709551616 = N % Y := by
  have h := Int.emod_nonneg N (b := Y) (by omega)
  have h' := Int.emod_lt_of_pos N (b := Y) hY
  have e := Int.emod_add_mul_ediv N Y
  rw [Int.mul_comm] at e
  omega
/-- both digits together -/
theorem two_digits (u v1 v0 Y : Int) (hY : 0 < Y) :
    (u * 4294967296 + v1) / Y * 4294967296 + (((u * 4294967296 + v1) % Y) * 4294967296 + v0) / Y = ((u * 4294967296 + v1) * 4294967296 + v0) / Y ∧
    (((u * 4294967296 + v1) % Y) * 4294967296 + v0) % Y = ((u * 4294967296 + v1) * 4294967296 + v0) % Y := by
  generalize u * 4294967296 + v1 = N
  have e := Int.emod_add_mul_ediv N Y
  have hN : N * 4294967296 + v0 = (N % Y * 4294967296 + v0) + Y * (N / Y * 4294967296) := by grind
  rw [hN]
  constructor
  · rw [Int.add_mul_ediv_left _ _ (by omega)]; omega
  · rw [Int.add_mul_emod_self_left]
/-- and back to what was not shifted -/
theorem unshift (U y : Int) (s : Nat) : (U * 2 ^ s) / (y * 2 ^ s) = U / y ∧ (U * 2 ^ s) % (y * 2 ^ s) / 2 ^ s = U % y := by
  have hp : (0 : Int) < 2 ^ s := Int.pow_pos (by omega)
  constructor
  · rw [Int.mul_comm U, Int.mul_comm y, Int.mul_ediv_mul_of_pos _ _ hp]
  · rw [Int.mul_comm U, Int.mul_comm y, Int.mul_emod_mul_of_pos _ _ hp, Int.mul_comm, Int.mul_ediv_cancel _ (by omega)]
end Go.Proofs.YtlobffjgkhcjbaaDoor.Nu
