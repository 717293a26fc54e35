/-
  Plain facts of the words of float64: their order is that of their rungs with signs; what is written is monotone in the number, and exact where it can be.
-/
import Derived.Laws.FloatBits
namespace Go.Proofs.Ytbdopdfnccnflab
open Ieee

def rung (x : Nat) : Nat := x % 9223372036854775808
def ngv (x : Nat) : Bool := x / 9223372036854775808 % 2 == 1
/-- The number of a rung, in units of the least place. -/
def V (r : Nat) : Nat := if r < 4503599627370496 then r else (4503599627370496 + r % 4503599627370496) * 2 ^ (r / 4503599627370496 - 1)
def sv (s : Bool) (n : Nat) : Int := if s then -(n : Int) else n
def key (x : Nat) : Int := sv (ngv x) (rung x)
/-- The number of a word, in units of the least place. -/
def Z (x : Nat) : Int := sv (ngv x) (V (rung x))

theorem V_succ (r : Nat) : V r < V (r + 1) := by
  unfold V
  by_cases h1 : r + 1 < 4503599627370496
  · rw [if_pos h1, if_pos (by omega)]; omega
  · by_cases h2 : r < 4503599627370496
    · obtain rfl : r = 4503599627370495 := by omega
      decide
    · rw [if_neg h2, if_neg h1]
      obtain ⟨q, hq⟩ : ∃ q, r / 4503599627370496 = q + 1 := ⟨r / 4503599627370496 - 1, by omega⟩
      have hp := Nat.two_pow_pos q
      by_cases h3 : (r + 1) % 4503599627370496 = 0
      · have e1 : (r + 1) / 4503599627370496 = q + 2 := by omega
        have e2 : r % 4503599627370496 = 4503599627370495 := by omega
        rw [h3, e1, e2, hq]
        show _ * 2 ^ q < _ * 2 ^ (q + 1)
        rw [Nat.pow_succ]; omega
      · have e1 : (r + 1) / 4503599627370496 = q + 1 := by omega
        have e2 : (r + 1) % 4503599627370496 = r % 4503599627370496 + 1 := by omega
        rw [e1, e2, hq]
        exact Nat.mul_lt_mul_of_pos_right (by omega) hp

theorem V_lt {r s : Nat} (h : r < s) : V r < V s := by
  induction s with
  | zero => omega
  | succ s ih =>
    have := V_succ s
    by_cases e : r = s
    · subst e; exact this
    · have := ih (by omega); omega
theorem V_zero : V 0 = 0 := by decide

theorem sv_mono_cmp (f : Nat → Nat) (hf : ∀ {a b}, a < b → f a < f b) (h0 : f 0 = 0) (s t : Bool) (a b : Nat) :
    compare (sv s (f a)) (sv t (f b)) = compare (sv s a) (sv t b) := by
  have e : a < b ∧ f a < f b ∨ a = b ∧ f a = f b ∨ b < a ∧ f b < f a := by
    rcases Nat.lt_trichotomy a b with h | h | h
    · exact .inl ⟨h, hf h⟩
    · exact .inr (.inl ⟨h, by rw [h]⟩)
    · exact .inr (.inr ⟨h, hf h⟩)
  have ea : a = 0 ∧ f a = 0 ∨ 0 < a ∧ 0 < f a := by
    rcases Nat.eq_zero_or_pos a with h | h
    · exact .inl ⟨h, by rw [h, h0]⟩
    · exact .inr ⟨h, by have := hf h; omega⟩
  have eb : b = 0 ∧ f b = 0 ∨ 0 < b ∧ 0 < f b := by
    rcases Nat.eq_zero_or_pos b with h | h
    · exact .inl ⟨h, by rw [h, h0]⟩
    · exact .inr ⟨h, by have := hf h; omega⟩
  have l : sv s (f a) < sv t (f b) ↔ sv s a < sv t b := by
    cases s <;> cases t <;> simp only [sv, if_true, if_false, Bool.false_eq_true] <;> omega
  have q : sv s (f a) = sv t (f b) ↔ sv s a = sv t b := by
    cases s <;> cases t <;> simp only [sv, if_true, if_false, Bool.false_eq_true] <;> omega
  show compareOfLessAndEq _ _ = compareOfLessAndEq _ _
  unfold compareOfLessAndEq
  simp only [l, q]

theorem read_fin (x : Nat) (h : rung x < 9218868437227405312) :
    ∃ (m : Nat) (k : Nat), double.read x = .number (ngv x) m (-1074 + (k : Int)) ∧ V (rung x) = m * 2 ^ k := by
  have hr : double.read x = if rung x < 4503599627370496 then .number (ngv x) (rung x) (-1074)
    else if rung x < 9218868437227405312 then .number (ngv x) (4503599627370496 + rung x % 4503599627370496) (-1074 + (rung x / 4503599627370496 - 1 : Nat))
    else if rung x = 9218868437227405312 then .infinity (ngv x) else .nan (ngv x) (rung x - 9218868437227405312) := rfl
  by_cases h1 : rung x < 4503599627370496
  · refine ⟨rung x, 0, ?_, ?_⟩
    · rw [hr, if_pos h1]; rfl
    · unfold V; rw [if_pos h1]; simp
  · refine ⟨4503599627370496 + rung x % 4503599627370496, rung x / 4503599627370496 - 1, ?_, ?_⟩
    · rw [hr, if_neg h1, if_pos h]
    · unfold V; rw [if_neg h1]
theorem read_inf (x : Nat) (h : rung x = 9218868437227405312) : double.read x = .infinity (ngv x) := by
  have hr : double.read x = if rung x < 4503599627370496 then .number (ngv x) (rung x) (-1074)
    else if rung x < 9218868437227405312 then .number (ngv x) (4503599627370496 + rung x % 4503599627370496) (-1074 + (rung x / 4503599627370496 - 1 : Nat))
    else if rung x = 9218868437227405312 then .infinity (ngv x) else .nan (ngv x) (rung x - 9218868437227405312) := rfl
  rw [hr, if_neg (by omega), if_neg (by omega), if_pos h]
theorem read_nan (x : Nat) (h : 9218868437227405312 < rung x) : ∃ f, double.read x = .nan (ngv x) f := by
  have hr : double.read x = if rung x < 4503599627370496 then .number (ngv x) (rung x) (-1074)
    else if rung x < 9218868437227405312 then .number (ngv x) (4503599627370496 + rung x % 4503599627370496) (-1074 + (rung x / 4503599627370496 - 1 : Nat))
    else if rung x = 9218868437227405312 then .infinity (ngv x) else .nan (ngv x) (rung x - 9218868437227405312) := rfl
  exact ⟨_, by rw [hr, if_neg (by omega), if_neg (by omega), if_neg (by omega)]⟩

theorem signed_sv (s : Bool) (m k : Nat) : signed s m k = sv s (m * 2 ^ k) := by
  unfold signed sv; rw [Nat.shiftLeft_eq]
/-- Two finite words at one place: the place's lift is common. -/
theorem at_base (i j : Nat) : ∃ c : Nat, (min (-1074 + (i : Int)) (-1074 + (j : Int))) = -1074 + (c : Int) ∧ (-1074 + (i : Int) - min (-1074 + (i : Int)) (-1074 + (j : Int))).toNat + c = i ∧ (-1074 + (j : Int) - min (-1074 + (i : Int)) (-1074 + (j : Int))).toNat + c = j :=
  ⟨min i j, by omega, by omega, by omega⟩

theorem order_num (x y : Nat) (hx : rung x ≤ 9218868437227405312) (hy : rung y ≤ 9218868437227405312) :
    double.order x y = some (compare (key x) (key y)) := by
  unfold Format.order
  by_cases fx : rung x < 9218868437227405312
  · obtain ⟨m, i, ex, vx⟩ := read_fin x fx
    by_cases fy : rung y < 9218868437227405312
    · obtain ⟨n, j, ey, vy⟩ := read_fin y fy
      rw [ex, ey]
      show some (compare (signed _ _ _) (signed _ _ _)) = _
      obtain ⟨c, -, hi, hj⟩ := at_base i j
      rw [signed_sv, signed_sv]
      generalize (-1074 + (i : Int) - min (-1074 + (i : Int)) (-1074 + (j : Int))).toNat = a at hi ⊢
      generalize (-1074 + (j : Int) - min (-1074 + (i : Int)) (-1074 + (j : Int))).toNat = b at hj ⊢
      have hp := Nat.two_pow_pos c
      rw [← sv_mono_cmp (· * 2 ^ c) (fun h => Nat.mul_lt_mul_of_pos_right h hp) (by simp)]
      have e1 : m * 2 ^ a * 2 ^ c = V (rung x) := by rw [vx, Nat.mul_assoc, ← Nat.pow_add, hi]
      have e2 : n * 2 ^ b * 2 ^ c = V (rung y) := by rw [vy, Nat.mul_assoc, ← Nat.pow_add, hj]
      simp only [e1, e2]
      rw [sv_mono_cmp V V_lt V_zero]; rfl
    · have iy : rung y = 9218868437227405312 := by omega
      rw [ex, read_inf y iy]
      show some (if ngv y = true then Ordering.gt else Ordering.lt) = _
      unfold key; rw [iy]
      show _ = some (compareOfLessAndEq _ _)
      unfold compareOfLessAndEq sv
      cases ngv y <;> cases ngv x <;> simp only [if_true, if_false, Bool.false_eq_true] <;> (first | rw [if_pos (by omega)] | rw [if_neg (by omega), if_neg (by omega)])
  · have ix : rung x = 9218868437227405312 := by omega
    rw [read_inf x ix]
    by_cases fy : rung y < 9218868437227405312
    · obtain ⟨n, j, ey, vy⟩ := read_fin y fy
      rw [ey]
      show some (if ngv x = true then Ordering.lt else Ordering.gt) = _
      unfold key; rw [ix]
      show _ = some (compareOfLessAndEq _ _)
      unfold compareOfLessAndEq sv
      cases ngv y <;> cases ngv x <;> simp only [if_true, if_false, Bool.false_eq_true] <;> (first | rw [if_pos (by omega)] | rw [if_neg (by omega), if_neg (by omega)])
    · have iy : rung y = 9218868437227405312 := by omega
      rw [read_inf y iy]
      unfold key; rw [ix, iy]
      cases ngv y <;> cases ngv x <;> rfl
theorem order_nan_l (x y : Nat) (hx : 9218868437227405312 < rung x) : double.order x y = none := by
  obtain ⟨f, e⟩ := read_nan x hx
  unfold Format.order; rw [e]; rfl
theorem order_nan_r (x y : Nat) (hy : 9218868437227405312 < rung y) : double.order x y = none := by
  obtain ⟨f, e⟩ := read_nan y hy
  unfold Format.order; rw [e]; cases double.read x <;> rfl

theorem cmp_lt (a b : Int) : (some (compare a b) == some Ordering.lt) = decide (a < b) := by
  show (some (compareOfLessAndEq a b) == _) = _
  unfold compareOfLessAndEq
  by_cases h : a < b
  · rw [if_pos h, decide_eq_true h]; rfl
  · rw [if_neg h, decide_eq_false h]; split <;> rfl
theorem cmp_eq (a b : Int) : (some (compare a b) == some Ordering.eq) = decide (a = b) := by
  show (some (compareOfLessAndEq a b) == _) = _
  unfold compareOfLessAndEq
  by_cases h : a < b
  · rw [if_pos h, decide_eq_false (by omega)]; rfl
  · rw [if_neg h]
    by_cases e : a = b
    · rw [if_pos e, decide_eq_true e]; rfl
    · rw [if_neg e, decide_eq_false e]; rfl
theorem cmp_gt (a b : Int) : (some (compare a b) == some Ordering.gt) = decide (b < a) := by
  show (some (compareOfLessAndEq a b) == _) = _
  unfold compareOfLessAndEq
  by_cases h : a < b
  · rw [if_pos h, decide_eq_false (by omega)]; rfl
  · rw [if_neg h]
    by_cases e : a = b
    · rw [if_pos e, decide_eq_false (by omega)]; rfl
    · rw [if_neg e, decide_eq_true (by omega)]; rfl

/- Rounding. -/
def rne (n d : Nat) : Nat := n / 2 ^ d + (decide (2 ^ d < 2 * (n % 2 ^ d)) || (2 ^ d == 2 * (n % 2 ^ d) && n / 2 ^ d % 2 == 1)).toNat

theorem cut_eq (s : Bool) (n d : Nat) : Toward.even.cut s n d = rne n d := by
  have lt := Nat.lt_log2_self (n := n)
  show n / (1 <<< min d (n.log2 + 2)) + _ = _
  unfold rne
  by_cases h : d ≤ n.log2 + 2
  · rw [Nat.min_eq_left h, Nat.shiftLeft_eq, Nat.one_mul]
  · rw [Nat.min_eq_right (by omega)]
    have big : 2 ^ (n.log2 + 2) ≤ 2 ^ d := Nat.pow_le_pow_right (by omega) (by omega)
    have e2 : 2 ^ (n.log2 + 2) = 2 * 2 ^ (n.log2 + 1) := by rw [Nat.pow_succ, Nat.mul_comm]
    have a1 : n / 2 ^ d = 0 := Nat.div_eq_of_lt (by omega)
    have a2 : n % 2 ^ d = n := Nat.mod_eq_of_lt (by omega)
    have b1 : n / 2 ^ (n.log2 + 2) = 0 := Nat.div_eq_of_lt (by omega)
    have b2 : n % 2 ^ (n.log2 + 2) = n := Nat.mod_eq_of_lt (by omega)
    rw [a1, a2, Nat.shiftLeft_eq, Nat.one_mul]
    simp only [b1, b2]
    rw [decide_eq_false (by omega), decide_eq_false (by omega)]
    simp

theorem rne_mono (d : Nat) {n m : Nat} (h : n ≤ m) : rne n d ≤ rne m d := by
  unfold rne
  have hp := Nat.two_pow_pos d
  generalize 2 ^ d = p at hp ⊢
  have hd := Nat.div_le_div_right (c := p) h
  have en := Nat.div_add_mod n p
  have em := Nat.div_add_mod m p
  by_cases e : n / p = m / p
  · rw [e]
    rw [e] at en
    have : n % p ≤ m % p := by omega
    refine Nat.add_le_add_left ?_ _
    generalize n % p = a at this ⊢
    generalize m % p = b at this ⊢
    generalize (m / p % 2 == 1) = c
    cases c <;> simp only [Bool.and_false, Bool.or_false, Bool.and_true]
    · by_cases h1 : p < 2 * a
      · rw [decide_eq_true h1, decide_eq_true (by omega)]; decide
      · rw [decide_eq_false h1]; simp
    · by_cases h1 : p < 2 * a
      · rw [decide_eq_true h1, decide_eq_true (show p < 2 * b by omega)]; simp
      · rw [decide_eq_false h1]
        by_cases h2 : p = 2 * a
        · by_cases h3 : a = b
          · subst h3; rw [decide_eq_false h1]; simp
          · rw [decide_eq_true (show p < 2 * b by omega)]; simp; exact Bool.toNat_le _
        · have h4 : (p == 2 * a) = false := by simpa using h2
          rw [h4]; simp
  · have : (decide (p < 2 * (n % p)) || (p == 2 * (n % p) && n / p % 2 == 1)).toNat ≤ 1 := Bool.toNat_le _
    omega
theorem rne_scale (n d k : Nat) : rne (n * 2 ^ k) (d + k) = rne n d := by
  unfold rne
  have hp := Nat.two_pow_pos k
  rw [Nat.pow_add, Nat.mul_div_mul_right _ _ hp, Nat.mul_mod_mul_right]
  generalize 2 ^ k = c at hp ⊢
  generalize 2 ^ d = p
  have e1 : decide (p * c < 2 * (n % p * c)) = decide (p < 2 * (n % p)) := by
    rw [← Nat.mul_assoc, decide_eq_decide]
    exact Nat.mul_lt_mul_right hp
  have e2 : (p * c == 2 * (n % p * c)) = (p == 2 * (n % p)) := by
    rw [← Nat.mul_assoc, Bool.eq_iff_iff, beq_iff_eq, beq_iff_eq]
    exact Nat.mul_left_inj (by omega)
  rw [e1, e2]
theorem rne_zero (n : Nat) : rne n 0 = n := by
  unfold rne; simp [Nat.mod_one]
theorem rne_le (n d k : Nat) (h : n < 2 ^ (d + k)) : rne n d ≤ 2 ^ k := by
  have h1 : rne n d ≤ n / 2 ^ d + 1 := by
    unfold rne; exact Nat.add_le_add_left (Bool.toNat_le _) _
  have : n / 2 ^ d < 2 ^ k := Nat.div_lt_of_lt_mul (by rwa [← Nat.pow_add])
  omega
theorem rne_ge (n d k : Nat) (h : 2 ^ (d + k) ≤ n) : 2 ^ k ≤ rne n d := by
  have h1 : n / 2 ^ d ≤ rne n d := by
    unfold rne; exact Nat.le_add_right _ _
  have : 2 ^ k ≤ n / 2 ^ d := by
    rw [Nat.le_div_iff_mul_le (Nat.two_pow_pos d), ← Nat.pow_add, Nat.add_comm]; exact h
  omega

def lastP (m : Nat) (p : Int) : Int := max (p + m.log2 - 52) (-1074)
def R (m : Nat) (p : Int) : Nat :=
  if m = 0 then 0 else min ((lastP m p + 1074).toNat * 4503599627370496 + rne (m * 2 ^ (p - lastP m p).toNat) (lastP m p - p).toNat) 9218868437227405312
def wd (s : Bool) (r : Nat) : Nat := if s then 9223372036854775808 + r else r

theorem write_num (s : Bool) (m : Nat) (p : Int) : double.write (.number s m p) = wd s (R m p) := by
  show double.nearest s m p = _
  unfold Format.nearest R
  by_cases h : m = 0
  · rw [if_pos h, if_pos h]; cases s <;> rfl
  · rw [if_neg h, if_neg h]
    have hl : max (p + (m.log2 : Int) - (double.fractionBits : Int)) double.leastPlace = lastP m p := rfl
    simp only [hl, cut_eq, Nat.shiftLeft_eq]
    have e : (lastP m p - double.leastPlace) = lastP m p + 1074 := by
      show lastP m p - (-1074) = _; omega
    rw [e]
    cases s <;> rfl
theorem R_le (m : Nat) (p : Int) : R m p ≤ 9218868437227405312 := by
  unfold R; split
  · omega
  · exact Nat.min_le_right _ _

theorem R_scale (m k : Nat) (p : Int) : R (m * 2 ^ k) p = R m (p + k) := by
  have hk := Nat.two_pow_pos k
  by_cases h : m = 0
  · subst h; unfold R; simp
  · have h' : m * 2 ^ k ≠ 0 := by
      intro e; rcases Nat.mul_eq_zero.1 e with e | e <;> omega
    have lg : (m * 2 ^ k).log2 = m.log2 + k := by
      have a := (Nat.le_log2 h (k := m.log2)).1 (Nat.le_refl _)
      have b := Nat.lt_log2_self (n := m)
      refine (Nat.log2_eq_iff h').2 ⟨?_, ?_⟩
      · rw [Nat.pow_add]; exact Nat.mul_le_mul_right _ a
      · rw [show m.log2 + k + 1 = (m.log2 + 1) + k by omega, Nat.pow_add]; exact Nat.mul_lt_mul_of_pos_right b hk
    have ll : lastP (m * 2 ^ k) p = lastP m (p + k) := by
      unfold lastP; rw [lg]; omega
    unfold R
    rw [if_neg h, if_neg h', ll]
    generalize lastP m (p + k) = l
    have e : rne (m * 2 ^ k * 2 ^ (p - l).toNat) (l - p).toNat = rne (m * 2 ^ (p + k - l).toNat) (l - (p + k)).toNat := by
      by_cases c1 : l ≤ p
      · rw [show (l - p).toNat = 0 by omega, show (l - (p + k)).toNat = 0 by omega, Nat.mul_assoc, ← Nat.pow_add, show k + (p - l).toNat = (p + k - l).toNat by omega]
      · by_cases c2 : l ≤ p + k
        · obtain ⟨a, ha⟩ : ∃ a : Nat, l - p = a := ⟨(l - p).toNat, by omega⟩
          obtain ⟨b, hb⟩ : ∃ b : Nat, p + k - l = b := ⟨(p + k - l).toNat, by omega⟩
          rw [show (p - l).toNat = 0 by omega, show (l - p).toNat = 0 + a by omega, show (l - (p + k)).toNat = 0 by omega, hb, Int.toNat_natCast, Nat.pow_zero, Nat.mul_one, show k = b + a by omega, Nat.pow_add, ← Nat.mul_assoc, rne_scale]
        · obtain ⟨a, ha⟩ : ∃ a : Nat, l - (p + k) = a := ⟨(l - (p + k)).toNat, by omega⟩
          rw [show (p - l).toNat = 0 by omega, show (l - p).toNat = a + k by omega, show (p + k - l).toNat = 0 by omega, ha, Int.toNat_natCast, Nat.pow_zero, Nat.mul_one, Nat.mul_one, rne_scale]
    rw [e]

theorem R_mono (p : Int) {m n : Nat} (h : m ≤ n) : R m p ≤ R n p := by
  by_cases hm : m = 0
  · unfold R; rw [if_pos hm]; exact Nat.zero_le _
  · have hn : n ≠ 0 := by omega
    have m1 := (Nat.le_log2 hm (k := m.log2)).1 (Nat.le_refl _)
    have m2 := Nat.lt_log2_self (n := m)
    have n1 := (Nat.le_log2 hn (k := n.log2)).1 (Nat.le_refl _)
    have lg : m.log2 ≤ n.log2 := (Nat.le_log2 hn).2 (Nat.le_trans m1 h)
    have hl : lastP m p ≤ lastP n p := by unfold lastP; omega
    unfold R
    rw [if_neg hm, if_neg hn]
    have key : (lastP m p + 1074).toNat * 4503599627370496 + rne (m * 2 ^ (p - lastP m p).toNat) (lastP m p - p).toNat ≤ (lastP n p + 1074).toNat * 4503599627370496 + rne (n * 2 ^ (p - lastP n p).toNat) (lastP n p - p).toNat := by
      by_cases e : lastP m p = lastP n p
      · rw [e]; exact Nat.add_le_add_left (rne_mono _ (Nat.mul_le_mul_right _ h)) _
      · have l1 : p + (m.log2 : Int) - 52 ≤ lastP m p := by unfold lastP; omega
        have l2 : lastP n p = p + (n.log2 : Int) - 52 := by unfold lastP at hl e ⊢; omega
        have l3 : -1074 ≤ lastP m p := by unfold lastP; omega
        have a : rne (m * 2 ^ (p - lastP m p).toNat) (lastP m p - p).toNat ≤ 2 ^ 53 := by
          refine rne_le _ _ _ ?_
          have : m * 2 ^ (p - lastP m p).toNat < 2 ^ (m.log2 + 1) * 2 ^ (p - lastP m p).toNat := Nat.mul_lt_mul_of_pos_right m2 (Nat.two_pow_pos _)
          refine Nat.lt_of_lt_of_le this ?_
          rw [← Nat.pow_add]
          exact Nat.pow_le_pow_right (by omega) (by omega)
        have b : 2 ^ 52 ≤ rne (n * 2 ^ (p - lastP n p).toNat) (lastP n p - p).toNat := by
          refine rne_ge _ _ _ ?_
          refine Nat.le_trans ?_ (Nat.mul_le_mul_right _ n1)
          rw [← Nat.pow_add]
          exact Nat.pow_le_pow_right (by omega) (by omega)
        have c : (lastP m p + 1074).toNat + 1 ≤ (lastP n p + 1074).toNat := by omega
        have d := Nat.mul_le_mul_right 4503599627370496 c
        omega
    exact Nat.le_min.2 ⟨Nat.le_trans (Nat.min_le_left _ _) key, Nat.min_le_right _ _⟩

theorem R_V (r : Nat) : R (V r) (-1074) = min r 9218868437227405312 := by
  by_cases h0 : r = 0
  · subst h0; rfl
  by_cases h : r < 4503599627370496
  · have hv : V r = r := by unfold V; rw [if_pos h]
    rw [hv]
    have lg : r.log2 ≤ 51 := by
      have := (Nat.log2_lt h0 (k := 52)).2 (by omega); omega
    have ll : lastP r (-1074) = -1074 := by unfold lastP; omega
    unfold R
    rw [if_neg h0, ll]
    show min (0 * _ + rne (r * 1) 0) _ = _
    rw [rne_zero]; simp
  · have hv : V r = (4503599627370496 + r % 4503599627370496) * 2 ^ (r / 4503599627370496 - 1) := by unfold V; rw [if_neg h]
    rw [hv, R_scale]
    have h1 : 4503599627370496 + r % 4503599627370496 ≠ 0 := by omega
    have lg : (4503599627370496 + r % 4503599627370496).log2 = 52 := (Nat.log2_eq_iff h1).2 ⟨by omega, by omega⟩
    have ll : lastP (4503599627370496 + r % 4503599627370496) (-1074 + ((r / 4503599627370496 - 1 : Nat) : Int)) = -1074 + ((r / 4503599627370496 - 1 : Nat) : Int) := by unfold lastP; rw [lg]; omega
    unfold R
    rw [if_neg h1, ll]
    generalize hq : r / 4503599627370496 - 1 = q
    rw [show (-1074 + (q : Int) - (-1074 + (q : Int))).toNat = 0 by omega, rne_zero, show (-1074 + (q : Int) + 1074).toNat = q by omega]
    simp only [Nat.pow_zero, Nat.mul_one]
    omega

/-- What is at least a rung's number is written at least as that rung. -/
theorem R_ge (r m : Nat) (h : V r ≤ m) (hr : r ≤ 9218868437227405312) : r ≤ R m (-1074) := by
  have := R_mono (-1074) h
  rw [R_V, Nat.min_eq_left hr] at this; exact this
theorem R_le_of (r m : Nat) (h : m ≤ V r) : R m (-1074) ≤ r := by
  have := R_mono (-1074) h
  rw [R_V] at this; omega

/- The operations. -/
theorem sv_scale (s : Bool) (a c : Nat) : sv s (a * c) = sv s a * (c : Int) := by
  unfold sv; cases s <;> simp [Int.neg_mul]
theorem add_fin (x y : Nat) (hx : rung x < 9218868437227405312) (hy : rung y < 9218868437227405312) :
    double.add x y = some (wd (if Z x + Z y = 0 then ngv x && ngv y else decide (Z x + Z y < 0)) (R (Z x + Z y).natAbs (-1074))) := by
  obtain ⟨m, i, ex, vx⟩ := read_fin x hx
  obtain ⟨n, j, ey, vy⟩ := read_fin y hy
  unfold Format.add
  rw [ex, ey]
  obtain ⟨c, hb, hi, hj⟩ := at_base i j
  show some (double.write (.number (if signed _ _ _ + signed _ _ _ = 0 then _ else decide (signed _ _ _ + signed _ _ _ < 0)) (signed _ _ _ + signed _ _ _).natAbs _)) = _
  rw [write_num, hb]
  rw [hb] at hi hj
  generalize (-1074 + (i : Int) - (-1074 + (c : Int))).toNat = a at hi ⊢
  generalize (-1074 + (j : Int) - (-1074 + (c : Int))).toNat = b at hj ⊢
  have e1 : Z x = signed (ngv x) m a * ((2 ^ c : Nat) : Int) := by
    unfold Z; rw [vx, ← hi, Nat.pow_add, ← Nat.mul_assoc, sv_scale, signed_sv]
  have e2 : Z y = signed (ngv y) n b * ((2 ^ c : Nat) : Int) := by
    unfold Z; rw [vy, ← hj, Nat.pow_add, ← Nat.mul_assoc, sv_scale, signed_sv]
  rw [e1, e2, ← Int.add_mul, Int.natAbs_mul, Int.natAbs_natCast, R_scale]
  have hp : (0 : Int) < ((2 ^ c : Nat) : Int) := by have := Nat.two_pow_pos c; omega
  generalize ((2 ^ c : Nat) : Int) = p at hp ⊢
  generalize signed (ngv x) m a + signed (ngv y) n b = t
  have z : (t * p = 0) ↔ t = 0 := by
    constructor
    · intro h; rcases Int.mul_eq_zero.1 h with h | h <;> omega
    · rintro rfl; simp
  have l : (t * p < 0) ↔ t < 0 := by
    constructor
    · intro h
      by_cases g : t < 0
      · exact g
      · have := Int.mul_nonneg (show 0 ≤ t by omega) (show 0 ≤ p by omega); omega
    · intro h; exact Int.mul_neg_of_neg_of_pos h hp
  simp only [z, l]

theorem mul_fin (x y : Nat) (hx : rung x < 9218868437227405312) (hy : rung y < 9218868437227405312) :
    double.mul x y = some (wd (ngv x ^^ ngv y) (R (V (rung x) * V (rung y)) (-2148))) := by
  obtain ⟨m, i, ex, vx⟩ := read_fin x hx
  obtain ⟨n, j, ey, vy⟩ := read_fin y hy
  unfold Format.mul
  rw [ex, ey]
  show some (double.write (.number _ (m * n) _)) = _
  rw [write_num, vx, vy]
  have e : m * 2 ^ i * (n * 2 ^ j) = (m * n) * 2 ^ (i + j) := by
    rw [Nat.pow_add]; simp only [Nat.mul_assoc, Nat.mul_left_comm]
  rw [e, R_scale]
  have : (-1074 + (i : Int) + (-1074 + (j : Int))) = (-2148 + ((i + j : Nat) : Int)) := by omega
  rw [this]

/-- Division by 0.95: none is less than it was. -/
theorem div_fin (x : Nat) (hx : rung x < 9218868437227405312) :
    ∃ r, double.div x 4606732058837280358 = some (wd (ngv x) r) ∧ rung x ≤ r ∧ r ≤ 9218868437227405312 := by
  obtain ⟨m, i, ex, vx⟩ := read_fin x hx
  have ec : double.read 4606732058837280358 = .number false 8556839292003942 (-53) := by decide +kernel
  have lc : Nat.log2 8556839292003942 = 52 := by decide +kernel
  unfold Format.div
  rw [ex, ec]
  have hq : (Datum.number (ngv x) m (-1074 + (i : Int))).quotient (double.fractionBits + 2) (.number false 8556839292003942 (-53)) =
      some (.number (ngv x ^^ false) (2 * (m <<< (54 + Nat.log2 8556839292003942 - m.log2) / 8556839292003942) + (m <<< (54 + Nat.log2 8556839292003942 - m.log2) % 8556839292003942 != 0).toNat) (-1074 + (i : Int) - (-53) - ((54 + Nat.log2 8556839292003942 - m.log2 : Nat) : Int) - 1)) := rfl
  rw [hq, lc]
  show ∃ r, some (double.write _) = _ ∧ _
  rw [write_num, Bool.xor_false]
  refine ⟨_, rfl, ?_, R_le _ _⟩
  by_cases h0 : m = 0
  · subst h0
    rw [Nat.zero_mul] at vx
    have : rung x = 0 := by
      rcases Nat.eq_zero_or_pos (rung x) with h | h
      · exact h
      · have := V_lt h; omega
    omega
  rw [Nat.shiftLeft_eq]
  have m1 := (Nat.le_log2 h0 (k := m.log2)).1 (Nat.le_refl _)
  have hA : 2 ^ 106 ≤ m * 2 ^ (106 - m.log2) := by
    refine Nat.le_trans ?_ (Nat.mul_le_mul_right _ m1)
    rw [← Nat.pow_add]; exact Nat.pow_le_pow_right (by omega) (by omega)
  show rung x ≤ R (2 * (m * 2 ^ (106 - m.log2) / _) + (m * 2 ^ (106 - m.log2) % _ != 0).toNat) (-1074 + (i : Int) - (-53) - ((106 - m.log2 : Nat) : Int) - 1)
  generalize hk : 106 - m.log2 = k at hA ⊢
  have big : m * 2 ^ k * 2 ≤ (2 * (m * 2 ^ k / 8556839292003942) + (m * 2 ^ k % 8556839292003942 != 0).toNat) * 9007199254740992 := by
    generalize m * 2 ^ k = A at hA ⊢
    by_cases e : A % 8556839292003942 = 0
    · rw [e]; simp; omega
    · have : (A % 8556839292003942 != 0) = true := by simpa using e
      rw [this]; simp; omega
  generalize 2 * (m * 2 ^ k / 8556839292003942) + (m * 2 ^ k % 8556839292003942 != 0).toNat = Q at big ⊢
  have h1 := R_mono (-1074 + (i : Int) - (k : Int) - 1) big
  have h2 := R_V (rung x)
  rw [Nat.min_eq_left (by omega), vx, R_scale] at h2
  rw [show m * 2 ^ k * 2 = m * 2 ^ (k + 1) by rw [Nat.pow_succ, Nat.mul_assoc], R_scale, show (9007199254740992 : Nat) = 2 ^ 53 from rfl, R_scale, show (-1074 + (i : Int) - (k : Int) - 1 + ((k + 1 : Nat) : Int)) = -1074 + (i : Int) by omega, h2] at h1
  rw [show (-1074 + (i : Int) - (-53) - (k : Int) - 1) = (-1074 + (i : Int) - (k : Int) - 1 + ((53 : Nat) : Int)) by omega]
  exact h1
end Go.Proofs.Ytbdopdfnccnflab
