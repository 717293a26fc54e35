/-
  What the document's 'Ints' answers.
-/
import Derived.Test.YtimnfkdokjdplaaDoorEvC
import Derived.IntWalk
namespace Go.Proofs.YtimnfkdokjdplaaDoor
open Go.RowKit

theorem wrap_fit {n : Int} (h : fitB n = true) : IntKind.i64.wrap n = n := by
  rw [fitB_iff] at h
  rw [IntKind.wrap_i64]; omega
set_option maxRecDepth 100000 in
set_option maxHeartbeats 1000000 in
theorem ints4_ok (a b : Int) (w : World) (hf : fitB (a + b) = true) :
    Calls Tryd.prog 34 #[.int .i64 4, .int .i64 a, .int .i64 b] w fun e w' => e = .returned (.tuple #[.int .i64 (a + b), .bool true]) ∧ w = w' := by
  have W1 := wrap_fit hf
  have key : (decide (a < 0) = true ∧ decide (b < 0) = true ∧ decide (a + b < 0) = true) ∨ (decide (a < 0) = true ∧ decide (b < 0) = false) ∨ (decide (a < 0) = false ∧ decide (b < 0) = true) ∨ (decide (a < 0) = false ∧ decide (b < 0) = false ∧ decide (a + b < 0) = false) := by
    simp only [decide_eq_true_eq, decide_eq_false_iff_not]; omega
  clear hf
  rcases key with ⟨h1, h2, h3⟩ | ⟨h1, h2⟩ | ⟨h1, h2⟩ | ⟨h1, h2, h3⟩
  all_goals
    go_enter Tryd.func34, Tryd.ntmps34
    go_wp2
    go_ret2
    exact ⟨rfl, rfl⟩
set_option maxRecDepth 100000 in
set_option maxHeartbeats 1000000 in
theorem ints4_no (a b : Int) (w : World) (ha : fitB a = true) (hb : fitB b = true) (hf : fitB (a + b) = false) :
    Calls Tryd.prog 34 #[.int .i64 4, .int .i64 a, .int .i64 b] w fun e w' => (∃ c, e = .returned (.tuple #[.int .i64 c, .bool false])) ∧ w = w' := by
  have key : (decide (a < 0) = true ∧ decide (b < 0) = true ∧ decide (wrap64 (a + b) < 0) = false) ∨ (decide (a < 0) = false ∧ decide (b < 0) = false ∧ decide (wrap64 (a + b) < 0) = true) := by
    rw [Bool.eq_false_iff] at hf
    rw [Ne, fitB_iff] at hf
    rw [fitB_iff] at ha hb
    unfold wrap64
    simp only [decide_eq_true_eq, decide_eq_false_iff_not]; omega
  clear ha hb hf
  rcases key with ⟨h1, h2, h3⟩ | ⟨h1, h2, h3⟩
  all_goals
    go_enter Tryd.func34, Tryd.ntmps34
    go_wp2
    go_ret2
    exact ⟨⟨_, rfl⟩, rfl⟩
set_option maxRecDepth 100000 in
set_option maxHeartbeats 1000000 in
theorem ints5_ok (a b : Int) (w : World) (hf : fitB (a - b) = true) :
    Calls Tryd.prog 34 #[.int .i64 5, .int .i64 a, .int .i64 b] w fun e w' => e = .returned (.tuple #[.int .i64 (a - b), .bool true]) ∧ w = w' := by
  have W1 := wrap_fit hf
  have key : (decide (a < 0) = true ∧ decide (b < 0) = false ∧ decide (a - b < 0) = true) ∨ (decide (a < 0) = true ∧ decide (b < 0) = true) ∨ (decide (a < 0) = false ∧ decide (b < 0) = false) ∨ (decide (a < 0) = false ∧ decide (b < 0) = true ∧ decide (a - b < 0) = false) := by
    simp only [decide_eq_true_eq, decide_eq_false_iff_not]; omega
  clear hf
  rcases key with ⟨h1, h2, h3⟩ | ⟨h1, h2⟩ | ⟨h1, h2⟩ | ⟨h1, h2, h3⟩
  all_goals
    go_enter Tryd.func34, Tryd.ntmps34
    go_wp2
    go_ret2
    exact ⟨rfl, rfl⟩
set_option maxRecDepth 100000 in
set_option maxHeartbeats 1000000 in
theorem ints5_no (a b : Int) (w : World) (ha : fitB a = true) (hb : fitB b = true) (hf : fitB (a - b) = false) :
    Calls Tryd.prog 34 #[.int .i64 5, .int .i64 a, .int .i64 b] w fun e w' => (∃ c, e = .returned (.tuple #[.int .i64 c, .bool false])) ∧ w = w' := by
  have key : (decide (a < 0) = true ∧ decide (b < 0) = false ∧ decide (wrap64 (a - b) < 0) = false) ∨ (decide (a < 0) = false ∧ decide (b < 0) = true ∧ decide (wrap64 (a - b) < 0) = true) := by
    rw [Bool.eq_false_iff] at hf
    rw [Ne, fitB_iff] at hf
    rw [fitB_iff] at ha hb
    unfold wrap64
    simp only [decide_eq_true_eq, decide_eq_false_iff_not]; omega
  clear ha hb hf
  rcases key with ⟨h1, h2, h3⟩ | ⟨h1, h2, h3⟩
  all_goals
    go_enter Tryd.func34, Tryd.ntmps34
    go_wp2
    go_ret2
    exact ⟨⟨_, rfl⟩, rfl⟩
theorem wrap64_fit {n : Int} (h : fitB n = true) : wrap64 n = n := by
  rw [fitB_iff] at h
  unfold wrap64; omega
theorem wrap64_rng (n : Int) : fitB (wrap64 n) = true := by
  rw [fitB_iff]; unfold wrap64; omega
/-- a product that does not fit shows itself: what is left of it, divided, is not what it was -/
theorem mul_shows {a b : Int} (hb : fitB b = true) (h0 : b ≠ 0) (hf : fitB (a * b) = false) : (wrap64 (a * b)).tdiv b ≠ a := by
  intro h
  have hr := wrap64_rng (a * b)
  have hk : ∃ k : Int, wrap64 (a * b) = a * b + k * 18446744073709551616 := by
    unfold wrap64
    have := Int.emod_add_mul_ediv (a * b + 9223372036854775808) 18446744073709551616
    exact ⟨-((a * b + 9223372036854775808) / 18446744073709551616), by omega⟩
  obtain ⟨k, hk⟩ := hk
  have hm := Int.tmod_add_mul_tdiv (wrap64 (a * b)) b
  rw [h] at hm
  have hlt := Int.natAbs_tmod (wrap64 (a * b)) b
  have hlt2 : (Int.tmod (wrap64 (a * b)) b).natAbs < b.natAbs := by
    rw [hlt]; exact Nat.mod_lt _ (by omega)
  have e : Int.tmod (wrap64 (a * b)) b = k * 18446744073709551616 := by
    have : b * a = a * b := Int.mul_comm b a
    omega
  rw [e] at hlt2
  rw [fitB_iff] at hb hr
  have hkz : k = 0 := by
    rcases Int.lt_trichotomy k 0 with hk0 | hk0 | hk0
    · omega
    · exact hk0
    · omega
  subst hkz
  rw [Int.zero_mul, Int.add_zero] at hk
  have := wrap64_rng (a * b)
  rw [hk, hf] at this
  exact absurd this (by decide)
set_option maxRecDepth 100000 in
set_option maxHeartbeats 1000000 in
theorem ints6_zero (a b : Int) (w : World) (h : a = 0 ∨ b = 0) :
    Calls Tryd.prog 34 #[.int .i64 6, .int .i64 a, .int .i64 b] w fun e w' => e = .returned (.tuple #[.int .i64 0, .bool true]) ∧ w = w' := by
  by_cases h0 : a = 0
  · subst h0
    go_enter Tryd.func34, Tryd.ntmps34
    go_wp2
    go_ret2
    exact ⟨rfl, rfl⟩
  · obtain rfl : b = 0 := by rcases h with h | h; exact absurd h h0; exact h
    have e1 : (a == 0) = false := beq_eq_false_iff_ne.2 h0
    clear h0 h
    go_enter Tryd.func34, Tryd.ntmps34
    go_wp2
    go_ret2
    exact ⟨rfl, rfl⟩
set_option maxRecDepth 100000 in
set_option maxHeartbeats 1000000 in
theorem ints6_ok (a b : Int) (w : World) (h1 : (a == 0) = false) (h2 : (b == 0) = false) (h3 : ¬ b = 0) (q : Bool) (hq : (wrap64 ((wrap64 (a * b)).tdiv b) == a) = q) (m1 m2 m3 m4 : Bool) (e1 : (a == -1) = m1) (e2 : (b == -9223372036854775808) = m2) (e3 : (b == -1) = m3) (e4 : (a == -9223372036854775808) = m4)  :
    Calls Tryd.prog 34 #[.int .i64 6, .int .i64 a, .int .i64 b] w fun e w' => e = .returned (.tuple #[.int .i64 (wrap64 (a * b)), .bool (q && !(m1 && m2) && !(m3 && m4))]) ∧ w = w' := by
  cases q <;> cases m1 <;> cases m2 <;> cases m3 <;> cases m4
  all_goals
    go_enter Tryd.func34, Tryd.ntmps34
    go_wp2
    go_ret2
    exact ⟨rfl, rfl⟩
theorem ints6_fit (a b : Int) (w : World) (hf : fitB (a * b) = true) (ha : fitB a = true) :
    Calls Tryd.prog 34 #[.int .i64 6, .int .i64 a, .int .i64 b] w fun e w' => e = .returned (.tuple #[.int .i64 (a * b), .bool true]) ∧ w = w' := by
  by_cases h : a = 0 ∨ b = 0
  · have e : a * b = 0 := by rcases h with rfl | rfl <;> simp
    rw [e]
    exact ints6_zero a b w h
  · have hb : ¬ b = 0 := fun e => h (.inr e)
    have ha0 : ¬ a = 0 := fun e => h (.inl e)
    have e0 := wrap64_fit hf
    have eq : (wrap64 ((wrap64 (a * b)).tdiv b) == a) = true := by
      rw [e0, Int.mul_tdiv_cancel a hb, wrap64_fit ha]; simp
    have := ints6_ok a b w (beq_eq_false_iff_ne.2 ha0) (beq_eq_false_iff_ne.2 hb) hb true eq _ _ _ _ rfl rfl rfl rfl
    rw [e0] at this
    have e5 : (true && !((a == -1) && (b == -9223372036854775808)) && !((b == -1) && (a == -9223372036854775808))) = true := by
      have n1 : ((a == -1) && (b == -9223372036854775808)) = false := by
        rw [Bool.eq_false_iff]; intro hh
        simp only [Bool.and_eq_true, beq_iff_eq] at hh
        rw [hh.1, hh.2, fitB_iff] at hf; omega
      have n2 : ((b == -1) && (a == -9223372036854775808)) = false := by
        rw [Bool.eq_false_iff]; intro hh
        simp only [Bool.and_eq_true, beq_iff_eq] at hh
        rw [hh.1, hh.2, fitB_iff] at hf; omega
      rw [n1, n2]; rfl
    rw [e5] at this
    exact this
theorem ints6_no (a b : Int) (w : World) (ha : fitB a = true) (hb : fitB b = true) (hf : fitB (a * b) = false) :
    Calls Tryd.prog 34 #[.int .i64 6, .int .i64 a, .int .i64 b] w fun e w' => (∃ c, e = .returned (.tuple #[.int .i64 c, .bool false])) ∧ w = w' := by
  have hb0 : ¬ b = 0 := by rintro rfl; rw [Int.mul_zero] at hf; exact absurd hf (by decide)
  have ha0 : ¬ a = 0 := by rintro rfl; rw [Int.zero_mul] at hf; exact absurd hf (by decide)
  have := ints6_ok a b w (beq_eq_false_iff_ne.2 ha0) (beq_eq_false_iff_ne.2 hb0) hb0 _ rfl _ _ _ _ rfl rfl rfl rfl
  refine this.mono ?_
  rintro e w' ⟨rfl, rfl⟩
  refine ⟨⟨wrap64 (a * b), ?_⟩, rfl⟩
  have key : ((wrap64 ((wrap64 (a * b)).tdiv b) == a) && !((a == -1) && (b == -9223372036854775808)) && !((b == -1) && (a == -9223372036854775808))) = false := by
    by_cases hs : b = -1 ∧ a = -9223372036854775808
    · rw [hs.1, hs.2]; simp
    · have hne := mul_shows hb hb0 hf
      have hr := wrap64_rng (a * b)
      have hq : fitB ((wrap64 (a * b)).tdiv b) = true := by
        by_cases hm : b = -1
        · subst hm
          have hna : ¬ a = -9223372036854775808 := fun e => hs ⟨rfl, e⟩
          rw [fitB_iff] at ha
          rw [Bool.eq_false_iff] at hf
          rw [Ne, fitB_iff] at hf
          omega
        · have h1 := Int.natAbs_tdiv (wrap64 (a * b)) b
          rw [fitB_iff] at hr ⊢
          by_cases h1b : b = 1
          · subst h1b; rw [Int.tdiv_one]; exact hr
          · have h3 : (wrap64 (a * b)).natAbs / b.natAbs ≤ (wrap64 (a * b)).natAbs / 2 := Nat.div_le_div_left (by omega) (by omega)
            have h4 : ((wrap64 (a * b)).tdiv b).natAbs ≤ (wrap64 (a * b)).natAbs / 2 := Nat.le_trans (Nat.le_of_eq h1) h3
            clear h1 h3
            omega
      rw [wrap64_fit hq, beq_eq_false_iff_ne.2 hne]
      rfl
  rw [key]
end Go.Proofs.YtimnfkdokjdplaaDoor
