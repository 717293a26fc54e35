/-
  What NumEnds does: it returns true, whatever the two numbers are.
-/
import Derived.Test.YtfoohgfdkmgndaaNumP
namespace Go.Proofs.Ytfoohgfdkmgndaa
open Go.RowKit Go.Shelf

set_option maxHeartbeats 4000000 in
set_option maxRecDepth 100000 in
theorem ends_core (a b c s d n e : Int) (one two three four : Bool) (w : World)
    (A1 : Hid (∀ w, Calls Try.prog 16 #[.int .i64 a, .int .i64 b] w fun e w' => e = .returned (.tuple #[.int .i64 s, .bool one]) ∧ Below w.heap.size w w'))
    (S1 : Hid (∀ w, Calls Try.prog 17 #[.int .i64 a, .int .i64 b] w fun e w' => e = .returned (.tuple #[.int .i64 d, .bool two]) ∧ Below w.heap.size w w'))
    (N1 : Hid (∀ w, Calls Try.prog 19 #[.int .i64 b] w fun e w' => e = .returned (.tuple #[.int .i64 n, .bool three]) ∧ Below w.heap.size w w'))
    (A2 : Hid (∀ w, Calls Try.prog 16 #[.int .i64 a, .int .i64 n] w fun en w' => en = .returned (.tuple #[.int .i64 e, .bool four]) ∧ Below w.heap.size w w'))
    (M1 : Hid (∀ w, Calls Try.prog 18 #[.int .i64 a, .int .i64 1] w fun e w' => e = .returned (.tuple #[.int .i64 a, .bool true]) ∧ Below w.heap.size w w'))
    (M2 : Hid (∀ w, Calls Try.prog 18 #[.int .i64 b, .int .i64 0] w fun e w' => e = .returned (.tuple #[.int .i64 0, .bool true]) ∧ Below w.heap.size w w'))
    (hc : IntKind.i64.wrap (a + b) = c) (hc' : wrap64 (a + b) = c)
    (hs : (0 ≤ a ∧ 0 ≤ b ∧ 0 ≤ c ∧ one = true ∧ s = c) ∨ (0 ≤ a ∧ 0 ≤ b ∧ c < 0 ∧ one = false ∧ s = 0) ∨ (a < 0 ∧ b < 0 ∧ 0 ≤ c ∧ one = false ∧ s = 0) ∨ (a < 0 ∧ b < 0 ∧ c < 0 ∧ one = true ∧ s = c) ∨ (0 ≤ a ∧ b < 0 ∧ one = true ∧ s = c) ∨ (a < 0 ∧ 0 ≤ b ∧ one = true ∧ s = c))
    (ht : three = false ∨ (three = true ∧ d = e ∧ two = four)) :
    Calls Try.prog 9 #[.int .i64 a, .int .i64 b] w fun e w' => e = .returned (.bool true) ∧ Below w.heap.size w w' := by
  rcases hs with ⟨ha, hb, h0, rfl, rfl⟩ | ⟨ha, hb, h0, rfl, rfl⟩ | ⟨ha, hb, h0, rfl, rfl⟩ | ⟨ha, hb, h0, rfl, rfl⟩ | ⟨ha, hb, rfl, rfl⟩ | ⟨ha, hb, rfl, rfl⟩
  all_goals
    rcases ht with rfl | ⟨rfl, rfl, rfl⟩
    all_goals
      go_enter Try.func9, Try.ntmps9
      go_wp2_with fail
      refine (shown_any _).mono ?_; rintro e w1 ⟨rfl, hb1⟩
      go_wp2_with fail
      refine (A1.out _).mono ?_; rintro e w2 ⟨rfl, hb2⟩
      go_wp2_with fail
      refine (S1.out _).mono ?_; rintro e w3 ⟨rfl, hb3⟩
      go_wp2_with fail
      refine (N1.out _).mono ?_; rintro e w4 ⟨rfl, hb4⟩
      go_wp2_with fail
      refine (A2.out _).mono ?_; rintro e w5 ⟨rfl, hb5⟩
      go_wp2_with fail
      refine (M1.out _).mono ?_; rintro e w6 ⟨rfl, hb6⟩
      go_wp2_with fail
      refine (M2.out _).mono ?_; rintro e w7 ⟨rfl, hb7⟩
      go_wp2
      go_ret
      exact ⟨rfl, bon (bon (bon (bon (bon (bon (bon (Below.refl _ _) hb1) hb2) hb3) hb4) hb5) hb6) hb7⟩

theorem fit_tel (n : Int) : fitB (tel n) = true := by
  unfold tel; split
  · assumption
  · decide
theorem ends_any (a b : Int) (w : World) (ha : fitB a = true) (hb : fitB b = true) :
    Calls Try.prog 9 #[.int .i64 a, .int .i64 b] w fun e w' => e = .returned (.bool true) ∧ Below w.heap.size w w' := by
  obtain ⟨a1, a2⟩ := (fitB_iff a).1 ha
  obtain ⟨b1, b2⟩ := (fitB_iff b).1 hb
  refine ends_core a b (IntKind.i64.wrap (a + b)) (tel (a + b)) (tel (a - b)) (tel (-b)) (tel (a + tel (-b))) (fitB (a + b)) (fitB (a - b)) (fitB (-b)) (fitB (a + tel (-b))) w
    (fun w => add_any a b w ha hb) (fun w => sub_any a b w ha hb) (fun w => neg_any b w hb) (fun w => add_any a _ w ha (fit_tel _)) ?_ ?_ rfl (by simp only [wrap64, IntKind.wrap_i64]) ?_ ?_
  · intro w
    have h := mul_any a 1 w ha (by decide)
    rw [Int.mul_one, ha, tel_fit ha] at h; exact h
  · intro w
    have h := mul_any b 0 w hb (by decide)
    rw [Int.mul_zero] at h; exact h
  · have hw := IntKind.wrap_i64 (a + b)
    cases hf : fitB (a + b)
    · rw [tel_not hf]
      rw [fitB_not] at hf
      generalize IntKind.i64.wrap (a + b) = c at *
      rcases hf with h | h
      · exact Or.inr (Or.inr (Or.inl ⟨by omega, by omega, by omega, rfl, rfl⟩))
      · exact Or.inr (Or.inl ⟨by omega, by omega, by omega, rfl, rfl⟩)
    · rw [tel_fit hf]
      rw [fitB_iff] at hf
      have e : IntKind.i64.wrap (a + b) = a + b := by rw [hw]; omega
      rw [e]
      by_cases h1 : 0 ≤ a <;> by_cases h2 : 0 ≤ b
      · exact Or.inl ⟨h1, h2, by omega, rfl, rfl⟩
      · exact Or.inr (Or.inr (Or.inr (Or.inr (Or.inl ⟨h1, by omega, rfl, rfl⟩))))
      · exact Or.inr (Or.inr (Or.inr (Or.inr (Or.inr ⟨by omega, h2, rfl, rfl⟩))))
      · exact Or.inr (Or.inr (Or.inr (Or.inl ⟨by omega, by omega, by omega, rfl, rfl⟩)))
  · cases hf : fitB (-b)
    · exact Or.inl rfl
    · exact Or.inr ⟨rfl, by rw [tel_fit hf]; rfl, by rw [tel_fit hf]; rfl⟩
end Go.Proofs.Ytfoohgfdkmgndaa
