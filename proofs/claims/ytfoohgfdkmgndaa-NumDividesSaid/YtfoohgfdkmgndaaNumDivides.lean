/-
  What NumDivides does: it returns true, whatever the two numbers are.
-/
import Derived.Test.YtfoohgfdkmgndaaNumP
namespace Go.Proofs.Ytfoohgfdkmgndaa
open Go.RowKit Go.Shelf

set_option maxHeartbeats 4000000 in
set_option maxRecDepth 100000 in
theorem div_short (a b g : Int) (ok : Bool) (w : World)
    (G1 : Hid (∀ w, Calls Try.prog 20 #[.int .i64 a, .int .i64 b] w fun e w' => e = .returned (.tuple #[.int .i64 g, .bool ok]) ∧ Below w.heap.size w w'))
    (G2 : Hid (∀ w, Calls Try.prog 20 #[.int .i64 b, .int .i64 a] w fun e w' => e = .returned (.tuple #[.int .i64 g, .bool ok]) ∧ Below w.heap.size w w'))
    (hs : g = 0 ∧ (ok = false ∨ (ok = true ∧ a = 0 ∧ b = 0))) :
    Calls Try.prog 10 #[.int .i64 a, .int .i64 b] w fun e w' => e = .returned (.bool true) ∧ Below w.heap.size w w' := by
  obtain ⟨rfl, hs⟩ := hs
  rcases hs with rfl | ⟨rfl, rfl, rfl⟩
  all_goals
    go_enter Try.func10, Try.ntmps10
    go_wp2_with fail
    refine (shown_any _).mono ?_; rintro e w1 ⟨rfl, hb1⟩
    go_wp2_with fail
    refine (G1.out _).mono ?_; rintro e w2 ⟨rfl, hb2⟩
    go_wp2_with fail
    refine (G2.out _).mono ?_; rintro e w3 ⟨rfl, hb3⟩
    go_wp2
    go_ret
    exact ⟨rfl, bon (bon (bon (Below.refl _ _) hb1) hb2) hb3⟩

set_option maxHeartbeats 4000000 in
set_option maxRecDepth 100000 in
theorem div_long (a b g x y d k : Int) (room same : Bool) (w : World)
    (G1 : Hid (∀ w, Calls Try.prog 20 #[.int .i64 a, .int .i64 b] w fun e w' => e = .returned (.tuple #[.int .i64 g, .bool true]) ∧ Below w.heap.size w w'))
    (G2 : Hid (∀ w, Calls Try.prog 20 #[.int .i64 b, .int .i64 a] w fun e w' => e = .returned (.tuple #[.int .i64 g, .bool true]) ∧ Below w.heap.size w w'))
    (G3 : Hid (∀ w, Calls Try.prog 20 #[.int .i64 x, .int .i64 y] w fun e w' => e = .returned (.tuple #[.int .i64 1, .bool true]) ∧ Below w.heap.size w w'))
    (S1 : Hid (∀ w, Calls Try.prog 17 #[.int .i64 a, .int .i64 b] w fun e w' => e = .returned (.tuple #[.int .i64 d, .bool room]) ∧ Below w.heap.size w w'))
    (G4 : Hid (∀ w, Calls Try.prog 20 #[.int .i64 d, .int .i64 b] w fun e w' => e = .returned (.tuple #[.int .i64 k, .bool same]) ∧ Below w.heap.size w w'))
    (hg : 1 ≤ g) (m1 : a.tmod g = 0) (m2 : b.tmod g = 0) (hx : a.tdiv g = x) (hy : b.tdiv g = y) (wx : IntKind.i64.wrap x = x) (wy : IntKind.i64.wrap y = y)
    (_a1 : -9223372036854775808 ≤ a) (_a2 : a ≤ 9223372036854775807) (_b1 : -9223372036854775808 ≤ b) (_b2 : b ≤ 9223372036854775807) (g2 : g ≤ 9223372036854775807)
    (hs : room = false ∨ (room = true ∧ same = true ∧ k = g)) :
    Calls Try.prog 10 #[.int .i64 a, .int .i64 b] w fun e w' => e = .returned (.bool true) ∧ Below w.heap.size w w' := by
  have gne : (g == 0) = false := beq_eq_false_iff_ne.2 (by omega)
  have gne' : ¬ g = 0 := by omega
  rcases hs with rfl | ⟨rfl, rfl, rfl⟩
  all_goals
    go_enter Try.func10, Try.ntmps10
    go_wp2_with fail
    refine (shown_any _).mono ?_; rintro e w1 ⟨rfl, hb1⟩
    go_wp2_with fail
    refine (G1.out _).mono ?_; rintro e w2 ⟨rfl, hb2⟩
    go_wp2_with fail
    refine (G2.out _).mono ?_; rintro e w3 ⟨rfl, hb3⟩
    go_wp2_with fail
    go_region_with (first | (go_at_call 20; refine (G3.out _).mono ?_; rintro e w4 ⟨rfl, hb4⟩))
    go_wp2_with fail
    refine (S1.out _).mono ?_; rintro e w5 ⟨rfl, hb5⟩
    go_wp2_with fail
    refine (G4.out _).mono ?_; rintro e w6 ⟨rfl, hb6⟩
    go_wp2
    go_ret
    exact ⟨rfl, bon (bon (bon (bdrew (bon (bon (bon (Below.refl _ _) hb1) hb2) hb3)) hb4) hb5) hb6⟩

theorem tdiv_fit {a g : Int} (ha : fitB a = true) (hg : 1 ≤ g) (hd : g ∣ a) : fitB (a.tdiv g) = true := by
  have e : a.tdiv g * g = a := Int.tdiv_mul_cancel hd
  rw [fitB_iff] at *
  generalize a.tdiv g = x at *
  constructor
  · rcases Int.lt_or_le x 0 with h | h
    · have := Int.mul_le_mul_of_nonpos_left (show x ≤ 0 by omega) (show 1 ≤ g by omega); omega
    · omega
  · rcases Int.lt_or_le 0 x with h | h
    · have := Int.mul_le_mul_of_nonneg_left (show 1 ≤ g by omega) (show 0 ≤ x by omega); omega
    · omega
theorem gcd_comm' (a b : Int) : gcdI a b = gcdI b a := by unfold gcdI; rw [Nat.gcd_comm]
theorem gcd_diff (a b : Int) : gcdI (a - b) b = gcdI a b := by
  show ((Int.gcd (a - b) b : Nat) : Int) = (Int.gcd a b : Nat)
  rw [Int.gcd_sub_self_left]
theorem gcd_parts (a b : Int) (h : 0 < gcdI a b) : gcdI (a.tdiv (gcdI a b)) (b.tdiv (gcdI a b)) = 1 := by
  have hp : 0 < Nat.gcd a.natAbs b.natAbs := by unfold gcdI at h; omega
  have h1 := Nat.coprime_div_gcd_div_gcd hp
  unfold gcdI
  rw [Int.natAbs_tdiv, Int.natAbs_tdiv, Int.natAbs_natCast]
  show ((Nat.gcd (a.natAbs / _) (b.natAbs / _) : Nat) : Int) = 1
  rw [h1]; rfl
theorem divides_any (a b : Int) (w : World) (ha : fitB a = true) (hb : fitB b = true) :
    Calls Try.prog 10 #[.int .i64 a, .int .i64 b] w fun e w' => e = .returned (.bool true) ∧ Below w.heap.size w w' := by
  obtain ⟨a1, a2⟩ := (fitB_iff a).1 ha
  obtain ⟨b1, b2⟩ := (fitB_iff b).1 hb
  have G1 := fun w => gcd_any a b w ha hb
  have G2 := fun w => gcd_any b a w hb ha
  rw [gcd_comm' b a] at G2
  cases hf : fitB (gcdI a b)
  · rw [tel_not hf, hf] at G1 G2
    exact div_short a b 0 false w G1 G2 ⟨rfl, Or.inl rfl⟩
  · rw [tel_fit hf, hf] at G1 G2
    by_cases hz : gcdI a b = 0
    · rw [hz] at G1 G2
      have h0 : Nat.gcd a.natAbs b.natAbs = 0 := by unfold gcdI at hz; omega
      rw [Nat.gcd_eq_zero_iff] at h0
      exact div_short a b 0 true w G1 G2 ⟨rfl, Or.inr ⟨rfl, by omega, by omega⟩⟩
    · have hp : 1 ≤ gcdI a b := by have := gcdI_nonneg a b; omega
      have d1 : gcdI a b ∣ a := Int.ofNat_dvd_left.2 (Nat.gcd_dvd_left _ _)
      have d2 : gcdI a b ∣ b := Int.ofNat_dvd_left.2 (Nat.gcd_dvd_right _ _)
      have f1 := tdiv_fit ha hp d1
      have f2 := tdiv_fit hb hp d2
      have wr : ∀ {x}, fitB x = true → IntKind.i64.wrap x = x := fun {x} h => by
        have := (fitB_iff x).1 h
        rw [IntKind.wrap_i64]; omega
      have fd : fitB (tel (a - b)) = true := by
        unfold tel; split
        · assumption
        · decide
      refine div_long a b (gcdI a b) _ _ (tel (a - b)) (tel (gcdI (tel (a - b)) b)) (fitB (a - b)) (fitB (gcdI (tel (a - b)) b)) w G1 G2 ?_ (fun w => sub_any a b w ha hb) (fun w => gcd_any _ b w fd hb) hp (Int.tmod_eq_zero_of_dvd d1) (Int.tmod_eq_zero_of_dvd d2) rfl rfl (wr f1) (wr f2) a1 a2 b1 b2 ((fitB_iff _).1 hf).2 ?_
      · intro w
        have h := gcd_any _ _ w f1 f2
        rw [gcd_parts a b (by omega)] at h
        exact h
      · cases hr : fitB (a - b)
        · exact Or.inl rfl
        · exact Or.inr ⟨rfl, by rw [tel_fit hr, gcd_diff]; exact hf, by rw [tel_fit hr, gcd_diff]; exact tel_fit hf⟩
end Go.Proofs.Ytfoohgfdkmgndaa
