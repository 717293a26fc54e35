/-
  What NumRounds does: it returns true, whatever the two numbers are.
-/
import Derived.Test.YtfoohgfdkmgndaaNumP
namespace Go.Proofs.Ytfoohgfdkmgndaa
open Go.RowKit Go.Shelf

/-- Cmp with a whole number on the left -/
theorem cmpW (n : Int) (r : Rat) (w : World) (hn : fitB n = true) (hr : rok r = true) :
    Calls Try.prog 38 #[.agg #[.int .i64 n, .int .i64 1], .agg #[.int .i64 r.num, .int .i64 (r.den : Int)]] w fun e w' => e = .returned (.int .i64 (cmpQ (n : Rat) r)) ∧ Below w.heap.size w w' :=
  cmpR (n : Rat) r w (by rw [rok_iff]; exact ⟨hn, (by decide : fitB 1 = true)⟩) hr

set_option maxHeartbeats 4000000 in
set_option maxRecDepth 100000 in
theorem rounds_none (p q : Int) (w : World)
    (M1 : Hid (∀ w, Calls Try.prog 26 #[.int .i64 p, .int .i64 q] w fun e w' => e = .returned (.tuple #[.agg #[.int .i64 0, .int .i64 0], .bool false]) ∧ Below w.heap.size w w')) :
    Calls Try.prog 6 #[.int .i64 p, .int .i64 q] w fun e w' => e = .returned (.bool true) ∧ Below w.heap.size w w' := by
  go_enter Try.func6, Try.ntmps6
  go_wp2_with fail
  refine (shown_any _).mono ?_; rintro e w1 ⟨rfl, hb1⟩
  go_wp2_with fail
  refine (M1.out _).mono ?_; rintro e w2 ⟨rfl, hb2⟩
  go_wp2
  go_ret
  exact ⟨rfl, bal (bon (bon (Below.refl _ _) hb1) hb2) _⟩

set_option maxHeartbeats 4000000 in
set_option maxRecDepth 100000 in
theorem rounds_core (p q P Q f c low high : Int) (w : World)
    (M1 : Hid (∀ w, Calls Try.prog 26 #[.int .i64 p, .int .i64 q] w fun e w' => e = .returned (.tuple #[.agg #[.int .i64 P, .int .i64 Q], .bool true]) ∧ Below w.heap.size w w'))
    (F1 : Hid (∀ w, Calls Try.prog 40 #[.agg #[.int .i64 P, .int .i64 Q]] w fun e w' => e = .returned (.int .i64 f) ∧ Below w.heap.size w w'))
    (C1 : Hid (∀ w, Calls Try.prog 41 #[.agg #[.int .i64 P, .int .i64 Q]] w fun e w' => e = .returned (.int .i64 c) ∧ Below w.heap.size w w'))
    (L1 : Hid (∀ w, Calls Try.prog 38 #[.agg #[.int .i64 f, .int .i64 1], .agg #[.int .i64 P, .int .i64 Q]] w fun e w' => e = .returned (.int .i64 low) ∧ Below w.heap.size w w'))
    (H1 : Hid (∀ w, Calls Try.prog 38 #[.agg #[.int .i64 c, .int .i64 1], .agg #[.int .i64 P, .int .i64 Q]] w fun e w' => e = .returned (.int .i64 high) ∧ Below w.heap.size w w'))
    (f1 : -9223372036854775808 ≤ f) (f2 : f ≤ 9223372036854775806 ∨ Q = 1)
    (hs : (Q = 1 ∧ f = P ∧ c = P ∧ low = 0 ∧ high = 0) ∨ ((Q == 1) = false ∧ c = f + 1 ∧ low = -1 ∧ high = 1)) :
    Calls Try.prog 6 #[.int .i64 p, .int .i64 q] w fun e w' => e = .returned (.bool true) ∧ Below w.heap.size w w' := by
  rcases hs with ⟨rfl, rfl, rfl, rfl, rfl⟩ | ⟨hq, rfl, rfl, rfl⟩
  · go_enter Try.func6, Try.ntmps6
    go_wp2_with fail
    refine (shown_any _).mono ?_; rintro e w1 ⟨rfl, hb1⟩
    go_wp2_with fail
    refine (M1.out _).mono ?_; rintro e w2 ⟨rfl, hb2⟩
    go_wp2_with fail
    refine (F1.out _).mono ?_; rintro e w3 ⟨rfl, hb3⟩
    obtain ⟨c0, c1, _, _⟩ := Two.later hb3 (two_alloc _ _ _ _)
    go_wp2_with fail
    refine (C1.out _).mono ?_; rintro e w4 ⟨rfl, hb4⟩
    obtain ⟨c0, c1, _, _⟩ := Two.later hb4 (Two.later hb3 (two_alloc _ _ _ _))
    go_wp2_with fail
    go_region_held2 (fun w' => w'.cell? ⟨w2.heap.size, 0, none⟩ = some (.int .i64 c) ∧ w'.cell? ⟨w2.heap.size, 1, none⟩ = some (.int .i64 1))
      (first | exact cells2_later (by assumption) (by assumption) | exact ⟨c0, c1⟩)
      (first
        | (go_at_call 28; refine (wholeR _ _).mono ?_; rintro e w5 ⟨rfl, hb5⟩)
        | (go_at_call 38; refine (L1.out _).mono ?_; rintro e w6 ⟨rfl, hb6⟩))
    rename_i hHeld
    go_wp2_with fail
    go_region_held2 (fun w' => w'.cell? ⟨w2.heap.size, 0, none⟩ = some (.int .i64 c) ∧ w'.cell? ⟨w2.heap.size, 1, none⟩ = some (.int .i64 1))
      (first | exact cells2_later (by assumption) (by assumption) | exact hHeld)
      (first
        | (go_at_call 28; refine (wholeR _ _).mono ?_; rintro e w7 ⟨rfl, hb7⟩)
        | (go_at_call 38; refine (H1.out _).mono ?_; rintro e w8 ⟨rfl, hb8⟩))
    rename_i hHeld2
    obtain ⟨c0, c1⟩ := hHeld2
    go_wp2
    go_ret
    exact ⟨rfl, bon (bon (bdrew (bon (bon (bdrew (bon (bon (bal (bon (bon (Below.refl _ _) hb1) hb2) _) hb3) hb4)) hb5) hb6)) hb7) hb8⟩
  · have hq' : ¬ Q = 1 := by simpa using hq
    have f3 : f ≤ 9223372036854775806 := by omega
    have fne : (f == f + 1) = false := beq_eq_false_iff_ne.2 (by omega)
    clear f2
    go_enter Try.func6, Try.ntmps6
    go_wp2_with fail
    refine (shown_any _).mono ?_; rintro e w1 ⟨rfl, hb1⟩
    go_wp2_with fail
    refine (M1.out _).mono ?_; rintro e w2 ⟨rfl, hb2⟩
    go_wp2_with fail
    refine (F1.out _).mono ?_; rintro e w3 ⟨rfl, hb3⟩
    obtain ⟨c0, c1, _, _⟩ := Two.later hb3 (two_alloc _ _ _ _)
    go_wp2_with fail
    refine (C1.out _).mono ?_; rintro e w4 ⟨rfl, hb4⟩
    obtain ⟨c0, c1, _, _⟩ := Two.later hb4 (Two.later hb3 (two_alloc _ _ _ _))
    go_wp2_with fail
    go_region_held2 (fun w' => w'.cell? ⟨w2.heap.size, 0, none⟩ = some (.int .i64 P) ∧ w'.cell? ⟨w2.heap.size, 1, none⟩ = some (.int .i64 Q))
      (first | exact cells2_later (by assumption) (by assumption) | exact ⟨c0, c1⟩)
      (first
        | (go_at_call 28; refine (wholeR _ _).mono ?_; rintro e w5 ⟨rfl, hb5⟩)
        | (go_at_call 38; refine (L1.out _).mono ?_; rintro e w6 ⟨rfl, hb6⟩))
    rename_i hHeld
    go_wp2_with fail
    go_region_held2 (fun w' => w'.cell? ⟨w2.heap.size, 0, none⟩ = some (.int .i64 P) ∧ w'.cell? ⟨w2.heap.size, 1, none⟩ = some (.int .i64 Q))
      (first | exact cells2_later (by assumption) (by assumption) | exact hHeld)
      (first
        | (go_at_call 28; refine (wholeR _ _).mono ?_; rintro e w7 ⟨rfl, hb7⟩)
        | (go_at_call 38; refine (H1.out _).mono ?_; rintro e w8 ⟨rfl, hb8⟩))
    rename_i hHeld2
    obtain ⟨c0, c1⟩ := hHeld2
    go_wp2
    go_ret
    exact ⟨rfl, bon (bon (bdrew (bon (bon (bdrew (bon (bon (bal (bon (bon (Below.refl _ _) hb1) hb2) _) hb3) hb4)) hb5) hb6)) hb7) hb8⟩

theorem cmpQ_eq (a : Rat) : cmpQ a a = 0 := by simp [cmpQ, Rat.lt_irrefl]
theorem floor_facts (r : Rat) (hr : rok r = true) : fitB (r.num / r.den) = true ∧ fitB (ceilI r.num r.den) = true ∧
    ((r.den : Int) = 1 → r.num / r.den = r.num ∧ ceilI r.num r.den = r.num ∧ ((r.num : Int) : Rat) = r) ∧
    (¬ (r.den : Int) = 1 → ceilI r.num r.den = r.num / r.den + 1 ∧ cmpQ ((r.num / r.den : Int) : Rat) r = -1 ∧ cmpQ ((r.num / r.den + 1 : Int) : Rat) r = 1) := by
  obtain ⟨f1, f2⟩ := (rok_iff r).1 hr
  have hd : (0 : Int) < r.den := by have := r.den_nz; omega
  refine ⟨floor_range hd f1, ceil_range hd f1, ?_, ?_⟩
  · intro h
    rw [h]
    refine ⟨Int.ediv_one _, by unfold ceilI; omega, ?_⟩
    exact num_den_ext rfl (by show 1 = r.den; omega)
  · intro h
    -- the denominator does not divide
    have hnd : ¬ (r.den : Int) ∣ r.num := by
      intro hdv
      have h1 : r.den ∣ r.num.natAbs := Int.ofNat_dvd_left.1 hdv
      have h2 := Nat.Coprime.eq_one_of_dvd (Nat.Coprime.symm r.reduced) h1
      omega
    have hm : 0 < r.num % r.den := by
      have h1 := Int.emod_nonneg r.num (b := r.den) (by omega)
      rcases Int.lt_or_eq_of_le h1 with h2 | h2
      · exact h2
      · exact absurd (Int.dvd_of_emod_eq_zero h2.symm) hnd
    have hlt := Int.emod_lt_of_pos r.num hd
    have he := Int.emod_add_mul_ediv r.num r.den
    have hc : -r.num / r.den = -(r.num / r.den) - 1 := by
      have e : -r.num = (r.den - r.num % r.den) + r.den * (-(r.num / r.den) - 1) := by rw [Int.mul_sub, Int.mul_neg]; omega
      rw [e, Int.add_mul_ediv_left _ _ (by omega), Int.ediv_eq_zero_of_lt (by omega) (by omega)]; omega
    refine ⟨by unfold ceilI; omega, ?_, ?_⟩
    · have : ((r.num / r.den : Int) : Rat) < r := by
        rw [Rat.lt_iff]
        show r.num / r.den * (r.den : Int) < r.num * 1
        rw [Int.mul_comm]; omega
      simp [cmpQ, this]
    · have h1 : ¬ ((r.num / r.den + 1 : Int) : Rat) < r := by
        rw [Rat.lt_iff]
        show ¬ (r.num / r.den + 1) * (r.den : Int) < r.num * 1
        rw [Int.add_mul, Int.mul_comm]; omega
      have h2 : ¬ ((r.num / r.den + 1 : Int) : Rat) = r := by
        rw [rat_eq_iff]
        show ¬ (r.num / r.den + 1) * (r.den : Int) = r.num * 1
        rw [Int.add_mul, Int.mul_comm]; omega
      unfold cmpQ; rw [if_neg h1, if_neg h2]
theorem rounds_any (p q : Int) (w : World) (hp : fitB p = true) (hq : fitB q = true) :
    Calls Try.prog 6 #[.int .i64 p, .int .i64 q] w fun e w' => e = .returned (.bool true) ∧ Below w.heap.size w w' := by
  have M1 := fun w => makeR p q w hp hq
  have hf := fits_make p q
  generalize makeO p q = o at *
  cases o with
  | none => exact rounds_none p q w M1
  | some r =>
    have hr := hf r rfl
    obtain ⟨n1, n2⟩ := (rok_iff r).1 hr
    have hd : (1 : Int) ≤ r.den := by have := r.den_nz; omega
    obtain ⟨g1, g2, g3, g4⟩ := floor_facts r hr
    refine rounds_core p q r.num r.den (r.num / r.den) (ceilI r.num r.den) (cmpQ ((r.num / r.den : Int) : Rat) r) (cmpQ ((ceilI r.num r.den : Int) : Rat) r) w M1
      (fun w => floorR _ _ w n1 hd n2) (fun w => ceilR _ _ w n1 hd n2) (fun w => cmpW _ r w g1 hr) (fun w => cmpW _ r w g2 hr) ((fitB_iff _).1 g1).1 ?_ ?_
    · by_cases h : (r.den : Int) = 1
      · exact Or.inr h
      · have := ((fitB_iff _).1 g2).2
        rw [(g4 h).1] at this
        exact Or.inl (by omega)
    · by_cases h : (r.den : Int) = 1
      · obtain ⟨k1, k2, k3⟩ := g3 h
        rw [k1, k2, k3]
        exact Or.inl ⟨h, rfl, rfl, cmpQ_eq r, cmpQ_eq r⟩
      · obtain ⟨k1, k2, k3⟩ := g4 h
        rw [k1]
        exact Or.inr ⟨by simpa using h, rfl, k2, k3⟩
end Go.Proofs.Ytfoohgfdkmgndaa
