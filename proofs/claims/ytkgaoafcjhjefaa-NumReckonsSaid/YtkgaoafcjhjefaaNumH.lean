/-
  The contracts of package num's 'lowest' and 'crossed'.
-/
import Derived.Test.YtkgaoafcjhjefaaNumG
namespace Go.Proofs.Ytkgaoafcjhjefaa
open Go.RowKit Go.Shelf

theorem size_p (a : Int) (w : World) (h : fitB a = true) (h0 : 0 ≤ a) :
    Calls Try.prog 54 #[.int .i64 a] w fun e w' => e = .returned (.int .u64 a) ∧ Below w.heap.size w w' := by
  have h1 := size_b a w h
  rw [szI_pos h0] at h1; exact h1
theorem over_far {Z e : Int} (b : Bool) (h0 : 0 ≤ Z) (h : Z < 340282366920938463463374607431768211456) (he : 0 < e) (hc : decide (hiW Z < e) = false) : fitB (sgnI b (Z / e)) = false := by
  simp at hc
  rw [hi_nat Z h0 h] at hc
  have h1 : 18446744073709551616 ≤ Z / e := by
    rw [Int.le_ediv_iff_mul_le he]; omega
  rw [fitB_not]; unfold sgnI; cases b <;> simp <;> omega
theorem over_near {Z e : Int} (h0 : 0 ≤ Z) (h : Z < 340282366920938463463374607431768211456) (he : 0 < e) (hc : decide (hiW Z < e) = true) : 0 ≤ Z / e ∧ Z / e < 18446744073709551616 := by
  simp at hc
  rw [hi_nat Z h0 h] at hc
  refine ⟨Int.ediv_nonneg h0 (by omega), ?_⟩
  rw [Int.ediv_lt_iff_lt_mul he]; omega
theorem mult_far {x : Int} (hc : decide (x < 18446744073709551616) = false) : fitB x = false := by
  simp at hc; rw [fitB_not]; omega

theorem mult_farS {x : Int} {b : Bool} (hc : decide (x < 18446744073709551616) = false) : fitB (sgnI b x) = false := by
  simp at hc; rw [fitB_not]; unfold sgnI; cases b <;> simp <;> omega
set_option maxHeartbeats 4000000 in
theorem lowest_any (T l r d e : Int) (w : World) (hT : Wide T) (hl : fitB l = true) (hr : fitB r = true) (hd : fitB d = true) (l1 : 1 ≤ l) (r1 : 1 ≤ r) (d1 : 1 ≤ d) (he : Hid (gcdI (szI T % d) d = e)) :
    Calls Try.prog 65 #[.agg #[.int .u64 (hiW T), .int .u64 (loW T)], .int .i64 l, .int .i64 r, .int .i64 d] w (Out (fitB (sgnI (negB T) (szI T / e)) && fitB (l * (r / e))) (.agg #[.int .i64 (sgnI (negB T) (szI T / e)), .int .i64 (l * (r / e))]) w) := by
  have z0 := szI_nonneg T
  have z1 : szI T < 340282366920938463463374607431768211456 := by unfold Wide at hT; unfold szI; omega
  have l0 : 0 ≤ l := by omega
  have r0 : 0 ≤ r := by omega
  have d0 : 0 ≤ d := by omega
  have dp : 0 < d := by omega
  have d2 : d < 18446744073709551616 := by have := ((fitB_iff d).1 hd).2; omega
  have l2 : l < 18446744073709551616 := by have := ((fitB_iff l).1 hl).2; omega
  have r2 : r < 18446744073709551616 := by have := ((fitB_iff r).1 hr).2; omega
  have m0 : 0 ≤ szI T % d := Int.emod_nonneg _ (by omega)
  have m1 : szI T % d < 18446744073709551616 := by have := Int.emod_lt_of_pos (szI T) dp; omega
  obtain ⟨g1, g2⟩ := gcd_fit d (szI T % d) d1 hd
  have gc : gcdI d (szI T % d) = e := by rw [← he.out]; unfold gcdI; rw [Nat.gcd_comm]
  rw [gc] at g1 g2
  have e2 : e < 18446744073709551616 := by have := ((fitB_iff _).1 g1).2; simp [sgnI] at this; omega
  have ep : 0 < e := by omega
  have ene : (e == 0) = false := beq_eq_false_iff_ne.2 (by omega)
  have q0 : 0 ≤ r / e := Int.ediv_nonneg r0 (by omega)
  have q1 : r / e < 18446744073709551616 := by have := Int.ediv_le_self e r0; omega
  have DV : Hid (∀ w, Calls Try.prog 53 #[.int .u64 (szI T % d), .int .u64 d] w fun en w' => en = .returned (.int .u64 e) ∧ Below w.heap.size w w') := by
    intro w
    have h := divisor_b (szI T % d) d w m0 m1 d0 d2
    rw [he.out] at h; exact h
  have ene' : ¬ e = 0 := by omega
  have hdv : r.tdiv e = r / e := Int.tdiv_eq_ediv_of_nonneg r0
  have hdw : IntKind.u64.wrap (r / e) = r / e := by rw [IntKind.wrap_u64]; omega
  clear gc g1
  go_enter Try.func65, Try.ntmps65
  go_wp2_with fail
  refine (wsize_any T _ hT).mono ?_; rintro e w1 ⟨rfl, hb1⟩
  unfold wv
  go_wp2_with fail
  refine (size_p d _ hd d0).mono ?_; rintro e w2 ⟨rfl, hb2⟩
  go_wp2_with fail
  refine (rest_any (szI T) d _ z0 z1 dp d2).mono ?_; rintro e w3 ⟨rfl, hb3⟩
  go_wp2_with fail
  refine (size_p d _ hd d0).mono ?_; rintro e w4 ⟨rfl, hb4⟩
  go_wp2_with fail
  refine (DV.out _).mono ?_; rintro e w5 ⟨rfl, hb5⟩
  obtain ⟨a0, a1, _, _⟩ := Two.later hb5 (Two.later hb4 (Two.later hb3 (Two.later hb2 (Two.later hb1 (b := w.heap.size) (x := .int .u64 (hiW T)) (y := .int .u64 (loW T)) (by simp [Two, go_sem])))))
  obtain ⟨c0, c1, f0, f1⟩ := Two.later hb5 (Two.later hb4 (Two.later hb3 (Two.later hb2 (Two.later hb1 (b := w.heap.size + 1) (x := .int .i64 0) (y := .int .i64 0) (by simp [Two, go_sem])))))
  go_wp2_with fail
  go_region_held2 (fun w' => w'.cell? ⟨w.heap.size, 0, none⟩ = some (.int .u64 (hiW T)) ∧ w'.cell? ⟨w.heap.size, 1, none⟩ = some (.int .u64 (loW T)))
    (first | exact cells2_later (by assumption) (by assumption) | exact ⟨a0, a1⟩ | (simp [go_sem, *]; done))
    (first
      | (go_at_call 72; refine (below_any T _ hT).mono ?_; rintro e w6 ⟨rfl, hb6⟩; obtain ⟨c0, c1, f0, f1⟩ := Two.later hb6 (b := w.heap.size + 1) (x := .int .i64 0) (y := .int .i64 0) ⟨c0, c1, f0, f1⟩)
      | (go_at_call 74; refine (wsize_any T _ hT).mono ?_; rintro e w7 ⟨rfl, hb7⟩; obtain ⟨c0, c1, f0, f1⟩ := Two.later hb7 (b := w.heap.size + 1) (x := .int .i64 0) (y := .int .i64 0) ⟨c0, c1, f0, f1⟩)
      | (go_at_call 75; refine (over_any (szI T) e _ z0 z1 e2).mono ?_; rintro e w8 (⟨hc, rfl, hb8⟩ | ⟨hc, ⟨v, rfl⟩, hb8⟩); rotate_left; exact ⟨rfl, Or.inr ⟨by simp [over_far (negB T) z0 z1 ep hc], ⟨v, rfl⟩, (by repeat (first | exact Below.refl _ _ | (refine bset ?_ (by simp <;> omega) _) | (refine bon ?_ (by assumption)) | refine bdrew ?_ | refine bal ?_ _))⟩⟩; obtain ⟨c0, c1, f0, f1⟩ := Two.later hb8 (b := w.heap.size + 1) (x := .int .i64 0) (y := .int .i64 0) ⟨c0, c1, f0, f1⟩)
      | (go_at_call_of 52 (negB T); refine (signed_any (negB T) (szI T / e) _ (over_near z0 z1 ep hc).1 (over_near z0 z1 ep hc).2).mono ?_; rintro e w9 (⟨hs, rfl, hb9⟩ | ⟨hs, ⟨v, rfl⟩, hb9⟩); rotate_left; exact ⟨rfl, Or.inr ⟨by simp [hs], ⟨v, rfl⟩, (by repeat (first | exact Below.refl _ _ | (refine bset ?_ (by simp <;> omega) _) | (refine bon ?_ (by assumption)) | refine bdrew ?_ | refine bal ?_ _))⟩⟩; obtain ⟨c0, c1, f0, f1⟩ := Two.later hb9 (b := w.heap.size + 1) (x := .int .i64 0) (y := .int .i64 0) ⟨c0, c1, f0, f1⟩)
      | (go_at_call_of 54 l; refine (size_p l _ hl l0).mono ?_; rintro e w10 ⟨rfl, hb10⟩; obtain ⟨c0, c1, f0, f1⟩ := Two.later hb10 (b := w.heap.size + 1) (x := .int .i64 0) (y := .int .i64 0) ⟨c0, c1, f0, f1⟩)
      | (go_at_call_of 54 r; refine (size_p r _ hr r0).mono ?_; rintro e w13 ⟨rfl, hb13⟩; obtain ⟨c0, c1, f0, f1⟩ := Two.later hb13 (b := w.heap.size + 1) (x := .int .i64 0) (y := .int .i64 0) ⟨c0, c1, f0, f1⟩)
      | (go_at_call 81; refine (multiple_any l (r / e) _ l0 l2 q0 q1).mono ?_; rintro e w11 (⟨hm, rfl, hb11⟩ | ⟨hm, ⟨v, rfl⟩, hb11⟩); rotate_left; exact ⟨rfl, Or.inr ⟨by simp [mult_far hm], ⟨v, rfl⟩, (by repeat (first | exact Below.refl _ _ | (refine bset ?_ (by simp <;> omega) _) | (refine bon ?_ (by assumption)) | refine bdrew ?_ | refine bal ?_ _))⟩⟩; obtain ⟨c0, c1, f0, f1⟩ := Two.later hb11 (b := w.heap.size + 1) (x := .int .i64 0) (y := .int .i64 0) ⟨c0, c1, f0, f1⟩)
      | (go_at_call_of 52 false; refine (signed_any false (l * (r / e)) _ (Int.mul_nonneg l0 q0) (by simpa using hm)).mono ?_; rintro e w12 (⟨hq, rfl, hb12⟩ | ⟨hq, ⟨v, rfl⟩, hb12⟩); rotate_left; exact ⟨rfl, Or.inr ⟨by simp [show fitB (l * (r / e)) = false from hq], ⟨v, rfl⟩, (by repeat (first | exact Below.refl _ _ | (refine bset ?_ (by simp <;> omega) _) | (refine bon ?_ (by assumption)) | refine bdrew ?_ | refine bal ?_ _))⟩⟩; obtain ⟨c0, c1, f0, f1⟩ := Two.later hb12 (b := w.heap.size + 1) (x := .int .i64 0) (y := .int .i64 0) ⟨c0, c1, f0, f1⟩))
  go_wp2
  exact bodyPost_ret (v := .agg #[.int .i64 (sgnI (negB T) (szI T / e)), .int .i64 (l * (r / e))]) (by simp [results, Try.results65, go_sem, c0, c1]; rfl) rfl (Or.inl ⟨by simp [hs, show fitB (l * (r / e)) = true from hq], rfl, (by repeat (first | exact Below.refl _ _ | (refine bset ?_ (by simp <;> omega) _) | (refine bon ?_ (by assumption)) | refine bdrew ?_ | refine bal ?_ _))⟩)

theorem div_small {p d : Int} (p0 : 0 ≤ p) (p1 : p < 18446744073709551616) (dp : 0 < d) : p.tdiv d = p / d ∧ IntKind.u64.wrap (p / d) = p / d ∧ 0 ≤ p / d ∧ p / d < 18446744073709551616 := by
  have q0 : 0 ≤ p / d := Int.ediv_nonneg p0 (by omega)
  have q1 : p / d < 18446744073709551616 := by have := Int.ediv_le_self d p0; omega
  exact ⟨Int.tdiv_eq_ediv_of_nonneg p0, by rw [IntKind.wrap_u64]; omega, q0, q1⟩

set_option maxHeartbeats 4000000 in
theorem crossed_any (b1 b2 : Bool) (p1 q1 p2 q2 d e : Int) (w : World) (p10 : 0 ≤ p1) (p11 : p1 < 18446744073709551616) (q10 : 0 ≤ q1) (q11 : q1 < 18446744073709551616) (p20 : 0 ≤ p2) (p21 : p2 < 18446744073709551616) (q20 : 0 ≤ q2) (q21 : q2 < 18446744073709551616)
    (hd : Hid (gcdI p1 q2 = d)) (he : Hid (gcdI p2 q1 = e)) (dp : 0 < d) (ep : 0 < e) :
    Calls Try.prog 68 #[.agg #[.bool b1, .int .u64 p1, .int .u64 q1], .agg #[.bool b2, .int .u64 p2, .int .u64 q2]] w (Out (fitB (sgnI (!(b1 == b2)) (p1 / d * (p2 / e))) && fitB (q1 / e * (q2 / d))) (.agg #[.int .i64 (sgnI (!(b1 == b2)) (p1 / d * (p2 / e))), .int .i64 (q1 / e * (q2 / d))]) w) := by
  obtain ⟨k1, k2, k3, k4⟩ := div_small p10 p11 dp
  obtain ⟨k5, k6, k7, k8⟩ := div_small p20 p21 ep
  obtain ⟨k9, k10, k11, k12⟩ := div_small q10 q11 ep
  obtain ⟨k13, k14, k15, k16⟩ := div_small q20 q21 dp
  have dne : (d == 0) = false := beq_eq_false_iff_ne.2 (by omega)
  have ene : (e == 0) = false := beq_eq_false_iff_ne.2 (by omega)
  have dne' : ¬ d = 0 := by omega
  have ene' : ¬ e = 0 := by omega
  have D1 : Hid (∀ w, Calls Try.prog 53 #[.int .u64 p1, .int .u64 q2] w fun en w' => en = .returned (.int .u64 d) ∧ Below w.heap.size w w') := by
    intro w
    have h := divisor_b p1 q2 w p10 p11 q20 q21
    rw [hd.out] at h; exact h
  have D2 : Hid (∀ w, Calls Try.prog 53 #[.int .u64 p2, .int .u64 q1] w fun en w' => en = .returned (.int .u64 e) ∧ Below w.heap.size w w') := by
    intro w
    have h := divisor_b p2 q1 w p20 p21 q10 q11
    rw [he.out] at h; exact h
  go_enter Try.func68, Try.ntmps68
  go_wp2
  go_region_held2 (fun w' => w'.cell? ⟨w.heap.size, 0, none⟩ = some (.bool b1) ∧ w'.cell? ⟨w.heap.size, 1, none⟩ = some (.int .u64 p1) ∧ w'.cell? ⟨w.heap.size, 2, none⟩ = some (.int .u64 q1) ∧ w'.cell? ⟨w.heap.size + 1, 0, none⟩ = some (.bool b2) ∧ w'.cell? ⟨w.heap.size + 1, 1, none⟩ = some (.int .u64 p2) ∧ w'.cell? ⟨w.heap.size + 1, 2, none⟩ = some (.int .u64 q2))
    (first | exact cells6_later (by assumption) (by assumption) | (simp [go_sem]; done) | (simp [go_sem, *]; done))
    (first
      | (go_at_call_of 53 p1; refine (D1.out _).mono ?_; rintro e w1 ⟨rfl, hb1⟩; obtain ⟨c0, c1, f0, f1⟩ := Two.later hb1 (b := w.heap.size + 2) (x := .int .i64 0) (y := .int .i64 0) (by simp [Two, go_sem]))
      | (go_at_call_of 53 p2; refine (D2.out _).mono ?_; rintro e w2 ⟨rfl, hb2⟩; obtain ⟨c0, c1, f0, f1⟩ := Two.later hb2 (b := w.heap.size + 2) (x := .int .i64 0) (y := .int .i64 0) ⟨c0, c1, f0, f1⟩))
  rename_i hHeld
  go_wp2
  go_region_held2 (fun w' => w'.cell? ⟨w.heap.size, 0, none⟩ = some (.bool b1) ∧ w'.cell? ⟨w.heap.size, 1, none⟩ = some (.int .u64 p1) ∧ w'.cell? ⟨w.heap.size, 2, none⟩ = some (.int .u64 q1) ∧ w'.cell? ⟨w.heap.size + 1, 0, none⟩ = some (.bool b2) ∧ w'.cell? ⟨w.heap.size + 1, 1, none⟩ = some (.int .u64 p2) ∧ w'.cell? ⟨w.heap.size + 1, 2, none⟩ = some (.int .u64 q2))
    (first | exact cells6_later (by assumption) (by assumption) | exact hHeld | (simp [go_sem, *]; done))
    (first
      | (go_at_call_of 81 (p1 / d); refine (multiple_any (p1 / d) (p2 / e) _ k3 k4 k7 k8).mono ?_; rintro e w3 (⟨hc, rfl, hb3⟩ | ⟨hc, ⟨v, rfl⟩, hb3⟩); rotate_left; exact ⟨rfl, Or.inr ⟨by simp [mult_farS hc], ⟨v, rfl⟩, (by repeat (first | exact Below.refl _ _ | (refine bset ?_ (by simp <;> omega) _) | (refine bon ?_ (by assumption)) | refine bdrew ?_ | refine bal ?_ _))⟩⟩; obtain ⟨c0, c1, f0, f1⟩ := Two.later hb3 (b := w.heap.size + 2) (x := .int .i64 0) (y := .int .i64 0) ⟨c0, c1, f0, f1⟩)
      | (go_at_call_of 81 (q1 / e); refine (multiple_any (q1 / e) (q2 / d) _ k11 k12 k15 k16).mono ?_; rintro e w4 (⟨hm, rfl, hb4⟩ | ⟨hm, ⟨v, rfl⟩, hb4⟩); rotate_left; exact ⟨rfl, Or.inr ⟨by simp [mult_far hm], ⟨v, rfl⟩, (by repeat (first | exact Below.refl _ _ | (refine bset ?_ (by simp <;> omega) _) | (refine bon ?_ (by assumption)) | refine bdrew ?_ | refine bal ?_ _))⟩⟩; obtain ⟨c0, c1, f0, f1⟩ := Two.later hb4 (b := w.heap.size + 2) (x := .int .i64 0) (y := .int .i64 0) ⟨c0, c1, f0, f1⟩)
      | (go_at_call_of 52 (p1 / d * (p2 / e)); refine (signed_any _ (p1 / d * (p2 / e)) _ (Int.mul_nonneg k3 k7) (by simpa using hc)).mono ?_; rintro e w5 (⟨hs, rfl, hb5⟩ | ⟨hs, ⟨v, rfl⟩, hb5⟩); rotate_left; exact ⟨rfl, Or.inr ⟨by simp [hs], ⟨v, rfl⟩, (by repeat (first | exact Below.refl _ _ | (refine bset ?_ (by simp <;> omega) _) | (refine bon ?_ (by assumption)) | refine bdrew ?_ | refine bal ?_ _))⟩⟩; obtain ⟨c0, c1, f0, f1⟩ := Two.later hb5 (b := w.heap.size + 2) (x := .int .i64 0) (y := .int .i64 0) ⟨c0, c1, f0, f1⟩)
      | (go_at_call_of 52 (q1 / e * (q2 / d)); refine (signed_any false (q1 / e * (q2 / d)) _ (Int.mul_nonneg k11 k15) (by simpa using hm)).mono ?_; rintro e w6 (⟨hq, rfl, hb6⟩ | ⟨hq, ⟨v, rfl⟩, hb6⟩); rotate_left; exact ⟨rfl, Or.inr ⟨by simp [show fitB (q1 / e * (q2 / d)) = false from hq], ⟨v, rfl⟩, (by repeat (first | exact Below.refl _ _ | (refine bset ?_ (by simp <;> omega) _) | (refine bon ?_ (by assumption)) | refine bdrew ?_ | refine bal ?_ _))⟩⟩; obtain ⟨c0, c1, f0, f1⟩ := Two.later hb6 (b := w.heap.size + 2) (x := .int .i64 0) (y := .int .i64 0) ⟨c0, c1, f0, f1⟩))
  go_wp2
  exact bodyPost_ret (v := .agg #[.int .i64 (sgnI (!(b1 == b2)) (p1 / d * (p2 / e))), .int .i64 (q1 / e * (q2 / d))]) (by simp [results, Try.results68, go_sem, c0, c1]; rfl) rfl (Or.inl ⟨by simp [hs, show fitB (q1 / e * (q2 / d)) = true from hq], rfl, (by repeat (first | exact Below.refl _ _ | (refine bset ?_ (by simp <;> omega) _) | (refine bon ?_ (by assumption)) | refine bdrew ?_ | refine bal ?_ _))⟩)
end Go.Proofs.Ytkgaoafcjhjefaa
