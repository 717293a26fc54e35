/-
  math/bits.Div64, Rem64: what they answer; and the division of numbers of 128 bits.
-/
import Derived.Test.YtkgaoafcjhjefaaNumE
import Derived.Deep.CutBlock
import Derived.Deep.DeepCutAuto
import Derived.Deep.LoopGhost
namespace Go.Proofs.Ytkgaoafcjhjefaa
open Go.RowKit Go.Shelf

set_option maxHeartbeats 4000000 in
set_option maxRecDepth 100000 in
theorem div64_core (hi lo y Y y1 y0 u L v1 v0 ra q1 R1 rb q0 A B : Int) (s : Nat) (w : World) (h0 : 0 < hi) (h1 : hi < y) (_h2 : y < 18446744073709551616) (_h3 : 0 ≤ lo) (_h4 : lo < 18446744073709551616) (hs : s ≤ 63)
    (C : Hid (∀ w, Calls Try.prog 84 #[.int .u64 y] w fun e w' => e = .returned (.int .i64 (s : Nat)) ∧ w = w'))
    (r1 : IntKind.u64.wrap (y * 2 ^ s) = Y) (r2 : Y / 4294967296 = y1) (r3 : bits .and .u64 Y 4294967295 = y0)
    (r4 : bits .or .u64 (IntKind.u64.wrap (hi * 2 ^ s)) (lo / 2 ^ (64 - s)) = u)
    (r5 : IntKind.u64.wrap (lo * 2 ^ s) = L) (r6 : L / 4294967296 = v1) (r7 : bits .and .u64 L 4294967295 = v0)
    (r9 : IntKind.u64.wrap (u - IntKind.u64.wrap (u / y1 * y1)) = ra)
    (r10 : IntKind.u64.wrap (IntKind.u64.wrap (IntKind.u64.wrap (u * 4294967296) + v1) - IntKind.u64.wrap (q1 * Y)) = R1)
    (r12 : IntKind.u64.wrap (R1 - IntKind.u64.wrap (R1 / y1 * y1)) = rb)
    (r13 : IntKind.u64.wrap (IntKind.u64.wrap (q1 * 4294967296) + q0) = A)
    (r14 : IntKind.u64.wrap (IntKind.u64.wrap (IntKind.u64.wrap (R1 * 4294967296) + v0) - IntKind.u64.wrap (q0 * Y)) / 2 ^ s = B)
    (hY : Hid (Y = y1 * 4294967296 + y0)) (hy1 : 2147483648 ≤ y1) (hy1' : y1 < 4294967296) (hy0 : 0 ≤ y0) (hy0' : y0 < 4294967296)
    (hu : 0 ≤ u) (hu2 : Hid (u < Y)) (hu3 : u < 18446744073709551616) (hv1 : 0 ≤ v1) (hv1' : v1 < 4294967296) (hv0 : 0 ≤ v0) (hv0' : v0 < 4294967296) (_hL : 0 ≤ L) (_hYp : 0 ≤ Y)
    (hq1 : Hid (q1 = (u * 4294967296 + v1) / Y)) (hR : 0 ≤ R1) (hR3 : R1 < 18446744073709551616) (hR2 : Hid (R1 < Y)) (hq0 : Hid (q0 = (R1 * 4294967296 + v0) / Y))
    (hqa : Hid (ra = u - u / y1 * y1 ∧ 0 ≤ ra ∧ ra < y1 ∧ 0 ≤ u / y1 ∧ u / y1 ≤ 8589934592))
    (hqb : Hid (rb = R1 - R1 / y1 * y1 ∧ 0 ≤ rb ∧ rb < y1 ∧ 0 ≤ R1 / y1 ∧ R1 / y1 ≤ 8589934592)) :
    Calls Try.prog 82 #[.int .u64 hi, .int .u64 lo, .int .u64 y] w fun e w' => e = .returned (.tuple #[.int .u64 A, .int .u64 B]) ∧ w = w' := by
  have hne : (y1 == 0) = false := beq_eq_false_iff_ne.2 (by omega)
  go_enter Try.func82, Try.ntmps82
  go_wp2_with fail
  refine (C.out _).mono ?_
  rintro e w1 ⟨rfl, rfl⟩
  go_upto_block 0 with fail
  go_cut [15] from 16 to 85 (fun a w' => a = .int .u64 q1 ∧ w = w')
  case first =>
    clear r1 r2 r3 r4 r5 r6 r7 r9 r10 r12 r13 r14
    go_wp2_with fail
    go_loop [15, 16] (fun a b => ∃ q r : Int, a = .int .u64 q ∧ b = .int .u64 r ∧ 0 ≤ q ∧ q ≤ 8589934592 ∧ 0 ≤ r ∧ r < 4294967296 ∧ Hid (r = u - q * y1) ∧ Hid (q1 ≤ q)) (fun a _ => (intOf a).toNat)
    case atStart =>
      obtain ⟨d2, d3, d4, d5, d6⟩ := hqa.out
      exact ⟨_, _, rfl, rfl, d5, d6, d3, by omega, d2, by show q1 ≤ _; rw [hq1.out, hY.out]; exact first_le _ _ _ _ hy1 hy0 (by assumption) (by assumption) (by assumption)⟩
    case round =>
      obtain ⟨q, r, rfl, rfl, hq, hq', hr, hr', E1, E2⟩ := hrel
      by_cases hA : 4294967296 ≤ q
      · have E3 : Hid (q1 ≤ q - 1) := by show q1 ≤ q - 1; rw [hq1.out, hY.out]; exact too_large2 _ _ _ _ _ (by omega) (by rw [← hY.out]; exact hu2.out) (by assumption) hA
        have E4 : Hid (r + y1 = u - (q - 1) * y1) := by show r + y1 = u - (q - 1) * y1; rw [E1.out, Int.sub_mul]; omega
        by_cases hB : 4294967296 ≤ r + y1
        · go_wp2_with fail
          go_meet
          exact ⟨by rw [just2 u v1 y1 y0 (q - 1) (r + y1) hy1 (by rw [← hY.out]; exact hu2.out) hy0 hy0' hv1 E4.out (by omega) (by rw [← hY.out, ← hq1.out]; exact E3.out) hB, ← hY.out, ← hq1.out], rfl⟩
        · go_wp2_with fail
          go_round
          case rel => exact ⟨q - 1, r + y1, rfl, rfl, by omega, by omega, by omega, by omega, E4, E3⟩
          case measure => simp [intOf]; omega
      · obtain ⟨m1, m2⟩ := small_mul q y0 hq (by omega) hy0 hy0'
        by_cases hT : 4294967296 * r + v1 < q * y0
        · have E3 : Hid (q1 ≤ q - 1) := by show q1 ≤ q - 1; rw [hq1.out, hY.out]; exact too_large _ _ _ _ _ _ hy1 hy0 E1.out hT
          have E4 : Hid (r + y1 = u - (q - 1) * y1) := by show r + y1 = u - (q - 1) * y1; rw [E1.out, Int.sub_mul]; omega
          have hpos : 1 ≤ q := by
            rcases Int.lt_or_le 0 q with h | h
            · omega
            · have : q = 0 := by omega
              rw [this] at hT; omega
          by_cases hB : 4294967296 ≤ r + y1
          · go_wp2_with fail
            go_meet
            exact ⟨by rw [just2 u v1 y1 y0 (q - 1) (r + y1) hy1 (by rw [← hY.out]; exact hu2.out) hy0 hy0' hv1 E4.out (by omega) (by rw [← hY.out, ← hq1.out]; exact E3.out) hB, ← hY.out, ← hq1.out], rfl⟩
          · go_wp2_with fail
            go_round
            case rel => exact ⟨q - 1, r + y1, rfl, rfl, by omega, by omega, by omega, by omega, E4, E3⟩
            case measure => simp [intOf]; omega
        · have E3 : Hid (q = q1) := by show q = q1; rw [hq1.out, hY.out]; exact just _ _ _ _ _ _ (by omega) E1.out (by rw [← hY.out, ← hq1.out]; exact E2.out) hT
          go_wp2_with fail
          go_meet
          exact ⟨by rw [E3.out], rfl⟩
  case' rest => obtain ⟨rfl, rfl⟩ := hcut
  go_upto_block 2 with fail
  go_cut [17, 18] from 16 to 120 (fun c a w' => c = .int .u64 R1 ∧ a = .int .u64 q0 ∧ w = w')
  case first =>
    clear r1 r2 r3 r4 r5 r6 r7 r9 r10 r12 r13 r14
    go_wp2_with fail
    go_loop [18, 16] (fun a b => ∃ q r : Int, a = .int .u64 q ∧ b = .int .u64 r ∧ 0 ≤ q ∧ q ≤ 8589934592 ∧ 0 ≤ r ∧ r < 4294967296 ∧ Hid (r = R1 - q * y1) ∧ Hid (q0 ≤ q)) (fun a _ => (intOf a).toNat)
    case atStart =>
      obtain ⟨d2, d3, d4, d5, d6⟩ := hqb.out
      exact ⟨_, _, rfl, rfl, d5, d6, d3, by omega, d2, by show q0 ≤ _; rw [hq0.out, hY.out]; exact first_le _ _ _ _ hy1 hy0 (by assumption) (by assumption) (by assumption)⟩
    case round =>
      obtain ⟨q, r, rfl, rfl, hq, hq', hr, hr', E1, E2⟩ := hrel
      by_cases hA : 4294967296 ≤ q
      · have E3 : Hid (q0 ≤ q - 1) := by show q0 ≤ q - 1; rw [hq0.out, hY.out]; exact too_large2 _ _ _ _ _ (by omega) (by rw [← hY.out]; exact hR2.out) (by assumption) hA
        have E4 : Hid (r + y1 = R1 - (q - 1) * y1) := by show r + y1 = R1 - (q - 1) * y1; rw [E1.out, Int.sub_mul]; omega
        by_cases hB : 4294967296 ≤ r + y1
        · go_wp2_with fail
          go_meet
          exact ⟨rfl, by rw [just2 R1 v0 y1 y0 (q - 1) (r + y1) hy1 (by rw [← hY.out]; exact hR2.out) hy0 hy0' hv0 E4.out (by omega) (by rw [← hY.out, ← hq0.out]; exact E3.out) hB, ← hY.out, ← hq0.out], rfl⟩
        · go_wp2_with fail
          go_round
          case rel => exact ⟨q - 1, r + y1, rfl, rfl, by omega, by omega, by omega, by omega, E4, E3⟩
          case measure => simp [intOf]; omega
      · obtain ⟨m1, m2⟩ := small_mul q y0 hq (by omega) hy0 hy0'
        by_cases hT : 4294967296 * r + v0 < q * y0
        · have E3 : Hid (q0 ≤ q - 1) := by show q0 ≤ q - 1; rw [hq0.out, hY.out]; exact too_large _ _ _ _ _ _ hy1 hy0 E1.out hT
          have E4 : Hid (r + y1 = R1 - (q - 1) * y1) := by show r + y1 = R1 - (q - 1) * y1; rw [E1.out, Int.sub_mul]; omega
          have hpos : 1 ≤ q := by
            rcases Int.lt_or_le 0 q with h | h
            · omega
            · have : q = 0 := by omega
              rw [this] at hT; omega
          by_cases hB : 4294967296 ≤ r + y1
          · go_wp2_with fail
            go_meet
            exact ⟨rfl, by rw [just2 R1 v0 y1 y0 (q - 1) (r + y1) hy1 (by rw [← hY.out]; exact hR2.out) hy0 hy0' hv0 E4.out (by omega) (by rw [← hY.out, ← hq0.out]; exact E3.out) hB, ← hY.out, ← hq0.out], rfl⟩
          · go_wp2_with fail
            go_round
            case rel => exact ⟨q - 1, r + y1, rfl, rfl, by omega, by omega, by omega, by omega, E4, E3⟩
            case measure => simp [intOf]; omega
        · have E3 : Hid (q = q0) := by show q = q0; rw [hq0.out, hY.out]; exact just _ _ _ _ _ _ (by omega) E1.out (by rw [← hY.out, ← hq0.out]; exact E2.out) hT
          go_wp2_with fail
          go_meet
          exact ⟨rfl, by rw [E3.out], rfl⟩
  case' rest => obtain ⟨rfl, rfl, rfl⟩ := hcut
  go_wp2_with fail
  go_ret2
  exact ⟨rfl, rfl⟩

theorem or_shift (hi lo y : Int) (s : Nat) (hs : s ≤ 63) (h0 : 0 ≤ hi) (h1 : hi < y) (h3 : 0 ≤ lo) (h4 : lo < 18446744073709551616) (hY : y * 2 ^ s < 18446744073709551616) :
    bits .or .u64 (IntKind.u64.wrap (hi * 2 ^ s)) (lo / 2 ^ (64 - s)) = (hi * 18446744073709551616 + lo) * 2 ^ s / 18446744073709551616 := by
  have hp : (0 : Int) < 2 ^ s := Int.pow_pos (by omega)
  have hh : hi * 2 ^ s < 18446744073709551616 := Int.lt_trans (Int.mul_lt_mul_of_pos_right h1 hp) hY
  have hh0 : 0 ≤ hi * 2 ^ s := Int.mul_nonneg h0 (by omega)
  have e64 : (18446744073709551616 : Int) = 2 ^ (64 - s) * 2 ^ s := by rw [← Int.pow_add, show 64 - s + s = 64 by omega]; rfl
  have hq : (0 : Int) < 2 ^ (64 - s) := Int.pow_pos (by omega)
  have e1 : (hi * 18446744073709551616 + lo) * 2 ^ s / 18446744073709551616 = hi * 2 ^ s + lo / 2 ^ (64 - s) := by
    rw [Int.add_mul, show hi * 18446744073709551616 * 2 ^ s = 18446744073709551616 * (hi * 2 ^ s) by grind, Int.mul_add_ediv_left _ _ (by omega)]
    congr 1
    rw [e64, Int.mul_ediv_mul_of_pos_left _ _ hp]
  rw [e1, IntKind.wrap_u64, Int.emod_eq_of_lt hh0 hh]
  have hl0 : 0 ≤ lo / 2 ^ (64 - s) := Int.ediv_nonneg h3 (by omega)
  have hl : lo / 2 ^ (64 - s) < 2 ^ s := by
    rw [Int.ediv_lt_iff_lt_mul hq, Int.mul_comm, ← e64]; exact h4
  obtain ⟨H, hH⟩ := Int.eq_ofNat_of_zero_le h0
  obtain ⟨l, hl'⟩ := Int.eq_ofNat_of_zero_le hl0
  rw [hl'] at hl ⊢
  have hcast : hi * 2 ^ s = ((2 ^ s * H : Nat) : Int) := by rw [hH]; push_cast; exact Int.mul_comm _ _
  have hpow : ((2 ^ s : Nat) : Int) = 2 ^ s := by push_cast; rfl
  have hl2 : l < 2 ^ s := by omega
  have hlim : l < 18446744073709551616 := by
    have : (2 : Nat) ^ s ≤ 2 ^ 64 := Nat.pow_le_pow_right (by omega) (by omega)
    omega
  rw [hcast] at hh ⊢
  rw [bits_or_u64_nat _ _ (by omega) hlim, ← Nat.two_pow_add_eq_or_of_lt hl2]
  push_cast; rfl

theorem div64_any (hi lo y : Int) (w : World) (h0 : 0 ≤ hi) (h1 : hi < y) (h2 : y < 18446744073709551616) (h3 : 0 ≤ lo) (h4 : lo < 18446744073709551616) :
    Calls Try.prog 82 #[.int .u64 hi, .int .u64 lo, .int .u64 y] w fun e w' => e = .returned (.tuple #[.int .u64 ((hi * 18446744073709551616 + lo) / y), .int .u64 ((hi * 18446744073709551616 + lo) % y)]) ∧ Below w.heap.size w w' := by
  by_cases hz : hi = 0
  · subst hz
    refine (div64_low lo y w h3 h4 (by omega) h2).mono ?_
    rintro e w' ⟨rfl, n, rfl⟩
    refine ⟨?_, below_drewN (Below.refl _ _) n⟩
    simp
  · obtain ⟨z1, z2, z3⟩ := lz_spec y (by omega) h2
    have C : Hid (∀ w, Calls Try.prog 84 #[.int .u64 y] w fun e w' => e = .returned (.int .i64 (lzN y : Nat)) ∧ w = w') := fun w => lz64_any y w (by omega) h2
    have ro := or_shift hi lo y (lzN y) z1 h0 h1 h3 h4 z3
    have hp : (0 : Int) < 2 ^ (lzN y) := Int.pow_pos (by omega)
    obtain ⟨us1, us2⟩ := unshift (hi * 18446744073709551616 + lo) y (lzN y)
    have hlt : (hi * 18446744073709551616 + lo) * 2 ^ (lzN y) < y * 2 ^ (lzN y) * 18446744073709551616 := by
      have : (hi * 18446744073709551616 + lo) < y * 18446744073709551616 := by omega
      have := Int.mul_lt_mul_of_pos_right this hp
      rw [Int.mul_right_comm] at this
      exact this
    have hnn : 0 ≤ (hi * 18446744073709551616 + lo) * 2 ^ (lzN y) := Int.mul_nonneg (by omega) (by omega)
    have hL : (lo * 2 ^ (lzN y)) % 18446744073709551616 = (hi * 18446744073709551616 + lo) * 2 ^ (lzN y) % 18446744073709551616 := by
      rw [Int.add_mul, show hi * 18446744073709551616 * 2 ^ (lzN y) = 18446744073709551616 * (hi * 2 ^ (lzN y)) by grind, Int.mul_add_emod_self_left]
    have rw5 : IntKind.u64.wrap (lo * 2 ^ lzN y) = (hi * 18446744073709551616 + lo) * 2 ^ (lzN y) % 18446744073709551616 := by rw [IntKind.wrap_u64, hL]
    have rw1 : IntKind.u64.wrap (y * 2 ^ lzN y) = y * 2 ^ lzN y := by rw [IntKind.wrap_u64]; omega
    rw [← us1, ← us2]
    generalize hY : y * 2 ^ lzN y = Y at *
    generalize hU : (hi * 18446744073709551616 + lo) * 2 ^ lzN y = U at *
    clear us1 us2 hL
    -- the digits
    have hYp : 0 < Y := by omega
    have hu0 : 0 ≤ U / 18446744073709551616 := by omega
    have huY : U / 18446744073709551616 < Y := by omega
    have eU : U = (U / 18446744073709551616 * 4294967296 + U % 18446744073709551616 / 4294967296) * 4294967296 + U % 18446744073709551616 % 4294967296 := by omega
    obtain ⟨t1, t2⟩ := two_digits (U / 18446744073709551616) (U % 18446744073709551616 / 4294967296) (U % 18446744073709551616 % 4294967296) Y hYp
    rw [← eU] at t1 t2
    generalize hu : U / 18446744073709551616 = u at *
    have hv1 : 0 ≤ U % 18446744073709551616 / 4294967296 ∧ U % 18446744073709551616 / 4294967296 < 4294967296 := by omega
    have hv0 : 0 ≤ U % 18446744073709551616 % 4294967296 ∧ U % 18446744073709551616 % 4294967296 < 4294967296 := by omega
    generalize hL : U % 18446744073709551616 = L at *
    generalize hV1 : L / 4294967296 = v1 at *
    generalize hV0 : L % 4294967296 = v0 at *
    have hYY : Y = Y / 4294967296 * 4294967296 + Y % 4294967296 := by omega
    have hR0 : 0 ≤ (u * 4294967296 + v1) % Y := Int.emod_nonneg _ (by omega)
    have hR1 : (u * 4294967296 + v1) % Y < Y := Int.emod_lt_of_pos _ hYp
    have m1 := rest_mod (u * 4294967296 + v1) Y hYp (by omega)
    have m2 := rest_mod ((u * 4294967296 + v1) % Y * 4294967296 + v0) Y hYp (by omega)
    have qd1 : (u * 4294967296 + v1) / Y < 4294967296 := by rw [Int.ediv_lt_iff_lt_mul hYp]; omega
    have qd0 : ((u * 4294967296 + v1) % Y * 4294967296 + v0) / Y < 4294967296 := by rw [Int.ediv_lt_iff_lt_mul hYp]; omega
    have qn1 : 0 ≤ (u * 4294967296 + v1) / Y := Int.ediv_nonneg (by omega) (by omega)
    have qn0 : 0 ≤ ((u * 4294967296 + v1) % Y * 4294967296 + v0) / Y := Int.ediv_nonneg (by omega) (by omega)
    generalize hR : (u * 4294967296 + v1) % Y = R1 at *
    generalize hq1 : (u * 4294967296 + v1) / Y = q1 at *
    generalize hq0 : (R1 * 4294967296 + v0) / Y = q0 at *
    have b1 : 2147483648 ≤ Y / 4294967296 := by omega
    have fr1 := first_rest u (Y / 4294967296) b1
    have fr2 := first_rest R1 (Y / 4294967296) b1
    have fb1 := first_bound u (Y / 4294967296) b1 hu0 (by omega)
    have fb2 := first_bound R1 (Y / 4294967296) b1 hR0 (by omega)
    refine (div64_core hi lo y Y (Y / 4294967296) (Y % 4294967296) u L v1 v0 (u - u / (Y / 4294967296) * (Y / 4294967296)) q1 R1 (R1 - R1 / (Y / 4294967296) * (Y / 4294967296)) q0 (U / Y) (U % Y / 2 ^ lzN y) (lzN y) w (by omega) h1 h2 h3 h4 z1 C (by rw [hY]; exact rw1) rfl (and_low32 Y (by omega) (by omega)) ro rw5 hV1 (by rw [and_low32 L (by omega) (by omega)]; exact hV0)
      ?_ ?_ ?_ ?_ ?_ hYY b1 (by omega) (by omega) (by omega) hu0 huY (by omega) hv1.1 hv1.2 hv0.1 hv0.2 (by omega) (by omega) hq1.symm hR0 (by omega) hR1 hq0.symm ⟨rfl, fr1.1, fr1.2, fb1.1, fb1.2⟩ ⟨rfl, fr2.1, fr2.2, fb2.1, fb2.2⟩).mono ?_
    · simp only [IntKind.wrap_u64]; omega
    · simp only [IntKind.wrap_u64]; rw [← m1]; omega
    · simp only [IntKind.wrap_u64]; omega
    · simp only [IntKind.wrap_u64]; omega
    · simp only [IntKind.wrap_u64]; rw [← t2, ← m2]; congr 1; omega
    · rintro e w' ⟨he, rfl⟩
      exact ⟨he, Below.refl _ _⟩

set_option maxHeartbeats 400000 in
theorem rem64_any (hi lo y : Int) (w : World) (h0 : 0 ≤ hi) (h0' : hi < 18446744073709551616) (h1 : 0 < y) (h2 : y < 18446744073709551616) (h3 : 0 ≤ lo) (h4 : lo < 18446744073709551616) :
    Calls Try.prog 83 #[.int .u64 hi, .int .u64 lo, .int .u64 y] w fun e w' => e = .returned (.int .u64 ((hi * 18446744073709551616 + lo) % y)) ∧ Below w.heap.size w w' := by
  have D : ∀ w, Calls Try.prog 82 #[.int .u64 (hi % y), .int .u64 lo, .int .u64 y] w fun e w' => (∃ n, e = .returned (.tuple #[.int .u64 n, .int .u64 ((hi * 18446744073709551616 + lo) % y)])) ∧ Below w.heap.size w w' := by
    intro w
    refine (div64_any (hi % y) lo y w (Int.emod_nonneg _ (by omega)) (Int.emod_lt_of_pos _ h1) h2 h3 h4).mono ?_
    rintro e w' ⟨rfl, hb⟩
    refine ⟨⟨(hi % y * 18446744073709551616 + lo) / y, ?_⟩, hb⟩
    have e1 : (hi % y * 18446744073709551616 + lo) % y = (hi * 18446744073709551616 + lo) % y := by
      rw [Int.add_emod, Int.mul_emod, Int.emod_emod_of_dvd _ (Int.dvd_refl y), ← Int.mul_emod, ← Int.add_emod]
    rw [e1]
  have D' := mkHid D; clear D
  have hne : (y == 0) = false := beq_eq_false_iff_ne.2 (by omega)
  generalize (hi * 18446744073709551616 + lo) % y = z at *
  go_enter Try.func83, Try.ntmps83
  go_wp2_with fail
  refine (D'.out _).mono ?_
  rintro e w1 ⟨⟨n, rfl⟩, hb1⟩
  go_wp2
  go_ret
  exact ⟨rfl, hb1⟩

theorem hilo (W : Int) (h0 : 0 ≤ W) (h : W < 340282366920938463463374607431768211456) : hiW W * 18446744073709551616 + loW W = W := by
  rw [hi_nat W h0 h]; unfold loW; omega
set_option maxHeartbeats 400000 in
theorem over_fit (W d : Int) (w : World) (h0 : 0 ≤ W) (h : W < 340282366920938463463374607431768211456) (h1 : hiW W < d) (h2 : d < 18446744073709551616) :
    Calls Try.prog 75 #[.agg #[.int .u64 (hiW W), .int .u64 (loW W)], .int .u64 d] w fun e w' => e = .returned (.int .u64 (W / d)) ∧ Below w.heap.size w w' := by
  have D : ∀ w, Calls Try.prog 82 #[.int .u64 (hiW W), .int .u64 (loW W), .int .u64 d] w fun e w' => e = .returned (.tuple #[.int .u64 (W / d), .int .u64 (W % d)]) ∧ Below w.heap.size w w' := by
    intro w
    have D := div64_any (hiW W) (loW W) d w (hiW_nonneg W) h1 h2 (loW_nonneg W) (loW_lt W)
    rw [hilo W h0 h] at D
    exact D
  have D' := mkHid D; clear D
  generalize W / d = z at *
  generalize W % d = z' at *
  go_enter Try.func75, Try.ntmps75
  go_wp2_with fail
  refine (D'.out _).mono ?_
  rintro e w1 ⟨rfl, hb1⟩
  go_wp2
  go_ret
  exact ⟨rfl, bon (bal (Below.refl _ _) _) hb1⟩
theorem over_any (W d : Int) (w : World) (h0 : 0 ≤ W) (h : W < 340282366920938463463374607431768211456) (h2 : d < 18446744073709551616) :
    Calls Try.prog 75 #[.agg #[.int .u64 (hiW W), .int .u64 (loW W)], .int .u64 d] w (Out (decide (hiW W < d)) (.int .u64 (W / d)) w) := by
  by_cases hc : hiW W < d
  · exact (over_fit W d w h0 h hc h2).mono fun e w' ⟨he, hw⟩ => Or.inl ⟨by simpa using hc, he, hw⟩
  · exact (over_not W d w (by omega)).mono fun e w' ⟨he, hw⟩ => Or.inr ⟨by simpa using hc, he, hw⟩
set_option maxHeartbeats 400000 in
theorem rest_any (W d : Int) (w : World) (h0 : 0 ≤ W) (h : W < 340282366920938463463374607431768211456) (h1 : 0 < d) (h2 : d < 18446744073709551616) :
    Calls Try.prog 80 #[.agg #[.int .u64 (hiW W), .int .u64 (loW W)], .int .u64 d] w fun e w' => e = .returned (.int .u64 (W % d)) ∧ Below w.heap.size w w' := by
  have D : ∀ w, Calls Try.prog 83 #[.int .u64 (hiW W), .int .u64 (loW W), .int .u64 d] w fun e w' => e = .returned (.int .u64 (W % d)) ∧ Below w.heap.size w w' := by
    intro w
    have D := rem64_any (hiW W) (loW W) d w (hiW_nonneg W) (hiW_lt W) h1 h2 (loW_nonneg W) (loW_lt W)
    rw [hilo W h0 h] at D
    exact D
  have D' := mkHid D; clear D
  generalize W % d = z' at *
  go_enter Try.func80, Try.ntmps80
  go_wp2_with fail
  refine (D'.out _).mono ?_
  rintro e w1 ⟨rfl, hb1⟩
  go_wp2
  go_ret
  exact ⟨rfl, bon (bal (Below.refl _ _) _) hb1⟩
theorem multiple_any (a b : Int) (w : World) (h1 : 0 ≤ a) (h2 : a < 18446744073709551616) (h3 : 0 ≤ b) (h4 : b < 18446744073709551616) :
    Calls Try.prog 81 #[.int .u64 a, .int .u64 b] w (Out (decide (a * b < 18446744073709551616)) (.int .u64 (a * b)) w) := by
  by_cases h : a * b < 18446744073709551616
  · exact (multiple_fit a b w h1 h2 h3 h4 h).mono fun e w' ⟨he, hw⟩ => Or.inl ⟨by simpa using h, he, hw ▸ Below.refl _ _⟩
  · exact (multiple_not a b w h1 h2 h3 h4 (by omega)).mono fun e w' ⟨he, hw⟩ => Or.inr ⟨by simpa using h, he, hw ▸ Below.refl _ _⟩
end Go.Proofs.Ytkgaoafcjhjefaa
