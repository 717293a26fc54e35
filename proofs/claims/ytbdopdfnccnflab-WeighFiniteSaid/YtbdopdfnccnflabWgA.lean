/-
  The contracts of the calls on single floats: of package weigh, of package math, of the document's answers, of the statements' helpers.
-/
import Derived.Test.YtbdopdfnccnflabRows
import Derived.Test.YtbdopdfnccnflabWgWords
import Derived.WalkKit
import Derived.WalkSpells
import Derived.WalkLawsBesides
import Derived.BigQuiet
import Derived.Deep.QuietTactic
import Derived.Laws.Externs
import Derived.Laws.Bits64b
import Derived.Laws.BitsAllLaws
import Derived.Below
namespace Go.Proofs.Ytbdopdfnccnflab
open Go.RowKit

theorem mkHidW {p : Prop} (h : p) : Hid p := h
theorem ret_b {a b : Bool} (h : a = b) : Ending.returned (.bool a) = .returned (.bool b) := by rw [h]
theorem ret_f {a b : Nat} (h : a = b) : Ending.returned (.float .f64 a) = .returned (.float .f64 b) := by rw [h]
theorem ret_i {k : IntKind} {a b : Int} (h : a = b) : Ending.returned (.int k a) = .returned (.int k b) := by rw [h]

@[go_sem] theorem run_bits (x : Nat) (w : World) : (callFunc 18 #[.float .f64 x]).run Try.prog w = .ok (.value (.int .u64 x)) w := by
  rw [run_callFunc_extern Try.func18 (by kernel_rfl) (by kernel_rfl) (by kernel_rfl) (e := (Extern.MathFloatBits.rows.getD 0 default).2) (by kernel_rfl)]
  rfl
@[go_sem] theorem run_from (x : Int) (w : World) : (callFunc 19 #[.int .u64 x]).run Try.prog w = .ok (.value (.float .f64 x.toNat)) w := by
  rw [run_callFunc_extern Try.func19 (by kernel_rfl) (by kernel_rfl) (by kernel_rfl) (e := (Extern.MathFloatBits.rows.getD 1 default).2) (by kernel_rfl)]
  rfl

theorem noNum_any (x : Nat) (w : World) : Calls Try.prog 35 #[.float .f64 x] w fun e w' => e = .returned (.bool (nanB x)) ∧ w = w' := by
  go_enter Try.func35, Try.ntmps35
  go_wp2
  go_ret
  exact ⟨ret_b (oSelfN x), rfl⟩

theorem k_max : key 9218868437227405311 = 9218868437227405311 := by decide
theorem k_min : key 18442240474082181119 = -9218868437227405311 := by decide
theorem key_p {x : Nat} (h : ngv x = false) : key x = rung x := by unfold key; rw [h]; rfl
theorem key_n {x : Nat} (h : ngv x = true) : key x = -(rung x : Int) := by unfold key; rw [h]; rfl
theorem key_fin {x : Nat} (h : rung x < 9218868437227405312) : -9218868437227405311 ≤ key x ∧ key x ≤ 9218868437227405311 := by
  unfold key sv; split <;> omega

/-- the ways of a word: what it is, and what the two tests say of it -/
theorem tame_ways (x : Nat) : (nanB x = true ∧ tameW x = 0) ∨ (nanB x = false ∧ (FloatKind.f64.format.order x 9218868437227405311 == some .gt) = true ∧ tameW x = 9218868437227405311)
    ∨ (nanB x = false ∧ (FloatKind.f64.format.order x 9218868437227405311 == some .gt) = false ∧ (FloatKind.f64.format.order x 18442240474082181119 == some .lt) = true ∧ tameW x = 18442240474082181119)
    ∨ (nanB x = false ∧ (FloatKind.f64.format.order x 9218868437227405311 == some .gt) = false ∧ (FloatKind.f64.format.order x 18442240474082181119 == some .lt) = false ∧ tameW x = x) := by
  by_cases h : 9218868437227405312 < rung x
  · exact .inl ⟨decide_eq_true h, tame_nan h⟩
  · right
    have hn : nanB x = false := decide_eq_false h
    have a : (FloatKind.f64.format.order x 9218868437227405311 == some .gt) = _ := oGt (x := x) (y := 9218868437227405311) (by omega) (by decide)
    have b : (FloatKind.f64.format.order x 18442240474082181119 == some .lt) = _ := oLt (x := x) (y := 18442240474082181119) (by omega) (by decide)
    rw [a, b, k_max, k_min]
    by_cases e : rung x = 9218868437227405312
    · have t := tame_inf e
      cases s : ngv x
      · rw [key_p s, e]; rw [s] at t; exact .inl ⟨hn, by decide, t⟩
      · rw [key_n s, e]; rw [s] at t; exact .inr (.inl ⟨hn, by decide, by decide, t⟩)
    · have := key_fin (x := x) (by omega)
      exact .inr (.inr ⟨hn, decide_eq_false (by omega), decide_eq_false (by omega), tame_fin x (by omega)⟩)

set_option maxHeartbeats 1000000 in
theorem tame_any (x : Nat) (w : World) : Calls Try.prog 23 #[.float .f64 x] w fun e w' => e = .returned (.float .f64 (tameW x)) ∧ w = w' := by
  have N := mkHidW (noNum_any x)
  rcases tame_ways x with ⟨h1, h⟩ | ⟨h1, h2, h⟩ | ⟨h1, h2, h3, h⟩ | ⟨h1, h2, h3, h⟩
  all_goals
    rw [h]; clear h
    rw [h1] at N; clear h1
    go_enter Try.func23, Try.ntmps23
    go_wp2_with fail
    refine (N.out _).mono ?_; rintro e w1 ⟨rfl, rfl⟩
    go_wp2
    go_ret
    exact ⟨rfl, rfl⟩

set_option maxHeartbeats 1000000 in
theorem rtame_any (x : Nat) (w : World) : Calls Try.prog 33 #[.float .f64 x] w fun e w' => e = .returned (.float .f64 (tameW x)) ∧ w = w' := by
  have N := oSelfN x
  rcases tame_ways x with ⟨h1, h⟩ | ⟨h1, h2, h⟩ | ⟨h1, h2, h3, h⟩ | ⟨h1, h2, h3, h⟩
  all_goals
    rw [h]; clear h
    rw [h1] at N; clear h1
    go_enter Try.func33, Try.ntmps33
    go_wp2
    go_ret
    exact ⟨rfl, rfl⟩

set_option maxHeartbeats 1000000 in
theorem signbit_any (x : Nat) (w : World) (h : x < 18446744073709551616) : Calls Try.prog 36 #[.float .f64 x] w fun e w' => e = .returned (.bool (ngv x)) ∧ w = w' := by
  go_enter Try.func36, Try.ntmps36
  go_wp2
  go_ret
  refine ⟨ret_b ?_, rfl⟩
  unfold ngv wrap64
  by_cases g : 9223372036854775808 ≤ x
  · rw [decide_eq_true (by omega), show x / 9223372036854775808 % 2 = 1 by omega]; rfl
  · rw [decide_eq_false (by omega), show x / 9223372036854775808 % 2 = 0 by omega]; rfl

theorem less_nan_l {x : Nat} (y : Nat) (h : nanB x = true) : lessW x y = !nanB y := by
  unfold lessW; rw [plc_nan (of_decide_eq_true h)]
  unfold nanB
  by_cases g : 9218868437227405312 < rung y
  · rw [plc_nan g, decide_eq_true g]; rfl
  · rw [decide_eq_false g, decide_eq_true (plc_pos (by omega))]; rfl
theorem less_nan_r (x : Nat) {y : Nat} (h : nanB y = true) : lessW x y = false := by
  unfold lessW; rw [plc_nan (of_decide_eq_true h)]; exact decide_eq_false (by omega)
theorem nan_no {x : Nat} (h : nanB x = false) : rung x ≤ 9218868437227405312 := by
  have := of_decide_eq_false h; omega
theorem less_num {x y : Nat} (hx : nanB x = false) (hy : nanB y = false) :
    ((FloatKind.f64.format.order x y == some .eq) = true ∧ lessW x y = (ngv x && !ngv y)) ∨ ((FloatKind.f64.format.order x y == some .eq) = false ∧ (FloatKind.f64.format.order x y == some .lt) = lessW x y) := by
  have ax := nan_no hx; have ay := nan_no hy
  have a := oEq ax ay
  have b := oLt ax ay
  have c := plc_lt_iff ax ay
  rw [a, b]
  unfold lessW
  by_cases e : key x = key y
  · refine .inl ⟨decide_eq_true e, ?_⟩
    rw [Bool.eq_iff_iff, decide_eq_true_eq, c]
    constructor
    · rintro (h | ⟨-, h1, h2⟩)
      · omega
      · rw [h1, h2]; rfl
    · intro h
      simp at h
      exact .inr ⟨e, h.1, h.2⟩
  · refine .inr ⟨decide_eq_false e, ?_⟩
    rw [decide_eq_decide, c]
    constructor
    · exact .inl
    · rintro (h | h)
      · exact h
      · exact absurd h.1 e

set_option maxHeartbeats 1000000 in
theorem less_any (x y : Nat) (w : World) (hx : x < 18446744073709551616) (hy : y < 18446744073709551616) :
    Calls Try.prog 20 #[.float .f64 x, .float .f64 y] w fun e w' => e = .returned (.bool (lessW x y)) ∧ w = w' := by
  have N := mkHidW (noNum_any x)
  have M := mkHidW (noNum_any y)
  have P := mkHidW (fun w => signbit_any x w hx)
  have Q := mkHidW (fun w => signbit_any y w hy)
  clear hx hy
  cases nx : nanB x
  · cases ny : nanB y
    · have hh := less_num nx ny
      rw [nx] at N; rw [ny] at M; clear nx ny
      rcases hh with ⟨h1, h2⟩ | ⟨h1, h2⟩
      · rw [h2]; clear h2
        cases sx : ngv x
        · rw [sx] at P; clear sx
          go_enter Try.func20, Try.ntmps20
          go_wp2_with fail
          refine (N.out _).mono ?_; rintro e w1 ⟨rfl, rfl⟩
          go_wp2_with fail
          refine (M.out _).mono ?_; rintro e w1 ⟨rfl, rfl⟩
          go_wp2_with fail
          refine (P.out _).mono ?_; rintro e w1 ⟨rfl, rfl⟩
          go_wp2
          go_ret
          exact ⟨rfl, rfl⟩
        · rw [sx] at P; clear sx
          go_enter Try.func20, Try.ntmps20
          go_wp2_with fail
          refine (N.out _).mono ?_; rintro e w1 ⟨rfl, rfl⟩
          go_wp2_with fail
          refine (M.out _).mono ?_; rintro e w1 ⟨rfl, rfl⟩
          go_wp2_with fail
          refine (P.out _).mono ?_; rintro e w1 ⟨rfl, rfl⟩
          go_wp2_with fail
          refine (Q.out _).mono ?_; rintro e w1 ⟨rfl, rfl⟩
          go_wp2
          go_ret
          exact ⟨rfl, rfl⟩
      · have H2 := mkHidW h2; clear h2
        go_enter Try.func20, Try.ntmps20
        go_wp2_with fail
        refine (N.out _).mono ?_; rintro e w1 ⟨rfl, rfl⟩
        go_wp2_with fail
        refine (M.out _).mono ?_; rintro e w1 ⟨rfl, rfl⟩
        go_wp2
        go_ret
        exact ⟨ret_b H2.out, rfl⟩
    · rw [less_nan_r x ny]
      rw [nx] at N; rw [ny] at M; clear nx ny
      go_enter Try.func20, Try.ntmps20
      go_wp2_with fail
      refine (N.out _).mono ?_; rintro e w1 ⟨rfl, rfl⟩
      go_wp2_with fail
      refine (M.out _).mono ?_; rintro e w1 ⟨rfl, rfl⟩
      go_wp2_with fail
      refine (N.out _).mono ?_; rintro e w1 ⟨rfl, rfl⟩
      go_wp2
      go_ret
      exact ⟨rfl, rfl⟩
  · rw [less_nan_l y nx]
    rw [nx] at N; clear nx
    go_enter Try.func20, Try.ntmps20
    go_wp2_with fail
    refine (N.out _).mono ?_; rintro e w1 ⟨rfl, rfl⟩
    go_wp2_with fail
    refine (N.out _).mono ?_; rintro e w1 ⟨rfl, rfl⟩
    go_wp2_with fail
    refine (M.out _).mono ?_; rintro e w1 ⟨rfl, rfl⟩
    go_wp2
    go_ret
    exact ⟨rfl, rfl⟩

set_option maxHeartbeats 1000000 in
theorem bump_any (x y : Nat) (w : World) : Calls Try.prog 21 #[.float .f64 x, .float .f64 y] w fun e w' => e = .returned (.float .f64 (bumpW x y)) ∧ w = w' := by
  obtain ⟨r, e, -⟩ := add_some (tameW x) (tameW y) (tame_rung x) (tame_rung y)
  have hb : bumpW x y = tameW r := by unfold bumpW; rw [e]; rfl
  rw [hb]; clear hb
  have N := mkHidW (tame_any x)
  have M := mkHidW (tame_any y)
  have P := mkHidW (tame_any r)
  have ha : ∀ t w, (binOp .add t (.float .f64 (tameW x)) (.float .f64 (tameW y))).run Try.prog w = .ok (.float .f64 r) w := fun t w => run_float_arith w .add t .f64 _ _ r e
  clear e
  generalize tameW x = a at N ha
  generalize tameW y = b at M ha
  generalize tameW r = c at P ⊢
  go_enter Try.func21, Try.ntmps21
  go_wp2_with fail
  refine (N.out _).mono ?_; rintro e w1 ⟨rfl, rfl⟩
  go_wp2_with fail
  refine (M.out _).mono ?_; rintro e w1 ⟨rfl, rfl⟩
  go_wp2_with fail
  refine (P.out _).mono ?_; rintro e w1 ⟨rfl, rfl⟩
  go_wp2
  go_ret
  exact ⟨rfl, rfl⟩

set_option maxHeartbeats 1000000 in
theorem decay_any (x : Nat) (w : World) : Calls Try.prog 22 #[.float .f64 x] w fun e w' => e = .returned (.float .f64 (decayW x)) ∧ w = w' := by
  obtain ⟨r, e, -⟩ := div_some (tameW x) (tame_rung x)
  have hb : decayW x = tameW r := by unfold decayW; rw [e]; rfl
  rw [hb]; clear hb
  have N := mkHidW (tame_any x)
  have P := mkHidW (tame_any r)
  have ha : ∀ t w, (binOp .quo t (.float .f64 (tameW x)) (.float .f64 4606732058837280358)).run Try.prog w = .ok (.float .f64 r) w := fun t w => run_float_arith w .quo t .f64 _ _ r e
  clear e
  generalize tameW x = a at N ha
  generalize tameW r = c at P ⊢
  go_enter Try.func22, Try.ntmps22
  go_wp2_with fail
  refine (N.out _).mono ?_; rintro e w1 ⟨rfl, rfl⟩
  go_wp2_with fail
  refine (P.out _).mono ?_; rintro e w1 ⟨rfl, rfl⟩
  go_wp2
  go_ret
  exact ⟨rfl, rfl⟩

theorem shrink_any (x : Nat) (w : World) (hx : rung x < 9218868437227405312) : Calls Try.prog 32 #[.float .f64 x] w fun e w' => e = .returned (.float .f64 (scaleW x)) ∧ w = w' := by
  have ha : ∀ t w, (binOp .mul t (.float .f64 x) (.float .f64 3110860544497550640)).run Try.prog w = .ok (.float .f64 (scaleW x)) w := fun t w => run_float_arith w .mul t .f64 _ _ _ (mul_some x hx).1
  go_enter Try.func32, Try.ntmps32
  go_wp2
  go_ret
  exact ⟨rfl, rfl⟩

theorem place_ways {x : Nat} (h : x < 18446744073709551616) (hn : nanB x = false) : (9223372036854775808 ≤ x ∧ (plc x : Int) = 18446744073709551616 - x) ∨ (x ≤ 9218868437227405312 ∧ (plc x : Int) = x + 9223372036854775809) := by
  have := nan_no hn
  unfold plc
  rw [if_neg (by omega)]
  unfold ngv
  unfold rung at *
  by_cases g : 9223372036854775808 ≤ x
  · refine .inl ⟨g, ?_⟩
    rw [show x / 9223372036854775808 % 2 = 1 by omega]
    simp; omega
  · refine .inr ⟨by omega, ?_⟩
    rw [show x / 9223372036854775808 % 2 = 0 by omega]
    simp; omega
set_option maxHeartbeats 1000000 in
theorem place_any (x : Nat) (w : World) (hx : x < 18446744073709551616) : Calls Try.prog 34 #[.float .f64 x] w fun e w' => e = .returned (.int .u64 (plc x)) ∧ w = w' := by
  have N := oSelfN x
  cases nx : nanB x
  · have hp := place_ways hx nx
    rw [nx] at N; clear nx
    rcases hp with ⟨h1, h2⟩ | ⟨h1, h2⟩
    · have H2 := mkHidW h2; clear h2
      have hs : ((x : Int) / 9223372036854775808 == 1) = true := by
        rw [show (x : Int) / 9223372036854775808 = 1 by omega]; rfl
      go_enter Try.func34, Try.ntmps34
      go_wp2
      go_ret
      exact ⟨ret_i (by rw [H2.out]; omega), rfl⟩
    · have H2 := mkHidW h2; clear h2
      have hs : ((x : Int) / 9223372036854775808 == 1) = false := by
        rw [show (x : Int) / 9223372036854775808 = 0 by omega]; rfl
      go_enter Try.func34, Try.ntmps34
      go_wp2
      go_ret
      exact ⟨ret_i (by rw [H2.out]; omega), rfl⟩
  · rw [plc_nan (of_decide_eq_true nx)]
    rw [nx] at N; clear nx
    go_enter Try.func34, Try.ntmps34
    go_wp2
    go_ret
    exact ⟨rfl, rfl⟩

theorem same_self (x : Nat) (w : World) (h : nanB x = false) : Calls Try.prog 17 #[.float .f64 x, .float .f64 x] w fun e w' => e = .returned (.bool true) ∧ w = w' := by
  have N := oSelf x
  rw [h] at N; clear h
  have N' : (FloatKind.f64.format.order x x == some .eq) = true := N
  clear N
  go_enter Try.func17, Try.ntmps17
  go_wp2
  go_ret
  exact ⟨rfl, rfl⟩

theorem nan_c (w : World) : Calls Try.prog 27 #[] w fun e w' => e = .returned (.float .f64 9221120237041090561) ∧ w = w' := by
  go_enter Try.func27, Try.ntmps27
  go_wp2
  go_ret
  exact ⟨rfl, rfl⟩
theorem inf_c (w : World) : Calls Try.prog 28 #[.int .i64 1] w fun e w' => e = .returned (.float .f64 9218868437227405312) ∧ w = w' := by
  go_enter Try.func28, Try.ntmps28
  go_wp2
  go_ret
  exact ⟨rfl, rfl⟩
theorem copysign_c (w : World) : Calls Try.prog 29 #[.float .f64 0, .float .f64 13830554455654793216] w fun e w' => e = .returned (.float .f64 9223372036854775808) ∧ w = w' := by
  go_enter Try.func29, Try.ntmps29
  go_wp2
  go_ret
  exact ⟨rfl, rfl⟩

theorem abs_any (x : Nat) (w : World) (hx : x < 18446744073709551616) : Calls Try.prog 25 #[.float .f64 x] w fun e w' => e = .returned (.float .f64 (rung x)) ∧ w = w' := by
  have hb : bits .andNot .u64 (x : Int) 9223372036854775808 = (rung x : Int) := by
    rw [show (9223372036854775808 : Int) = ((9223372036854775808 : Nat) : Int) from rfl, u64_andNot_nat x _ hx (by omega)]
    unfold rung
    rw [show (18446744073709551615 - 9223372036854775808 : Nat) = 2 ^ 63 - 1 from rfl, Nat.and_two_pow_sub_one_eq_mod]
  go_enter Try.func25, Try.ntmps25
  go_wp2
  go_ret
  exact ⟨ret_f (Int.toNat_natCast _), rfl⟩

theorem finite_any (x : Nat) (w : World) (hx : rung x < 9218868437227405312) : Calls Try.prog 24 #[.float .f64 x] w fun e w' => e = .returned (.bool true) ∧ w = w' := by
  have hn : nanB x = false := decide_eq_false (by omega)
  have N : (FloatKind.f64.format.order x x == some .eq) = true := by rw [oSelf, hn]; rfl
  have hk := key_fin hx
  have a : (FloatKind.f64.format.order x 9218868437227405311 == some .lt || FloatKind.f64.format.order x 9218868437227405311 == some .eq) = true := by
    rw [oLt (by omega) (by decide), oEq (by omega) (by decide), k_max, ← Bool.decide_or]; exact decide_eq_true (by omega)
  have b : (FloatKind.f64.format.order x 18442240474082181119 == some .gt || FloatKind.f64.format.order x 18442240474082181119 == some .eq) = true := by
    rw [oGt (by omega) (by decide), oEq (by omega) (by decide), k_min, ← Bool.decide_or]; exact decide_eq_true (by omega)
  clear hk hx hn
  generalize hA : (FloatKind.f64.format.order x 9218868437227405311 == some .lt) = p at a
  generalize hB : (FloatKind.f64.format.order x 9218868437227405311 == some .eq) = q at a
  generalize hC : (FloatKind.f64.format.order x 18442240474082181119 == some .gt) = r at b
  generalize hD : (FloatKind.f64.format.order x 18442240474082181119 == some .eq) = s at b
  cases p <;> cases q <;> cases r <;> cases s <;> (first | (exact absurd a (by decide)) | (exact absurd b (by decide)) | skip)
  all_goals
    clear a b
    go_enter Try.func24, Try.ntmps24
    go_wp2
    go_ret
    exact ⟨rfl, rfl⟩

theorem xor_top {r : Nat} (h : r < 9223372036854775808) : r ^^^ 2 ^ 63 = 9223372036854775808 + r := by
  apply Nat.eq_of_testBit_eq
  intro i
  rw [Nat.testBit_xor, Nat.testBit_two_pow, show (9223372036854775808 : Nat) = 2 ^ 63 from rfl]
  rcases Nat.lt_trichotomy i 63 with g | g | g
  · rw [Nat.testBit_two_pow_add_gt g]
    have : decide (63 = i) = false := decide_eq_false (by omega)
    rw [this]; simp
  · subst g; rw [Nat.testBit_two_pow_add_eq]; simp
  · have : decide (63 = i) = false := decide_eq_false (by omega)
    have big : 2 ^ 64 ≤ 2 ^ i := Nat.pow_le_pow_right (by omega) (by omega)
    rw [this, Nat.testBit_lt_two_pow (by omega), Nat.testBit_lt_two_pow (by omega)]; rfl
theorem neg_word {x : Nat} (h : x < 18446744073709551616) : Op.negFloat .f64 x = wd (!ngv x) (rung x) := by
  show x ^^^ 2 ^ 63 = _
  have e := wd_eta x h
  have hr := rung_lt x
  generalize ngv x = s at e ⊢
  generalize rung x = r at e hr ⊢
  subst e
  cases s
  · show r ^^^ 2 ^ 63 = _; rw [xor_top hr]; rfl
  · show (9223372036854775808 + r) ^^^ 2 ^ 63 = r
    rw [← xor_top hr, Nat.xor_assoc, Nat.xor_self, Nat.xor_zero]
end Go.Proofs.Ytbdopdfnccnflab
