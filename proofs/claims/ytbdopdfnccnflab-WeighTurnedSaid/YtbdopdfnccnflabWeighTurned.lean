/-
  What WeighTurned does: it returns true, whatever the two words are.
-/
import Derived.Test.YtbdopdfnccnflabWgG
import Derived.Test.YtbdopdfnccnflabWgH
namespace Go.Proofs.Ytbdopdfnccnflab
open Go.RowKit

theorem fin_same (x : Nat) (h : rung x < 9218868437227405312) (w : World) : Calls Try.prog 17 #[.float .f64 x, .float .f64 x] w fun e w' => e = .returned (.bool true) ∧ w = w' :=
  same_self x w (decide_eq_false (by omega))

set_option maxHeartbeats 4000000 in
set_option maxRecDepth 100000 in
theorem turned_core (x y t b1 b2 b4 n ty : Nat) (w : World)
    (T1 : Hid (∀ w, Calls Try.prog 23 #[.float .f64 x] w fun e w' => e = .returned (.float .f64 t) ∧ w = w'))
    (T2 : Hid (∀ w, Calls Try.prog 23 #[.float .f64 y] w fun e w' => e = .returned (.float .f64 ty) ∧ w = w'))
    (B1 : Hid (∀ w, Calls Try.prog 21 #[.float .f64 x, .float .f64 y] w fun e w' => e = .returned (.float .f64 b1) ∧ w = w'))
    (B2 : Hid (∀ w, Calls Try.prog 21 #[.float .f64 y, .float .f64 x] w fun e w' => e = .returned (.float .f64 b1) ∧ w = w'))
    (B3 : Hid (∀ w, Calls Try.prog 21 #[.float .f64 x, .float .f64 9221120237041090561] w fun e w' => e = .returned (.float .f64 b2) ∧ w = w'))
    (B4 : Hid (∀ w, Calls Try.prog 21 #[.float .f64 x, .float .f64 0] w fun e w' => e = .returned (.float .f64 b2) ∧ w = w'))
    (B5 : Hid (∀ w, Calls Try.prog 21 #[.float .f64 t, .float .f64 n] w fun e w' => e = .returned (.float .f64 b4) ∧ w = w'))
    (B6 : Hid (∀ w, Calls Try.prog 21 #[.float .f64 t, .float .f64 ty] w fun e w' => e = .returned (.float .f64 b1) ∧ w = w'))
    (S1 : Hid (∀ w, Calls Try.prog 17 #[.float .f64 b1, .float .f64 b1] w fun e w' => e = .returned (.bool true) ∧ w = w'))
    (S2 : Hid (∀ w, Calls Try.prog 17 #[.float .f64 b2, .float .f64 b2] w fun e w' => e = .returned (.bool true) ∧ w = w'))
    (N : Op.negFloat .f64 t = n) (Q1 : (FloatKind.f64.format.order b2 t == some .eq) = true) (Q2 : (FloatKind.f64.format.order b4 0 == some .eq) = true) :
    Calls Try.prog 7 #[.int .u64 x, .int .u64 y] w fun e w' => e = .returned (.bool true) ∧ Below w.heap.size w w' := by
  go_enter Try.func7, Try.ntmps7
  go_wp2_with fail
  refine (shown_any _).mono ?_; rintro e w1 ⟨rfl, hb1⟩
  go_wp2_with fail
  refine (T1.out _).mono ?_; rintro e w2 ⟨rfl, rfl⟩
  go_wp2_with fail
  refine (B1.out _).mono ?_; rintro e w2 ⟨rfl, rfl⟩
  go_wp2_with fail
  refine (B2.out _).mono ?_; rintro e w2 ⟨rfl, rfl⟩
  go_wp2_with fail
  refine (S1.out _).mono ?_; rintro e w2 ⟨rfl, rfl⟩
  go_wp2_with fail
  refine (nan_c _).mono ?_; rintro e w2 ⟨rfl, rfl⟩
  go_wp2_with fail
  refine (B3.out _).mono ?_; rintro e w2 ⟨rfl, rfl⟩
  go_wp2_with fail
  refine (B4.out _).mono ?_; rintro e w2 ⟨rfl, rfl⟩
  go_wp2_with fail
  refine (S2.out _).mono ?_; rintro e w2 ⟨rfl, rfl⟩
  go_wp2_with fail
  refine (B4.out _).mono ?_; rintro e w2 ⟨rfl, rfl⟩
  go_wp2_with fail
  refine (B5.out _).mono ?_; rintro e w2 ⟨rfl, rfl⟩
  go_wp2_with fail
  refine (B1.out _).mono ?_; rintro e w2 ⟨rfl, rfl⟩
  go_wp2_with fail
  refine (T2.out _).mono ?_; rintro e w2 ⟨rfl, rfl⟩
  go_wp2_with fail
  refine (B6.out _).mono ?_; rintro e w2 ⟨rfl, rfl⟩
  go_wp2_with fail
  refine (S1.out _).mono ?_; rintro e w2 ⟨rfl, rfl⟩
  go_wp2
  go_ret
  exact ⟨rfl, hb1⟩

theorem weigh_turned_any (a b : Nat) (w : World) (ha : a < 18446744073709551616) (_hb : b < 18446744073709551616) :
    Calls Try.prog 7 #[.int .u64 a, .int .u64 b] w fun e w' => e = .returned (.bool true) ∧ Below w.heap.size w w' := by
  have e1 : bumpW a 9221120237041090561 = bumpW a 0 := by
    unfold bumpW; rw [show tameW 9221120237041090561 = 0 by decide, show tameW 0 = 0 by decide]
  have ht := tame_rung a
  refine turned_core a b (tameW a) (bumpW a b) (bumpW a 0) (bumpW (tameW a) (wd (!ngv (tameW a)) (rung (tameW a)))) (wd (!ngv (tameW a)) (rung (tameW a))) (tameW b) w (tame_any a) (tame_any b) (bump_any a b) (bump_at (bump_comm b a)) (bump_at e1) (bump_any a 0) (bump_any _ _) (bump_at (bump_tame a b)) (fin_same _ (bump_rung _ _)) (fin_same _ (bump_rung _ _)) (neg_word (tame_lt a ha)) ?_ ?_
  · have r := bump_rung a 0
    rw [oEq (by omega) (by omega)]; exact decide_eq_true (bump_zero a)
  · have r := bump_rung (tameW a) (wd (!ngv (tameW a)) (rung (tameW a)))
    rw [oEq (by omega) (by decide)]; exact decide_eq_true (bump_neg _ (tame_lt a ha) ht)
end Go.Proofs.Ytbdopdfnccnflab
