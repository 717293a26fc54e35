/-
  What WeighTells does: it returns true, whatever the two words are.
-/
import Derived.Test.YtbdopdfnccnflaaWgG
import Derived.Test.YtbdopdfnccnflaaWgH
namespace Go.Proofs.Ytbdopdfnccnflaa
open Go.RowKit

set_option maxHeartbeats 1000000 in
theorem rbump_any (x y : Nat) (w : World) : Calls Try.prog 51 #[.float .f64 x, .float .f64 y] w fun e w' => e = .returned (.float .f64 (bumpW x y)) ∧ w = w' := by
  obtain ⟨r, e, -⟩ := add_some (tameW x) (tameW y) (tame_rung x) (tame_rung y)
  have hb : bumpW x y = tameW r := by unfold bumpW; rw [e]; rfl
  rw [hb]; clear hb
  have N := mkHidW (rtame_any x)
  have M := mkHidW (rtame_any y)
  have P := mkHidW (rtame_any r)
  have ha : ∀ t w, (binOp .add t (.float .f64 (tameW x)) (.float .f64 (tameW y))).run Try.prog w = .ok (.float .f64 r) w := fun t w => run_float_arith w .add t .f64 _ _ r e
  clear e
  generalize tameW x = a at N ha
  generalize tameW y = b at M ha
  generalize tameW r = c at P ⊢
  go_enter Try.func51, Try.ntmps51
  go_wp2_with fail
  refine (N.out _).mono ?_; rintro e w1 ⟨rfl, rfl⟩
  go_wp2_with fail
  refine (M.out _).mono ?_; rintro e w1 ⟨rfl, rfl⟩
  go_wp2_with fail
  refine (P.out _).mono ?_; rintro e w1 ⟨rfl, rfl⟩
  go_wp2
  go_ret
  exact ⟨rfl, rfl⟩
set_option maxHeartbeats 1000000 in
theorem rdecay_any (x : Nat) (w : World) : Calls Try.prog 53 #[.float .f64 x] w fun e w' => e = .returned (.float .f64 (decayW x)) ∧ w = w' := by
  obtain ⟨r, e, -⟩ := div_some (tameW x) (tame_rung x)
  have hb : decayW x = tameW r := by unfold decayW; rw [e]; rfl
  rw [hb]; clear hb
  have N := mkHidW (rtame_any x)
  have P := mkHidW (rtame_any r)
  have ha : ∀ t w, (binOp .quo t (.float .f64 (tameW x)) (.float .f64 4606732058837280358)).run Try.prog w = .ok (.float .f64 r) w := fun t w => run_float_arith w .quo t .f64 _ _ r e
  clear e
  generalize tameW x = a at N ha
  generalize tameW r = c at P ⊢
  go_enter Try.func53, Try.ntmps53
  go_wp2_with fail
  refine (N.out _).mono ?_; rintro e w1 ⟨rfl, rfl⟩
  go_wp2_with fail
  refine (P.out _).mono ?_; rintro e w1 ⟨rfl, rfl⟩
  go_wp2
  go_ret
  exact ⟨rfl, rfl⟩

theorem fin_sameT (x : Nat) (h : rung x < 9218868437227405312) (w : World) : Calls Try.prog 45 #[.float .f64 x, .float .f64 x] w fun e w' => e = .returned (.bool true) ∧ w = w' :=
  same_self x w (decide_eq_false (by omega))

set_option maxHeartbeats 4000000 in
set_option maxRecDepth 100000 in
theorem weigh_tells_any (a b : Nat) (w : World) (ha : a < 18446744073709551616) (hb : b < 18446744073709551616) :
    Calls Try.prog 14 #[.int .u64 a, .int .u64 b] w fun e w' => e = .returned (.bool true) ∧ Below w.heap.size w w' := by
  have T1 := mkHidW (tame_any a)
  have T2 := mkHidW (rtame_any a)
  have S1 := mkHidW (fin_sameT _ (tame_rung a))
  have L1 := mkHidW (fun w => less_any a b w ha hb)
  have P1 := mkHidW (fun w => place_any a w ha)
  have P2 := mkHidW (fun w => place_any b w hb)
  have B1 := mkHidW (bump_any a b)
  have B2 := mkHidW (rbump_any a b)
  have S2 := mkHidW (fin_sameT _ (bump_rung a b))
  have D1 := mkHidW (decay_any a)
  have D2 := mkHidW (rdecay_any a)
  have S3 := mkHidW (fin_sameT _ (decay_rung a))
  obtain ⟨l, hl⟩ : ∃ l, lessW a b = l := ⟨_, rfl⟩
  have hd : decide (plc a < plc b) = l := hl
  rw [hl] at L1
  clear ha hb hl
  generalize tameW a = t at *
  generalize bumpW a b = u at *
  generalize decayW a = d at *
  generalize plc a = pa at *
  generalize plc b = pb at *
  cases l
  all_goals
    go_enter Try.func14, Try.ntmps14
    go_wp2_with fail
    refine (shown_any _).mono ?_; rintro e w1 ⟨rfl, hb1⟩
    go_wp2_with fail
    refine (T1.out _).mono ?_; rintro e w2 ⟨rfl, rfl⟩
    go_wp2_with fail
    refine (T2.out _).mono ?_; rintro e w2 ⟨rfl, rfl⟩
    go_wp2_with fail
    refine (S1.out _).mono ?_; rintro e w2 ⟨rfl, rfl⟩
    go_wp2_with fail
    refine (L1.out _).mono ?_; rintro e w2 ⟨rfl, rfl⟩
    go_wp2_with fail
    refine (P1.out _).mono ?_; rintro e w2 ⟨rfl, rfl⟩
    go_wp2_with fail
    refine (P2.out _).mono ?_; rintro e w2 ⟨rfl, rfl⟩
    go_wp2_with fail
    refine (B1.out _).mono ?_; rintro e w2 ⟨rfl, rfl⟩
    go_wp2_with fail
    refine (B2.out _).mono ?_; rintro e w2 ⟨rfl, rfl⟩
    go_wp2_with fail
    refine (S2.out _).mono ?_; rintro e w2 ⟨rfl, rfl⟩
    go_wp2_with fail
    refine (D1.out _).mono ?_; rintro e w2 ⟨rfl, rfl⟩
    go_wp2_with fail
    refine (D2.out _).mono ?_; rintro e w2 ⟨rfl, rfl⟩
    go_wp2_with fail
    refine (S3.out _).mono ?_; rintro e w2 ⟨rfl, rfl⟩
    go_wp2
    go_ret
    exact ⟨rfl, hb1⟩
end Go.Proofs.Ytbdopdfnccnflaa
