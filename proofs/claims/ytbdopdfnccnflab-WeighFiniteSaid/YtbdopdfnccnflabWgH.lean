/-
  Sums of words in the order of words: a sum is rounded, rising with the number; what is made of it by Bump.
-/
import Derived.Test.YtbdopdfnccnflabWgWords
namespace Go.Proofs.Ytbdopdfnccnflab
open Ieee

def rnd (T : Int) : Int := if T < 0 then -(R T.natAbs (-1074) : Int) else R T.natAbs (-1074)
def clampI (v : Int) : Int := max (-9218868437227405311) (min v 9218868437227405311)

theorem rnd_mono {a b : Int} (h : a ≤ b) : rnd a ≤ rnd b := by
  unfold rnd
  by_cases ha : a < 0
  · rw [if_pos ha]
    by_cases hb : b < 0
    · rw [if_pos hb]
      have := R_mono (-1074) (show b.natAbs ≤ a.natAbs by omega)
      omega
    · rw [if_neg hb]; omega
  · rw [if_neg ha, if_neg (by omega)]
    have := R_mono (-1074) (show a.natAbs ≤ b.natAbs by omega)
    omega
theorem rnd_zero : rnd 0 = 0 := by decide
theorem V_pos {r : Nat} (h : 0 < r) : 0 < V r := by have := V_lt h; rw [V_zero] at this; exact this
theorem rnd_Z (a : Nat) (h : rung a < 9218868437227405312) : rnd (Z a) = key a := by
  have hv := R_V (rung a)
  rw [Nat.min_eq_left (by omega)] at hv
  unfold rnd Z key sv
  cases ngv a
  · simp only [Bool.false_eq_true, if_false]
    rw [if_neg (by omega), Int.natAbs_natCast, hv]
  · simp only [if_true]
    by_cases g : rung a = 0
    · rw [g, V_zero]; decide
    · have := V_pos (show 0 < rung a by omega)
      rw [if_pos (by omega), Int.natAbs_neg, Int.natAbs_natCast, hv]
theorem clamp_key (a : Nat) (h : rung a < 9218868437227405312) : clampI (key a) = key a := by
  unfold clampI key sv; split <;> omega
theorem key_tame (x : Nat) (h : rung x ≤ 9218868437227405312) : key (tameW x) = clampI (key x) := by
  by_cases e : rung x = 9218868437227405312
  · rw [tame_inf e, key_wd _ _ (by omega)]
    unfold clampI key
    rw [e]
    cases ngv x <;> decide
  · rw [tame_fin x (by omega), clamp_key x (by omega)]
theorem bump_key (x y : Nat) : key (bumpW x y) = clampI (rnd (Z (tameW x) + Z (tameW y))) := by
  have hadd := add_fin (tameW x) (tameW y) (tame_rung x) (tame_rung y)
  unfold bumpW
  rw [hadd]
  have hR := R_le (Z (tameW x) + Z (tameW y)).natAbs (-1074)
  show key (tameW (wd _ _)) = _
  rw [key_tame _ (by rw [rung_wd _ _ (by omega)]; exact hR), key_wd _ _ (by omega)]
  congr 1
  unfold rnd
  generalize Z (tameW x) + Z (tameW y) = T at *
  by_cases h0 : T = 0
  · subst h0
    rw [if_pos rfl]
    have : R (Int.natAbs 0) (-1074) = 0 := by decide
    rw [this]
    cases (ngv (tameW x) && ngv (tameW y)) <;> decide
  · rw [if_neg h0]
    by_cases h1 : T < 0
    · rw [decide_eq_true h1, if_pos h1]; rfl
    · rw [decide_eq_false h1, if_neg h1]; rfl
theorem bump_comm (x y : Nat) : bumpW x y = bumpW y x := by
  unfold bumpW
  rw [add_fin _ _ (tame_rung x) (tame_rung y), add_fin _ _ (tame_rung y) (tame_rung x), Int.add_comm, Bool.and_comm]
theorem Z_zero : Z 0 = 0 := by decide
theorem bump_zero (x : Nat) : key (bumpW x 0) = key (tameW x) := by
  rw [bump_key, show tameW 0 = 0 by decide, Z_zero, Int.add_zero, rnd_Z _ (tame_rung x), clamp_key _ (tame_rung x)]
theorem Z_neg (s : Bool) (r : Nat) (h : r < 9223372036854775808) : Z (wd (!s) r) = -Z (wd s r) := by
  unfold Z; rw [ngv_wd _ _ h, rung_wd _ _ h, ngv_wd _ _ h, rung_wd _ _ h]
  cases s <;> simp [sv]
theorem bump_neg (t : Nat) (ht : t < 18446744073709551616) (h : rung t < 9218868437227405312) : key (bumpW t (wd (!ngv t) (rung t))) = 0 := by
  have hr := rung_lt t
  rw [bump_key, tame_fin t h, tame_fin _ (by rw [rung_wd _ _ hr]; exact h), Z_neg _ _ hr, wd_eta t ht, Int.add_right_neg, rnd_zero]; decide
theorem bump_tame (x y : Nat) : bumpW (tameW x) (tameW y) = bumpW x y := by
  unfold bumpW; rw [tame_tame, tame_tame]
theorem Z_pos {y : Nat} (h : 0 < key y) : 0 ≤ Z y := by
  unfold key sv at h
  unfold Z sv
  cases hs : ngv y
  · simp
  · rw [hs] at h; simp at h; omega
theorem Z_npos {y : Nat} (h : key y < 0) : Z y ≤ 0 := by
  unfold key sv at h
  unfold Z sv
  cases hs : ngv y
  · rw [hs] at h; simp at h; omega
  · simp
theorem clamp_mono {a b : Int} (h : a ≤ b) : clampI a ≤ clampI b := by unfold clampI; omega
/-- A bump of more than nought makes none less; of less than nought, none more. -/
theorem bump_up (x y : Nat) (h : 0 < key (tameW y)) : key (tameW x) ≤ key (bumpW x y) := by
  rw [bump_key, ← clamp_key _ (tame_rung x), ← rnd_Z _ (tame_rung x)]
  have := Z_pos h
  exact clamp_mono (rnd_mono (by omega))
theorem bump_down (x y : Nat) (h : key (tameW y) < 0) : key (bumpW x y) ≤ key (tameW x) := by
  rw [bump_key, ← clamp_key _ (tame_rung x), ← rnd_Z _ (tame_rung x)]
  have := Z_npos h
  exact clamp_mono (rnd_mono (by omega))
theorem clamp_sign {v : Int} : (0 < clampI v ↔ 0 < v) ∧ (clampI v < 0 ↔ v < 0) := by unfold clampI; omega
end Go.Proofs.Ytbdopdfnccnflab
