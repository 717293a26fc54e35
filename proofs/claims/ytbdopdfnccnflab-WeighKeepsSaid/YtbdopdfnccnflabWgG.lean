/-
  The contract of what the statements ask for in any case ('shown').
-/
import Derived.Test.YtbdopdfnccnflabWgF
namespace Go.Proofs.Ytbdopdfnccnflab
open Go.RowKit

@[go_sem] theorem run_negW (P : Program) (w : World) (k : FloatKind) (b : Nat) : (Op.unary .neg (.float k b)).run P w = .ok (.float k (Op.negFloat k b)) w := rfl
theorem frow_two (w : World) (t : TypeId) (a b : Nat) : FLies (w.alloc (.cells #[.float .f64 a, .float .f64 b] t)) (some ⟨w.heap.size, 0, none⟩) [a, b] := by
  refine Or.inr ⟨w.heap.size, rfl, fun j hj => ?_⟩
  have : j = 0 ∨ j = 1 := by simp at hj; omega
  rcases this with rfl | rfl <;> simp [go_sem]
theorem frow_four (w : World) (t : TypeId) (a b c d : Nat) : FLies (w.alloc (.cells #[.float .f64 a, .float .f64 b, .float .f64 c, .float .f64 d] t)) (some ⟨w.heap.size, 0, none⟩) [a, b, c, d] := by
  refine Or.inr ⟨w.heap.size, rfl, fun j hj => ?_⟩
  have : j = 0 ∨ j = 1 ∨ j = 2 ∨ j = 3 := by simp at hj; omega
  rcases this with rfl | rfl | rfl | rfl <;> simp [go_sem]

theorem less_at {x y : Nat} {b : Bool} (hx : x < 18446744073709551616) (hy : y < 18446744073709551616) (h : lessW x y = b) (w : World) : Calls Try.prog 20 #[.float .f64 x, .float .f64 y] w fun e w' => e = .returned (.bool b) ∧ w = w' := by
  have := less_any x y w hx hy; rw [h] at this; exact this
theorem bump_at {x y z : Nat} (h : bumpW x y = z) (w : World) : Calls Try.prog 21 #[.float .f64 x, .float .f64 y] w fun e w' => e = .returned (.float .f64 z) ∧ w = w' := by
  have := bump_any x y w; rw [h] at this; exact this
theorem tame_at {x z : Nat} (h : tameW x = z) (w : World) : Calls Try.prog 23 #[.float .f64 x] w fun e w' => e = .returned (.float .f64 z) ∧ w = w' := by
  have := tame_any x w; rw [h] at this; exact this
theorem resc_c (A : Option Addr) (c : Nat) (w : World) (h : FLies w A [4607182418800017408, 7598952565167317594]) : Calls Try.prog 13 #[.slice A 2 c] w fun e w' =>
    (∃ g c x, e = .returned (.tuple #[.slice (some ⟨g, 0, none⟩) 2 c, .bool true]) ∧ w'.cell? ⟨g, 0, none⟩ = some (.float .f64 3110860544497550640) ∧ w'.cell? ⟨g, 1, none⟩ = some (.float .f64 x) ∧ 2 ≤ c) ∧ Below w.heap.size w w' := by
  refine (rescale_any A c [4607182418800017408, 7598952565167317594] w h (by decide)).mono ?_
  rintro e w' ⟨⟨v, rfl, B, d, rfl, hd, hr⟩, hb⟩
  have e1 : farAny ([4607182418800017408, 7598952565167317594].map tameW) = true := by decide +kernel
  have e2 : (rescW [4607182418800017408, 7598952565167317594]).getD 0 0 = 3110860544497550640 := by decide +kernel
  have e3 : (rescW [4607182418800017408, 7598952565167317594]).length = 2 := by decide +kernel
  rw [e1, e3]
  rw [e3] at hd
  rcases hr with h0 | ⟨g, rfl, hc⟩
  · rw [h0] at e3; cases e3
  · rw [e3] at hc
    have c0 := hc 0 (by omega)
    rw [e2] at c0
    exact ⟨⟨g, d, _, rfl, c0, hc 1 (by omega), hd⟩, hb⟩
theorem heavy_c (A : Option Addr) (c : Nat) (w : World) (h : FLies w A [9221120237041090561, 9223372036854775808, 0, 0]) : Calls Try.prog 15 #[.slice A 4 c] w fun e w' => e = .returned (.int .i64 2) ∧ w = w' := by
  have := heavy_any A c [9221120237041090561, 9223372036854775808, 0, 0] w h (by decide) (by intro d hd; simp at hd; omega)
  rw [show heavyW [9221120237041090561, 9223372036854775808, 0, 0] = 2 by decide +kernel] at this
  exact this
theorem heavy_nil (w : World) : Calls Try.prog 15 #[.slice none 0 0] w fun e w' => e = .returned (.int .i64 (-1)) ∧ w = w' :=
  heavy_any none 0 [] w (Or.inl rfl) (by decide) (by intro d hd; simp at hd)

set_option maxHeartbeats 4000000 in
set_option maxRecDepth 100000 in
theorem shown_any (w : World) : Calls Try.prog 11 #[] w fun e w' => e = .returned (.bool true) ∧ Below w.heap.size w w' := by
  have L1 := mkHidW (less_at (x := 9223372036854775808) (y := 0) (b := true) (by decide) (by decide) (by decide))
  have L2 := mkHidW (less_at (x := 0) (y := 9223372036854775808) (b := false) (by decide) (by decide) (by decide))
  have L3 := mkHidW (less_at (x := 9221120237041090561) (y := 18442240474082181120) (b := true) (by decide) (by decide) (by decide))
  have L4 := mkHidW (less_at (x := 9221120237041090561) (y := 9221120237041090561) (b := false) (by decide) (by decide) (by decide))
  have L5 := mkHidW (less_at (x := 9218868437227405312) (y := 9221120237041090561) (b := false) (by decide) (by decide) (by decide))
  have B1 := mkHidW (bump_at (x := 9218868437227405312) (y := 4607182418800017408) (z := 9218868437227405311) (by decide +kernel))
  have T1 := mkHidW (tame_at (x := 9221120237041090561) (z := 0) (by decide))
  have n1 : Op.negFloat .f64 9218868437227405312 = 18442240474082181120 := by decide +kernel
  have q1 : (FloatKind.f64.format.order 9218868437227405311 9218868437227405311 == some .eq) = true := by decide +kernel
  have q2 : (FloatKind.f64.format.order 0 0 == some .eq) = true := by decide +kernel
  have q3 : (FloatKind.f64.format.order 3110860544497550640 3110860544497550640 == some .eq) = true := by decide +kernel
  go_enter Try.func11, Try.ntmps11
  go_wp2_with fail
  refine (nan_c _).mono ?_; rintro e w1 ⟨rfl, rfl⟩
  go_wp2_with fail
  refine (inf_c _).mono ?_; rintro e w1 ⟨rfl, rfl⟩
  go_wp2_with fail
  refine (copysign_c _).mono ?_; rintro e w1 ⟨rfl, rfl⟩
  go_wp2_with fail
  refine (resc_c _ _ _ (frow_two _ _ _ _)).mono ?_; rintro e w1 ⟨⟨g, c, x, rfl, c0, c1, hc⟩, hb1⟩
  go_wp2_with fail
  refine (L1.out _).mono ?_; rintro e w2 ⟨rfl, rfl⟩
  go_wp2_with fail
  refine (L2.out _).mono ?_; rintro e w2 ⟨rfl, rfl⟩
  go_wp2_with fail
  refine (L3.out _).mono ?_; rintro e w2 ⟨rfl, rfl⟩
  go_wp2_with fail
  refine (L4.out _).mono ?_; rintro e w2 ⟨rfl, rfl⟩
  go_wp2_with fail
  refine (L5.out _).mono ?_; rintro e w2 ⟨rfl, rfl⟩
  go_wp2_with fail
  refine (B1.out _).mono ?_; rintro e w2 ⟨rfl, rfl⟩
  go_wp2_with fail
  refine (T1.out _).mono ?_; rintro e w2 ⟨rfl, rfl⟩
  go_wp2_with fail
  refine (heavy_c _ _ _ (frow_four _ _ _ _ _ _)).mono ?_; rintro e w2 ⟨rfl, rfl⟩
  go_wp2_with fail
  refine (heavy_nil _).mono ?_; rintro e w2 ⟨rfl, rfl⟩
  go_wp2
  go_ret
  exact ⟨rfl, balW (bonW (balW (Below.refl _ _) _) hb1) _⟩
end Go.Proofs.Ytbdopdfnccnflab
