/-
  What NumMakes does: it returns true, whatever the two numbers are.
-/
import Derived.Test.YtbdopdfnccnflaaRefN
namespace Go.Proofs.Ytbdopdfnccnflaa
open Go.RowKit Go.Shelf

set_option maxHeartbeats 8000000 in
set_option maxRecDepth 100000 in
theorem makes_any (a b : Int) (w : World) (ha : fitB a = true) (hb : fitB b = true) :
    Calls Try.prog 4 #[.int .i64 a, .int .i64 b] w fun e w' => e = .returned (.bool true) ∧ Below w.heap.size w w' := by
  have sa := small_fit ha
  have sb := small_fit hb
  have O1 := mkHid (fun w => r_of a w ha)
  have O2 := mkHid (fun w => r_of b w hb)
  have M1 := mkHid (fun w => makeR a b w ha hb)
  have M2 := mkHid (fun v1 v2 w h1 h2 => r_make v1 v2 a b w h1 h2 sa sb)
  have W1 := mkHid (wholeR a)
  have pos := vq_pos (makeO a b)
  clear sa sb ha hb
  generalize vp (makeO a b) = o1 at *
  generalize vq (makeO a b) = o2 at *
  generalize (makeO a b).isSome = o3 at *
  cases o3
  all_goals
    have hp : (o2 < 1 ∨ True) := .inr trivial
    clear hp
    go_enter Try.func4, Try.ntmps4
    go_wp2_with fail
    refine (shown_any _).mono ?_; rintro e w1 ⟨rfl, hb1⟩
    go_wp2_with fail
    refine (M1.out _).mono ?_; rintro e w2 ⟨rfl, hb2⟩
    go_wp2_with fail
    have tw : Two (w2.alloc (.cells #[.int .i64 o1, .int .i64 o2] 35)) w2.heap.size (.int .i64 o1) (.int .i64 o2) := by simp [Two, go_sem]
    have B2 := bal (bon hb1 hb2) (.cells #[.int .i64 o1, .int .i64 o2] 35)
    clear hb1 hb2
    generalize w2.alloc (.cells #[.int .i64 o1, .int .i64 o2] 35) = W2 at *
    generalize w2.heap.size = X at *
    refine (O1.out _).mono ?_; rintro e w3 ⟨⟨vx, rfl, hX⟩, hb3⟩
    go_wp2_with fail
    refine (O2.out _).mono ?_; rintro e w4 ⟨⟨vy, rfl, hY⟩, hb4⟩
    go_wp2_with fail
    refine (M2.out _ _ _ (hX.later hb4) hY).mono ?_; rintro e w5 ⟨rfl, hb5⟩
    have tw5 := Two.later hb5 (Two.later hb4 (Two.later hb3 tw))
    have x0 := tw5.1; have x1 := tw5.2.1
    go_wp2_with fail
    refine (W1.out _).mono ?_; rintro e w6 ⟨rfl, hb6⟩
    have tw6 := Two.later (bal (Below.refl w6.heap.size w6) (.cells #[.int .i64 a, .int .i64 1] 35)) (Two.later hb6 tw5)
    have y0 := tw6.1; have y1 := tw6.2.1
    have tz : Two (w6.alloc (.cells #[.int .i64 a, .int .i64 1] 35)) w6.heap.size (.int .i64 a) (.int .i64 1) := by simp [Two, go_sem]
    have z0 := tz.1; have z1 := tz.2.1
    have B6 := bal (bon (bon (bon (bon B2 hb3) hb4) hb5) hb6) (.cells #[.int .i64 a, .int .i64 1] 35)
    clear tw tw5 tw6 tz x0 x1 hX hY hb3 hb4 hb5 hb6 B2 O1 O2 M1 M2 W1
    generalize hW : w6.alloc (.cells #[.int .i64 a, .int .i64 1] 35) = W6 at *
    generalize hZ : w6.heap.size = Z at *
    first
      | (have q : 0 < o2 := by have := of_decide_eq_true pos; omega
         clear pos
         go_wp2
         go_ret
         exact ⟨rfl, B6⟩)
      | (clear pos
         go_wp2
         go_ret
         exact ⟨rfl, B6⟩)
end Go.Proofs.Ytbdopdfnccnflaa
