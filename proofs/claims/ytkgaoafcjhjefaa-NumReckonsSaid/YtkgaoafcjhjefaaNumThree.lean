/-
  What NumThree does: it returns true, whatever the six numbers are.
-/
import Derived.Test.YtkgaoafcjhjefaaNumQ
namespace Go.Proofs.Ytkgaoafcjhjefaa
open Go.RowKit Go.Shelf

theorem Two.set_same {w : World} {b : Nat} {x y : Value} (h : Two w b x y) (u v : Value) : Two ((w.setCell ⟨b, 0, none⟩ u).setCell ⟨b, 1, none⟩ v) b u v := by
  obtain ⟨h0, h1, f0, f1⟩ := h
  simp [Two, go_sem, h0, h1, f0, f1]
theorem Two.set_other {w : World} {b c : Nat} {x y : Value} (h : Two w b x y) (_hne : c ≠ b) (u v : Value) : Two ((w.setCell ⟨c, 0, none⟩ u).setCell ⟨c, 1, none⟩ v) b x y := by
  obtain ⟨h0, h1, f0, f1⟩ := h
  refine ⟨?_, ?_, ?_, ?_⟩
  · rw [World.cell?_setCell_other _ _ _ _ (by simp), World.cell?_setCell_other _ _ _ _ (by simp)]; exact h0
  · rw [World.cell?_setCell_other _ _ _ _ (by simp), World.cell?_setCell_other _ _ _ _ (by simp)]; exact h1
  · simpa [go_sem] using f0
  · simpa [go_sem] using f1
set_option maxHeartbeats 4000000 in
set_option maxRecDepth 100000 in
theorem three_none (p q r s t u ap aq bp bq cp cq : Int) (g h : Bool) (w : World)
    (R1 : Hid (∀ w, Calls Try.prog 29 #[.int .i64 p, .int .i64 q, .int .i64 r, .int .i64 s] w fun e w' => e = .returned (.tuple #[.agg #[.int .i64 ap, .int .i64 aq], .agg #[.int .i64 bp, .int .i64 bq], .bool g]) ∧ Below w.heap.size w w'))
    (M1 : Hid (∀ w, Calls Try.prog 26 #[.int .i64 t, .int .i64 u] w fun e w' => e = .returned (.tuple #[.agg #[.int .i64 cp, .int .i64 cq], .bool h]) ∧ Below w.heap.size w w'))
    (hs : g = false ∨ (g = true ∧ h = false)) :
    Calls Try.prog 13 #[.int .i64 p, .int .i64 q, .int .i64 r, .int .i64 s, .int .i64 t, .int .i64 u] w fun e w' => e = .returned (.bool true) ∧ Below w.heap.size w w' := by
  rcases hs with rfl | ⟨rfl, rfl⟩
  all_goals
    go_enter Try.func13, Try.ntmps13
    go_wp2_with fail
    refine (shown_any _).mono ?_; rintro e w1 ⟨rfl, hb1⟩
    have z1 := hb1.size; (try simp at z1)
    go_wp2_with fail
    refine (R1.out _).mono ?_; rintro e w2 ⟨rfl, hb2⟩
    have z2 := hb2.size; (try simp at z2)
    go_wp2_with fail
    refine (M1.out _).mono ?_; rintro e w3 ⟨rfl, hb3⟩
    have z3 := hb3.size; (try simp at z3)
    have t_a : Two w3 (w2.heap.size) (.int .i64 ap) (.int .i64 aq) := Two.later hb3 (by simp [Two, go_sem])
    have t_b : Two w3 (w2.heap.size + 1) (.int .i64 bp) (.int .i64 bq) := Two.later hb3 (by simp [Two, go_sem])
    go_wp2
    go_ret
    exact ⟨rfl, (by repeat (first | exact Below.refl _ _ | (refine bset ?_ (by simp <;> omega) _) | (refine bon ?_ (by assumption)) | refine bdrew ?_ | refine bal ?_ _))⟩
set_option maxHeartbeats 4000000 in
set_option maxRecDepth 100000 in
theorem three_core (p q r s t u ap aq bp bq cp cq dp dq ep eq xp xq yp yq mp mq np nq zp zq vvp vvq : Int) (one two three four one' two' three' four' : Bool) (w : World)
    (R1 : Hid (∀ w, Calls Try.prog 29 #[.int .i64 p, .int .i64 q, .int .i64 r, .int .i64 s] w fun e w' => e = .returned (.tuple #[.agg #[.int .i64 ap, .int .i64 aq], .agg #[.int .i64 bp, .int .i64 bq], .bool true]) ∧ Below w.heap.size w w'))
    (M1 : Hid (∀ w, Calls Try.prog 26 #[.int .i64 t, .int .i64 u] w fun e w' => e = .returned (.tuple #[.agg #[.int .i64 cp, .int .i64 cq], .bool true]) ∧ Below w.heap.size w w'))
    (P1 : Hid (∀ w, Calls Try.prog 30 #[.agg #[.int .i64 ap, .int .i64 aq], .agg #[.int .i64 bp, .int .i64 bq]] w fun e w' => e = .returned (.tuple #[.agg #[.int .i64 dp, .int .i64 dq], .bool one]) ∧ Below w.heap.size w w'))
    (P2 : Hid (∀ w, Calls Try.prog 30 #[.agg #[.int .i64 bp, .int .i64 bq], .agg #[.int .i64 cp, .int .i64 cq]] w fun e w' => e = .returned (.tuple #[.agg #[.int .i64 ep, .int .i64 eq], .bool two]) ∧ Below w.heap.size w w'))
    (P3 : Hid (∀ w, Calls Try.prog 30 #[.agg #[.int .i64 dp, .int .i64 dq], .agg #[.int .i64 cp, .int .i64 cq]] w fun e w' => e = .returned (.tuple #[.agg #[.int .i64 xp, .int .i64 xq], .bool three]) ∧ Below w.heap.size w w'))
    (P4 : Hid (∀ w, Calls Try.prog 30 #[.agg #[.int .i64 ap, .int .i64 aq], .agg #[.int .i64 ep, .int .i64 eq]] w fun e w' => e = .returned (.tuple #[.agg #[.int .i64 yp, .int .i64 yq], .bool four]) ∧ Below w.heap.size w w'))
    (T1 : Hid (∀ w, Calls Try.prog 32 #[.agg #[.int .i64 ap, .int .i64 aq], .agg #[.int .i64 bp, .int .i64 bq]] w fun e w' => e = .returned (.tuple #[.agg #[.int .i64 mp, .int .i64 mq], .bool one']) ∧ Below w.heap.size w w'))
    (T2 : Hid (∀ w, Calls Try.prog 32 #[.agg #[.int .i64 bp, .int .i64 bq], .agg #[.int .i64 cp, .int .i64 cq]] w fun e w' => e = .returned (.tuple #[.agg #[.int .i64 np, .int .i64 nq], .bool two']) ∧ Below w.heap.size w w'))
    (T3 : Hid (∀ w, Calls Try.prog 32 #[.agg #[.int .i64 mp, .int .i64 mq], .agg #[.int .i64 cp, .int .i64 cq]] w fun e w' => e = .returned (.tuple #[.agg #[.int .i64 zp, .int .i64 zq], .bool three']) ∧ Below w.heap.size w w'))
    (T4 : Hid (∀ w, Calls Try.prog 32 #[.agg #[.int .i64 ap, .int .i64 aq], .agg #[.int .i64 np, .int .i64 nq]] w fun e w' => e = .returned (.tuple #[.agg #[.int .i64 vvp, .int .i64 vvq], .bool four']) ∧ Below w.heap.size w w'))
    (hs : one = false ∨ (one = true ∧ two = false) ∨ (one = true ∧ two = true ∧ three = four ∧ xp = yp ∧ xq = yq))
    (ht : one' = false ∨ (one' = true ∧ two' = false) ∨ (one' = true ∧ two' = true ∧ three' = four' ∧ zp = vvp ∧ zq = vvq)) :
    Calls Try.prog 13 #[.int .i64 p, .int .i64 q, .int .i64 r, .int .i64 s, .int .i64 t, .int .i64 u] w fun e w' => e = .returned (.bool true) ∧ Below w.heap.size w w' := by
  go_enter Try.func13, Try.ntmps13
  go_wp2_with fail
  refine (shown_any _).mono ?_; rintro e w1 ⟨rfl, hb1⟩
  have z1 := hb1.size; (try simp at z1)
  go_wp2_with fail
  refine (R1.out _).mono ?_; rintro e w2 ⟨rfl, hb2⟩
  have z2 := hb2.size; (try simp at z2)
  go_wp2_with fail
  refine (M1.out _).mono ?_; rintro e w3 ⟨rfl, hb3⟩
  have z3 := hb3.size; (try simp at z3)
  have t_a : Two w3 (w2.heap.size) (.int .i64 ap) (.int .i64 aq) := Two.later hb3 (by simp [Two, go_sem])
  have t_b : Two w3 (w2.heap.size + 1) (.int .i64 bp) (.int .i64 bq) := Two.later hb3 (by simp [Two, go_sem])
  have x0_a : ∀ o0, (w3.alloc o0).cell? ⟨w2.heap.size, 0, none⟩ = some (.int .i64 ap) := fun o0 => (Two.later (bal (Below.refl _ _) o0) t_a).1
  have x1_a : ∀ o0, (w3.alloc o0).cell? ⟨w2.heap.size, 1, none⟩ = some (.int .i64 aq) := fun o0 => (Two.later (bal (Below.refl _ _) o0) t_a).2.1
  have y0_a : ∀ o0, (w3.alloc o0).frozen? ⟨w2.heap.size, 0, none⟩ = false := fun o0 => (Two.later (bal (Below.refl _ _) o0) t_a).2.2.1
  have y1_a : ∀ o0, (w3.alloc o0).frozen? ⟨w2.heap.size, 1, none⟩ = false := fun o0 => (Two.later (bal (Below.refl _ _) o0) t_a).2.2.2
  have x0_b : ∀ o0, (w3.alloc o0).cell? ⟨w2.heap.size + 1, 0, none⟩ = some (.int .i64 bp) := fun o0 => (Two.later (bal (Below.refl _ _) o0) t_b).1
  have x1_b : ∀ o0, (w3.alloc o0).cell? ⟨w2.heap.size + 1, 1, none⟩ = some (.int .i64 bq) := fun o0 => (Two.later (bal (Below.refl _ _) o0) t_b).2.1
  have y0_b : ∀ o0, (w3.alloc o0).frozen? ⟨w2.heap.size + 1, 0, none⟩ = false := fun o0 => (Two.later (bal (Below.refl _ _) o0) t_b).2.2.1
  have y1_b : ∀ o0, (w3.alloc o0).frozen? ⟨w2.heap.size + 1, 1, none⟩ = false := fun o0 => (Two.later (bal (Below.refl _ _) o0) t_b).2.2.2
  go_wp2_with fail
  refine (P1.out _).mono ?_; rintro e w4 ⟨rfl, hb4⟩
  clear x0_a x1_a y0_a y1_a x0_b x1_b y0_b y1_b
  have z4 := hb4.size; (try simp at z4)
  replace t_a := Two.later hb4 (Two.later (bal (Below.refl _ _) _) t_a)
  replace t_b := Two.later hb4 (Two.later (bal (Below.refl _ _) _) t_b)
  have t_c : Two w4 (w3.heap.size) (.int .i64 cp) (.int .i64 cq) := Two.later hb4 (by simp [Two, go_sem])
  have x0_b : ∀ o0, (w4.alloc o0).cell? ⟨w2.heap.size + 1, 0, none⟩ = some (.int .i64 bp) := fun o0 => (Two.later (bal (Below.refl _ _) o0) t_b).1
  have x1_b : ∀ o0, (w4.alloc o0).cell? ⟨w2.heap.size + 1, 1, none⟩ = some (.int .i64 bq) := fun o0 => (Two.later (bal (Below.refl _ _) o0) t_b).2.1
  have y0_b : ∀ o0, (w4.alloc o0).frozen? ⟨w2.heap.size + 1, 0, none⟩ = false := fun o0 => (Two.later (bal (Below.refl _ _) o0) t_b).2.2.1
  have y1_b : ∀ o0, (w4.alloc o0).frozen? ⟨w2.heap.size + 1, 1, none⟩ = false := fun o0 => (Two.later (bal (Below.refl _ _) o0) t_b).2.2.2
  have x0_c : ∀ o0, (w4.alloc o0).cell? ⟨w3.heap.size, 0, none⟩ = some (.int .i64 cp) := fun o0 => (Two.later (bal (Below.refl _ _) o0) t_c).1
  have x1_c : ∀ o0, (w4.alloc o0).cell? ⟨w3.heap.size, 1, none⟩ = some (.int .i64 cq) := fun o0 => (Two.later (bal (Below.refl _ _) o0) t_c).2.1
  have y0_c : ∀ o0, (w4.alloc o0).frozen? ⟨w3.heap.size, 0, none⟩ = false := fun o0 => (Two.later (bal (Below.refl _ _) o0) t_c).2.2.1
  have y1_c : ∀ o0, (w4.alloc o0).frozen? ⟨w3.heap.size, 1, none⟩ = false := fun o0 => (Two.later (bal (Below.refl _ _) o0) t_c).2.2.2
  go_wp2_with fail
  refine (P2.out _).mono ?_; rintro e w5 ⟨rfl, hb5⟩
  clear x0_b x1_b y0_b y1_b x0_c x1_c y0_c y1_c
  have z5 := hb5.size; (try simp at z5)
  replace t_a := Two.later hb5 (Two.later (bal (Below.refl _ _) _) t_a)
  replace t_b := Two.later hb5 (Two.later (bal (Below.refl _ _) _) t_b)
  replace t_c := Two.later hb5 (Two.later (bal (Below.refl _ _) _) t_c)
  have t_d : Two w5 (w4.heap.size) (.int .i64 dp) (.int .i64 dq) := Two.later hb5 (by simp [Two, go_sem])
  have x0_d : ∀ o0, (w5.alloc o0).cell? ⟨w4.heap.size, 0, none⟩ = some (.int .i64 dp) := fun o0 => (Two.later (bal (Below.refl _ _) o0) t_d).1
  have x1_d : ∀ o0, (w5.alloc o0).cell? ⟨w4.heap.size, 1, none⟩ = some (.int .i64 dq) := fun o0 => (Two.later (bal (Below.refl _ _) o0) t_d).2.1
  have y0_d : ∀ o0, (w5.alloc o0).frozen? ⟨w4.heap.size, 0, none⟩ = false := fun o0 => (Two.later (bal (Below.refl _ _) o0) t_d).2.2.1
  have y1_d : ∀ o0, (w5.alloc o0).frozen? ⟨w4.heap.size, 1, none⟩ = false := fun o0 => (Two.later (bal (Below.refl _ _) o0) t_d).2.2.2
  have x0_c : ∀ o0, (w5.alloc o0).cell? ⟨w3.heap.size, 0, none⟩ = some (.int .i64 cp) := fun o0 => (Two.later (bal (Below.refl _ _) o0) t_c).1
  have x1_c : ∀ o0, (w5.alloc o0).cell? ⟨w3.heap.size, 1, none⟩ = some (.int .i64 cq) := fun o0 => (Two.later (bal (Below.refl _ _) o0) t_c).2.1
  have y0_c : ∀ o0, (w5.alloc o0).frozen? ⟨w3.heap.size, 0, none⟩ = false := fun o0 => (Two.later (bal (Below.refl _ _) o0) t_c).2.2.1
  have y1_c : ∀ o0, (w5.alloc o0).frozen? ⟨w3.heap.size, 1, none⟩ = false := fun o0 => (Two.later (bal (Below.refl _ _) o0) t_c).2.2.2
  go_wp2_with fail
  refine (P3.out _).mono ?_; rintro e w6 ⟨rfl, hb6⟩
  clear x0_d x1_d y0_d y1_d x0_c x1_c y0_c y1_c
  have z6 := hb6.size; (try simp at z6)
  replace t_a := Two.later hb6 (Two.later (bal (Below.refl _ _) _) t_a)
  replace t_b := Two.later hb6 (Two.later (bal (Below.refl _ _) _) t_b)
  replace t_c := Two.later hb6 (Two.later (bal (Below.refl _ _) _) t_c)
  replace t_d := Two.later hb6 (Two.later (bal (Below.refl _ _) _) t_d)
  have t_e : Two w6 (w5.heap.size) (.int .i64 ep) (.int .i64 eq) := Two.later hb6 (by simp [Two, go_sem])
  have x0_a : ∀ o0, (w6.alloc o0).cell? ⟨w2.heap.size, 0, none⟩ = some (.int .i64 ap) := fun o0 => (Two.later (bal (Below.refl _ _) o0) t_a).1
  have x1_a : ∀ o0, (w6.alloc o0).cell? ⟨w2.heap.size, 1, none⟩ = some (.int .i64 aq) := fun o0 => (Two.later (bal (Below.refl _ _) o0) t_a).2.1
  have y0_a : ∀ o0, (w6.alloc o0).frozen? ⟨w2.heap.size, 0, none⟩ = false := fun o0 => (Two.later (bal (Below.refl _ _) o0) t_a).2.2.1
  have y1_a : ∀ o0, (w6.alloc o0).frozen? ⟨w2.heap.size, 1, none⟩ = false := fun o0 => (Two.later (bal (Below.refl _ _) o0) t_a).2.2.2
  have x0_e : ∀ o0, (w6.alloc o0).cell? ⟨w5.heap.size, 0, none⟩ = some (.int .i64 ep) := fun o0 => (Two.later (bal (Below.refl _ _) o0) t_e).1
  have x1_e : ∀ o0, (w6.alloc o0).cell? ⟨w5.heap.size, 1, none⟩ = some (.int .i64 eq) := fun o0 => (Two.later (bal (Below.refl _ _) o0) t_e).2.1
  have y0_e : ∀ o0, (w6.alloc o0).frozen? ⟨w5.heap.size, 0, none⟩ = false := fun o0 => (Two.later (bal (Below.refl _ _) o0) t_e).2.2.1
  have y1_e : ∀ o0, (w6.alloc o0).frozen? ⟨w5.heap.size, 1, none⟩ = false := fun o0 => (Two.later (bal (Below.refl _ _) o0) t_e).2.2.2
  go_wp2_with fail
  refine (P4.out _).mono ?_; rintro e w7 ⟨rfl, hb7⟩
  clear x0_a x1_a y0_a y1_a x0_e x1_e y0_e y1_e
  have z7 := hb7.size; (try simp at z7)
  replace t_a := Two.later hb7 (Two.later (bal (Below.refl _ _) _) t_a)
  replace t_b := Two.later hb7 (Two.later (bal (Below.refl _ _) _) t_b)
  replace t_c := Two.later hb7 (Two.later (bal (Below.refl _ _) _) t_c)
  replace t_d := Two.later hb7 (Two.later (bal (Below.refl _ _) _) t_d)
  replace t_e := Two.later hb7 (Two.later (bal (Below.refl _ _) _) t_e)
  have t_x : Two w7 (w6.heap.size) (.int .i64 xp) (.int .i64 xq) := Two.later hb7 (by simp [Two, go_sem])
  have x0_x : ∀ o0, (w7.alloc o0).cell? ⟨w6.heap.size, 0, none⟩ = some (.int .i64 xp) := fun o0 => (Two.later (bal (Below.refl _ _) o0) t_x).1
  have x1_x : ∀ o0, (w7.alloc o0).cell? ⟨w6.heap.size, 1, none⟩ = some (.int .i64 xq) := fun o0 => (Two.later (bal (Below.refl _ _) o0) t_x).2.1
  have y0_x : ∀ o0, (w7.alloc o0).frozen? ⟨w6.heap.size, 0, none⟩ = false := fun o0 => (Two.later (bal (Below.refl _ _) o0) t_x).2.2.1
  have y1_x : ∀ o0, (w7.alloc o0).frozen? ⟨w6.heap.size, 1, none⟩ = false := fun o0 => (Two.later (bal (Below.refl _ _) o0) t_x).2.2.2
  have x0_a : ∀ o0, (w7.alloc o0).cell? ⟨w2.heap.size, 0, none⟩ = some (.int .i64 ap) := fun o0 => (Two.later (bal (Below.refl _ _) o0) t_a).1
  have x1_a : ∀ o0, (w7.alloc o0).cell? ⟨w2.heap.size, 1, none⟩ = some (.int .i64 aq) := fun o0 => (Two.later (bal (Below.refl _ _) o0) t_a).2.1
  have y0_a : ∀ o0, (w7.alloc o0).frozen? ⟨w2.heap.size, 0, none⟩ = false := fun o0 => (Two.later (bal (Below.refl _ _) o0) t_a).2.2.1
  have y1_a : ∀ o0, (w7.alloc o0).frozen? ⟨w2.heap.size, 1, none⟩ = false := fun o0 => (Two.later (bal (Below.refl _ _) o0) t_a).2.2.2
  have x0_b : ∀ o0, (w7.alloc o0).cell? ⟨w2.heap.size + 1, 0, none⟩ = some (.int .i64 bp) := fun o0 => (Two.later (bal (Below.refl _ _) o0) t_b).1
  have x1_b : ∀ o0, (w7.alloc o0).cell? ⟨w2.heap.size + 1, 1, none⟩ = some (.int .i64 bq) := fun o0 => (Two.later (bal (Below.refl _ _) o0) t_b).2.1
  have y0_b : ∀ o0, (w7.alloc o0).frozen? ⟨w2.heap.size + 1, 0, none⟩ = false := fun o0 => (Two.later (bal (Below.refl _ _) o0) t_b).2.2.1
  have y1_b : ∀ o0, (w7.alloc o0).frozen? ⟨w2.heap.size + 1, 1, none⟩ = false := fun o0 => (Two.later (bal (Below.refl _ _) o0) t_b).2.2.2
  rcases hs with rfl | ⟨rfl, rfl⟩ | ⟨rfl, rfl, rfl, rfl, rfl⟩
  · go_wp2_with fail
    refine (T1.out _).mono ?_; rintro e w8 ⟨rfl, hb8⟩
    clear x0_x x1_x y0_x y1_x x0_a x1_a y0_a y1_a x0_b x1_b y0_b y1_b
    have z8 := hb8.size; (try simp at z8)
    replace t_a := Two.later hb8 (Two.later (bal (Below.refl _ _) _) t_a)
    replace t_b := Two.later hb8 (Two.later (bal (Below.refl _ _) _) t_b)
    replace t_c := Two.later hb8 (Two.later (bal (Below.refl _ _) _) t_c)
    replace t_d := Two.later hb8 (Two.later (bal (Below.refl _ _) _) t_d)
    replace t_e := Two.later hb8 (Two.later (bal (Below.refl _ _) _) t_e)
    replace t_x := Two.later hb8 (Two.later (bal (Below.refl _ _) _) t_x)
    have t_y : Two w8 (w7.heap.size) (.int .i64 yp) (.int .i64 yq) := Two.later hb8 (by simp [Two, go_sem])
    have x0_b : ∀ o0, (w8.alloc o0).cell? ⟨w2.heap.size + 1, 0, none⟩ = some (.int .i64 bp) := fun o0 => (Two.later (bal (Below.refl _ _) o0) t_b).1
    have x1_b : ∀ o0, (w8.alloc o0).cell? ⟨w2.heap.size + 1, 1, none⟩ = some (.int .i64 bq) := fun o0 => (Two.later (bal (Below.refl _ _) o0) t_b).2.1
    have y0_b : ∀ o0, (w8.alloc o0).frozen? ⟨w2.heap.size + 1, 0, none⟩ = false := fun o0 => (Two.later (bal (Below.refl _ _) o0) t_b).2.2.1
    have y1_b : ∀ o0, (w8.alloc o0).frozen? ⟨w2.heap.size + 1, 1, none⟩ = false := fun o0 => (Two.later (bal (Below.refl _ _) o0) t_b).2.2.2
    have x0_c : ∀ o0, (w8.alloc o0).cell? ⟨w3.heap.size, 0, none⟩ = some (.int .i64 cp) := fun o0 => (Two.later (bal (Below.refl _ _) o0) t_c).1
    have x1_c : ∀ o0, (w8.alloc o0).cell? ⟨w3.heap.size, 1, none⟩ = some (.int .i64 cq) := fun o0 => (Two.later (bal (Below.refl _ _) o0) t_c).2.1
    have y0_c : ∀ o0, (w8.alloc o0).frozen? ⟨w3.heap.size, 0, none⟩ = false := fun o0 => (Two.later (bal (Below.refl _ _) o0) t_c).2.2.1
    have y1_c : ∀ o0, (w8.alloc o0).frozen? ⟨w3.heap.size, 1, none⟩ = false := fun o0 => (Two.later (bal (Below.refl _ _) o0) t_c).2.2.2
    go_wp2_with fail
    refine (T2.out _).mono ?_; rintro e w9 ⟨rfl, hb9⟩
    clear x0_b x1_b y0_b y1_b x0_c x1_c y0_c y1_c
    have z9 := hb9.size; (try simp at z9)
    replace t_a := Two.later hb9 (Two.later (bal (Below.refl _ _) _) t_a)
    replace t_b := Two.later hb9 (Two.later (bal (Below.refl _ _) _) t_b)
    replace t_c := Two.later hb9 (Two.later (bal (Below.refl _ _) _) t_c)
    replace t_d := Two.later hb9 (Two.later (bal (Below.refl _ _) _) t_d)
    replace t_e := Two.later hb9 (Two.later (bal (Below.refl _ _) _) t_e)
    replace t_x := Two.later hb9 (Two.later (bal (Below.refl _ _) _) t_x)
    replace t_y := Two.later hb9 (Two.later (bal (Below.refl _ _) _) t_y)
    have t_m : Two w9 (w8.heap.size) (.int .i64 mp) (.int .i64 mq) := Two.later hb9 (by simp [Two, go_sem])
    have x0_m : ∀ o0, (w9.alloc o0).cell? ⟨w8.heap.size, 0, none⟩ = some (.int .i64 mp) := fun o0 => (Two.later (bal (Below.refl _ _) o0) t_m).1
    have x1_m : ∀ o0, (w9.alloc o0).cell? ⟨w8.heap.size, 1, none⟩ = some (.int .i64 mq) := fun o0 => (Two.later (bal (Below.refl _ _) o0) t_m).2.1
    have y0_m : ∀ o0, (w9.alloc o0).frozen? ⟨w8.heap.size, 0, none⟩ = false := fun o0 => (Two.later (bal (Below.refl _ _) o0) t_m).2.2.1
    have y1_m : ∀ o0, (w9.alloc o0).frozen? ⟨w8.heap.size, 1, none⟩ = false := fun o0 => (Two.later (bal (Below.refl _ _) o0) t_m).2.2.2
    have x0_c : ∀ o0, (w9.alloc o0).cell? ⟨w3.heap.size, 0, none⟩ = some (.int .i64 cp) := fun o0 => (Two.later (bal (Below.refl _ _) o0) t_c).1
    have x1_c : ∀ o0, (w9.alloc o0).cell? ⟨w3.heap.size, 1, none⟩ = some (.int .i64 cq) := fun o0 => (Two.later (bal (Below.refl _ _) o0) t_c).2.1
    have y0_c : ∀ o0, (w9.alloc o0).frozen? ⟨w3.heap.size, 0, none⟩ = false := fun o0 => (Two.later (bal (Below.refl _ _) o0) t_c).2.2.1
    have y1_c : ∀ o0, (w9.alloc o0).frozen? ⟨w3.heap.size, 1, none⟩ = false := fun o0 => (Two.later (bal (Below.refl _ _) o0) t_c).2.2.2
    go_wp2_with fail
    refine (T3.out _).mono ?_; rintro e w10 ⟨rfl, hb10⟩
    clear x0_m x1_m y0_m y1_m x0_c x1_c y0_c y1_c
    have z10 := hb10.size; (try simp at z10)
    replace t_a := Two.later hb10 (Two.later (bal (Below.refl _ _) _) t_a)
    replace t_b := Two.later hb10 (Two.later (bal (Below.refl _ _) _) t_b)
    replace t_c := Two.later hb10 (Two.later (bal (Below.refl _ _) _) t_c)
    replace t_d := Two.later hb10 (Two.later (bal (Below.refl _ _) _) t_d)
    replace t_e := Two.later hb10 (Two.later (bal (Below.refl _ _) _) t_e)
    replace t_x := Two.later hb10 (Two.later (bal (Below.refl _ _) _) t_x)
    replace t_y := Two.later hb10 (Two.later (bal (Below.refl _ _) _) t_y)
    replace t_m := Two.later hb10 (Two.later (bal (Below.refl _ _) _) t_m)
    have t_n : Two w10 (w9.heap.size) (.int .i64 np) (.int .i64 nq) := Two.later hb10 (by simp [Two, go_sem])
    have x0_x := t_x.1
    have x1_x := t_x.2.1
    have y0_x := t_x.2.2.1
    have y1_x := t_x.2.2.2
    have m0_a : ∀ u0 u1, ((w10.setCell ⟨w6.heap.size, 0, none⟩ u0).setCell ⟨w6.heap.size, 1, none⟩ u1).cell? ⟨w2.heap.size, 0, none⟩ = some (.int .i64 ap) := fun u0 u1 => (Two.set_other t_a (by omega) u0 u1).1
    have m1_a : ∀ u0 u1, ((w10.setCell ⟨w6.heap.size, 0, none⟩ u0).setCell ⟨w6.heap.size, 1, none⟩ u1).cell? ⟨w2.heap.size, 1, none⟩ = some (.int .i64 aq) := fun u0 u1 => (Two.set_other t_a (by omega) u0 u1).2.1
    have m0_n : ∀ u0 u1, ((w10.setCell ⟨w6.heap.size, 0, none⟩ u0).setCell ⟨w6.heap.size, 1, none⟩ u1).cell? ⟨w9.heap.size, 0, none⟩ = some (.int .i64 np) := fun u0 u1 => (Two.set_other t_n (by omega) u0 u1).1
    have m1_n : ∀ u0 u1, ((w10.setCell ⟨w6.heap.size, 0, none⟩ u0).setCell ⟨w6.heap.size, 1, none⟩ u1).cell? ⟨w9.heap.size, 1, none⟩ = some (.int .i64 nq) := fun u0 u1 => (Two.set_other t_n (by omega) u0 u1).2.1
    go_wp2_with fail
    refine (T4.out _).mono ?_; rintro e w11 ⟨rfl, hb11⟩
    clear x0_x x1_x y0_x y1_x m0_a m1_a m0_n m1_n
    have z11 := hb11.size; (try simp at z11)
    replace t_a := Two.later hb11 (Two.set_other t_a (by omega) _ _)
    replace t_b := Two.later hb11 (Two.set_other t_b (by omega) _ _)
    replace t_c := Two.later hb11 (Two.set_other t_c (by omega) _ _)
    replace t_d := Two.later hb11 (Two.set_other t_d (by omega) _ _)
    replace t_e := Two.later hb11 (Two.set_other t_e (by omega) _ _)
    replace t_x := Two.later hb11 (Two.set_same t_x _ _)
    replace t_y := Two.later hb11 (Two.set_other t_y (by omega) _ _)
    replace t_m := Two.later hb11 (Two.set_other t_m (by omega) _ _)
    replace t_n := Two.later hb11 (Two.set_other t_n (by omega) _ _)
    have x0_y := t_y.1
    have x1_y := t_y.2.1
    have y0_y := t_y.2.2.1
    have y1_y := t_y.2.2.2
    have m0_x : ∀ u0 u1, ((w11.setCell ⟨w7.heap.size, 0, none⟩ u0).setCell ⟨w7.heap.size, 1, none⟩ u1).cell? ⟨w6.heap.size, 0, none⟩ = some (.int .i64 zp) := fun u0 u1 => (Two.set_other t_x (by omega) u0 u1).1
    have m1_x : ∀ u0 u1, ((w11.setCell ⟨w7.heap.size, 0, none⟩ u0).setCell ⟨w7.heap.size, 1, none⟩ u1).cell? ⟨w6.heap.size, 1, none⟩ = some (.int .i64 zq) := fun u0 u1 => (Two.set_other t_x (by omega) u0 u1).2.1
    rcases ht with rfl | ⟨rfl, rfl⟩ | ⟨rfl, rfl, rfl, rfl, rfl⟩
    all_goals (
      go_wp2
      go_ret
      exact ⟨rfl, (by repeat (first | exact Below.refl _ _ | (refine bset ?_ (by simp <;> omega) _) | (refine bon ?_ (by assumption)) | refine bdrew ?_ | refine bal ?_ _))⟩)
  · go_wp2_with fail
    refine (T1.out _).mono ?_; rintro e w8 ⟨rfl, hb8⟩
    clear x0_x x1_x y0_x y1_x x0_a x1_a y0_a y1_a x0_b x1_b y0_b y1_b
    have z8 := hb8.size; (try simp at z8)
    replace t_a := Two.later hb8 (Two.later (bal (Below.refl _ _) _) t_a)
    replace t_b := Two.later hb8 (Two.later (bal (Below.refl _ _) _) t_b)
    replace t_c := Two.later hb8 (Two.later (bal (Below.refl _ _) _) t_c)
    replace t_d := Two.later hb8 (Two.later (bal (Below.refl _ _) _) t_d)
    replace t_e := Two.later hb8 (Two.later (bal (Below.refl _ _) _) t_e)
    replace t_x := Two.later hb8 (Two.later (bal (Below.refl _ _) _) t_x)
    have t_y : Two w8 (w7.heap.size) (.int .i64 yp) (.int .i64 yq) := Two.later hb8 (by simp [Two, go_sem])
    have x0_b : ∀ o0, (w8.alloc o0).cell? ⟨w2.heap.size + 1, 0, none⟩ = some (.int .i64 bp) := fun o0 => (Two.later (bal (Below.refl _ _) o0) t_b).1
    have x1_b : ∀ o0, (w8.alloc o0).cell? ⟨w2.heap.size + 1, 1, none⟩ = some (.int .i64 bq) := fun o0 => (Two.later (bal (Below.refl _ _) o0) t_b).2.1
    have y0_b : ∀ o0, (w8.alloc o0).frozen? ⟨w2.heap.size + 1, 0, none⟩ = false := fun o0 => (Two.later (bal (Below.refl _ _) o0) t_b).2.2.1
    have y1_b : ∀ o0, (w8.alloc o0).frozen? ⟨w2.heap.size + 1, 1, none⟩ = false := fun o0 => (Two.later (bal (Below.refl _ _) o0) t_b).2.2.2
    have x0_c : ∀ o0, (w8.alloc o0).cell? ⟨w3.heap.size, 0, none⟩ = some (.int .i64 cp) := fun o0 => (Two.later (bal (Below.refl _ _) o0) t_c).1
    have x1_c : ∀ o0, (w8.alloc o0).cell? ⟨w3.heap.size, 1, none⟩ = some (.int .i64 cq) := fun o0 => (Two.later (bal (Below.refl _ _) o0) t_c).2.1
    have y0_c : ∀ o0, (w8.alloc o0).frozen? ⟨w3.heap.size, 0, none⟩ = false := fun o0 => (Two.later (bal (Below.refl _ _) o0) t_c).2.2.1
    have y1_c : ∀ o0, (w8.alloc o0).frozen? ⟨w3.heap.size, 1, none⟩ = false := fun o0 => (Two.later (bal (Below.refl _ _) o0) t_c).2.2.2
    go_wp2_with fail
    refine (T2.out _).mono ?_; rintro e w9 ⟨rfl, hb9⟩
    clear x0_b x1_b y0_b y1_b x0_c x1_c y0_c y1_c
    have z9 := hb9.size; (try simp at z9)
    replace t_a := Two.later hb9 (Two.later (bal (Below.refl _ _) _) t_a)
    replace t_b := Two.later hb9 (Two.later (bal (Below.refl _ _) _) t_b)
    replace t_c := Two.later hb9 (Two.later (bal (Below.refl _ _) _) t_c)
    replace t_d := Two.later hb9 (Two.later (bal (Below.refl _ _) _) t_d)
    replace t_e := Two.later hb9 (Two.later (bal (Below.refl _ _) _) t_e)
    replace t_x := Two.later hb9 (Two.later (bal (Below.refl _ _) _) t_x)
    replace t_y := Two.later hb9 (Two.later (bal (Below.refl _ _) _) t_y)
    have t_m : Two w9 (w8.heap.size) (.int .i64 mp) (.int .i64 mq) := Two.later hb9 (by simp [Two, go_sem])
    have x0_m : ∀ o0, (w9.alloc o0).cell? ⟨w8.heap.size, 0, none⟩ = some (.int .i64 mp) := fun o0 => (Two.later (bal (Below.refl _ _) o0) t_m).1
    have x1_m : ∀ o0, (w9.alloc o0).cell? ⟨w8.heap.size, 1, none⟩ = some (.int .i64 mq) := fun o0 => (Two.later (bal (Below.refl _ _) o0) t_m).2.1
    have y0_m : ∀ o0, (w9.alloc o0).frozen? ⟨w8.heap.size, 0, none⟩ = false := fun o0 => (Two.later (bal (Below.refl _ _) o0) t_m).2.2.1
    have y1_m : ∀ o0, (w9.alloc o0).frozen? ⟨w8.heap.size, 1, none⟩ = false := fun o0 => (Two.later (bal (Below.refl _ _) o0) t_m).2.2.2
    have x0_c : ∀ o0, (w9.alloc o0).cell? ⟨w3.heap.size, 0, none⟩ = some (.int .i64 cp) := fun o0 => (Two.later (bal (Below.refl _ _) o0) t_c).1
    have x1_c : ∀ o0, (w9.alloc o0).cell? ⟨w3.heap.size, 1, none⟩ = some (.int .i64 cq) := fun o0 => (Two.later (bal (Below.refl _ _) o0) t_c).2.1
    have y0_c : ∀ o0, (w9.alloc o0).frozen? ⟨w3.heap.size, 0, none⟩ = false := fun o0 => (Two.later (bal (Below.refl _ _) o0) t_c).2.2.1
    have y1_c : ∀ o0, (w9.alloc o0).frozen? ⟨w3.heap.size, 1, none⟩ = false := fun o0 => (Two.later (bal (Below.refl _ _) o0) t_c).2.2.2
    go_wp2_with fail
    refine (T3.out _).mono ?_; rintro e w10 ⟨rfl, hb10⟩
    clear x0_m x1_m y0_m y1_m x0_c x1_c y0_c y1_c
    have z10 := hb10.size; (try simp at z10)
    replace t_a := Two.later hb10 (Two.later (bal (Below.refl _ _) _) t_a)
    replace t_b := Two.later hb10 (Two.later (bal (Below.refl _ _) _) t_b)
    replace t_c := Two.later hb10 (Two.later (bal (Below.refl _ _) _) t_c)
    replace t_d := Two.later hb10 (Two.later (bal (Below.refl _ _) _) t_d)
    replace t_e := Two.later hb10 (Two.later (bal (Below.refl _ _) _) t_e)
    replace t_x := Two.later hb10 (Two.later (bal (Below.refl _ _) _) t_x)
    replace t_y := Two.later hb10 (Two.later (bal (Below.refl _ _) _) t_y)
    replace t_m := Two.later hb10 (Two.later (bal (Below.refl _ _) _) t_m)
    have t_n : Two w10 (w9.heap.size) (.int .i64 np) (.int .i64 nq) := Two.later hb10 (by simp [Two, go_sem])
    have x0_x := t_x.1
    have x1_x := t_x.2.1
    have y0_x := t_x.2.2.1
    have y1_x := t_x.2.2.2
    have m0_a : ∀ u0 u1, ((w10.setCell ⟨w6.heap.size, 0, none⟩ u0).setCell ⟨w6.heap.size, 1, none⟩ u1).cell? ⟨w2.heap.size, 0, none⟩ = some (.int .i64 ap) := fun u0 u1 => (Two.set_other t_a (by omega) u0 u1).1
    have m1_a : ∀ u0 u1, ((w10.setCell ⟨w6.heap.size, 0, none⟩ u0).setCell ⟨w6.heap.size, 1, none⟩ u1).cell? ⟨w2.heap.size, 1, none⟩ = some (.int .i64 aq) := fun u0 u1 => (Two.set_other t_a (by omega) u0 u1).2.1
    have m0_n : ∀ u0 u1, ((w10.setCell ⟨w6.heap.size, 0, none⟩ u0).setCell ⟨w6.heap.size, 1, none⟩ u1).cell? ⟨w9.heap.size, 0, none⟩ = some (.int .i64 np) := fun u0 u1 => (Two.set_other t_n (by omega) u0 u1).1
    have m1_n : ∀ u0 u1, ((w10.setCell ⟨w6.heap.size, 0, none⟩ u0).setCell ⟨w6.heap.size, 1, none⟩ u1).cell? ⟨w9.heap.size, 1, none⟩ = some (.int .i64 nq) := fun u0 u1 => (Two.set_other t_n (by omega) u0 u1).2.1
    go_wp2_with fail
    refine (T4.out _).mono ?_; rintro e w11 ⟨rfl, hb11⟩
    clear x0_x x1_x y0_x y1_x m0_a m1_a m0_n m1_n
    have z11 := hb11.size; (try simp at z11)
    replace t_a := Two.later hb11 (Two.set_other t_a (by omega) _ _)
    replace t_b := Two.later hb11 (Two.set_other t_b (by omega) _ _)
    replace t_c := Two.later hb11 (Two.set_other t_c (by omega) _ _)
    replace t_d := Two.later hb11 (Two.set_other t_d (by omega) _ _)
    replace t_e := Two.later hb11 (Two.set_other t_e (by omega) _ _)
    replace t_x := Two.later hb11 (Two.set_same t_x _ _)
    replace t_y := Two.later hb11 (Two.set_other t_y (by omega) _ _)
    replace t_m := Two.later hb11 (Two.set_other t_m (by omega) _ _)
    replace t_n := Two.later hb11 (Two.set_other t_n (by omega) _ _)
    have x0_y := t_y.1
    have x1_y := t_y.2.1
    have y0_y := t_y.2.2.1
    have y1_y := t_y.2.2.2
    have m0_x : ∀ u0 u1, ((w11.setCell ⟨w7.heap.size, 0, none⟩ u0).setCell ⟨w7.heap.size, 1, none⟩ u1).cell? ⟨w6.heap.size, 0, none⟩ = some (.int .i64 zp) := fun u0 u1 => (Two.set_other t_x (by omega) u0 u1).1
    have m1_x : ∀ u0 u1, ((w11.setCell ⟨w7.heap.size, 0, none⟩ u0).setCell ⟨w7.heap.size, 1, none⟩ u1).cell? ⟨w6.heap.size, 1, none⟩ = some (.int .i64 zq) := fun u0 u1 => (Two.set_other t_x (by omega) u0 u1).2.1
    rcases ht with rfl | ⟨rfl, rfl⟩ | ⟨rfl, rfl, rfl, rfl, rfl⟩
    all_goals (
      go_wp2
      go_ret
      exact ⟨rfl, (by repeat (first | exact Below.refl _ _ | (refine bset ?_ (by simp <;> omega) _) | (refine bon ?_ (by assumption)) | refine bdrew ?_ | refine bal ?_ _))⟩)
  · go_wp2_with fail
    refine (T1.out _).mono ?_; rintro e w8 ⟨rfl, hb8⟩
    clear x0_x x1_x y0_x y1_x x0_a x1_a y0_a y1_a x0_b x1_b y0_b y1_b
    have z8 := hb8.size; (try simp at z8)
    replace t_a := Two.later hb8 (Two.later (bal (Below.refl _ _) _) t_a)
    replace t_b := Two.later hb8 (Two.later (bal (Below.refl _ _) _) t_b)
    replace t_c := Two.later hb8 (Two.later (bal (Below.refl _ _) _) t_c)
    replace t_d := Two.later hb8 (Two.later (bal (Below.refl _ _) _) t_d)
    replace t_e := Two.later hb8 (Two.later (bal (Below.refl _ _) _) t_e)
    replace t_x := Two.later hb8 (Two.later (bal (Below.refl _ _) _) t_x)
    have t_y : Two w8 (w7.heap.size) (.int .i64 xp) (.int .i64 xq) := Two.later hb8 (by simp [Two, go_sem])
    have x0_b : ∀ o0, (w8.alloc o0).cell? ⟨w2.heap.size + 1, 0, none⟩ = some (.int .i64 bp) := fun o0 => (Two.later (bal (Below.refl _ _) o0) t_b).1
    have x1_b : ∀ o0, (w8.alloc o0).cell? ⟨w2.heap.size + 1, 1, none⟩ = some (.int .i64 bq) := fun o0 => (Two.later (bal (Below.refl _ _) o0) t_b).2.1
    have y0_b : ∀ o0, (w8.alloc o0).frozen? ⟨w2.heap.size + 1, 0, none⟩ = false := fun o0 => (Two.later (bal (Below.refl _ _) o0) t_b).2.2.1
    have y1_b : ∀ o0, (w8.alloc o0).frozen? ⟨w2.heap.size + 1, 1, none⟩ = false := fun o0 => (Two.later (bal (Below.refl _ _) o0) t_b).2.2.2
    have x0_c : ∀ o0, (w8.alloc o0).cell? ⟨w3.heap.size, 0, none⟩ = some (.int .i64 cp) := fun o0 => (Two.later (bal (Below.refl _ _) o0) t_c).1
    have x1_c : ∀ o0, (w8.alloc o0).cell? ⟨w3.heap.size, 1, none⟩ = some (.int .i64 cq) := fun o0 => (Two.later (bal (Below.refl _ _) o0) t_c).2.1
    have y0_c : ∀ o0, (w8.alloc o0).frozen? ⟨w3.heap.size, 0, none⟩ = false := fun o0 => (Two.later (bal (Below.refl _ _) o0) t_c).2.2.1
    have y1_c : ∀ o0, (w8.alloc o0).frozen? ⟨w3.heap.size, 1, none⟩ = false := fun o0 => (Two.later (bal (Below.refl _ _) o0) t_c).2.2.2
    go_wp2_with fail
    refine (T2.out _).mono ?_; rintro e w9 ⟨rfl, hb9⟩
    clear x0_b x1_b y0_b y1_b x0_c x1_c y0_c y1_c
    have z9 := hb9.size; (try simp at z9)
    replace t_a := Two.later hb9 (Two.later (bal (Below.refl _ _) _) t_a)
    replace t_b := Two.later hb9 (Two.later (bal (Below.refl _ _) _) t_b)
    replace t_c := Two.later hb9 (Two.later (bal (Below.refl _ _) _) t_c)
    replace t_d := Two.later hb9 (Two.later (bal (Below.refl _ _) _) t_d)
    replace t_e := Two.later hb9 (Two.later (bal (Below.refl _ _) _) t_e)
    replace t_x := Two.later hb9 (Two.later (bal (Below.refl _ _) _) t_x)
    replace t_y := Two.later hb9 (Two.later (bal (Below.refl _ _) _) t_y)
    have t_m : Two w9 (w8.heap.size) (.int .i64 mp) (.int .i64 mq) := Two.later hb9 (by simp [Two, go_sem])
    have x0_m : ∀ o0, (w9.alloc o0).cell? ⟨w8.heap.size, 0, none⟩ = some (.int .i64 mp) := fun o0 => (Two.later (bal (Below.refl _ _) o0) t_m).1
    have x1_m : ∀ o0, (w9.alloc o0).cell? ⟨w8.heap.size, 1, none⟩ = some (.int .i64 mq) := fun o0 => (Two.later (bal (Below.refl _ _) o0) t_m).2.1
    have y0_m : ∀ o0, (w9.alloc o0).frozen? ⟨w8.heap.size, 0, none⟩ = false := fun o0 => (Two.later (bal (Below.refl _ _) o0) t_m).2.2.1
    have y1_m : ∀ o0, (w9.alloc o0).frozen? ⟨w8.heap.size, 1, none⟩ = false := fun o0 => (Two.later (bal (Below.refl _ _) o0) t_m).2.2.2
    have x0_c : ∀ o0, (w9.alloc o0).cell? ⟨w3.heap.size, 0, none⟩ = some (.int .i64 cp) := fun o0 => (Two.later (bal (Below.refl _ _) o0) t_c).1
    have x1_c : ∀ o0, (w9.alloc o0).cell? ⟨w3.heap.size, 1, none⟩ = some (.int .i64 cq) := fun o0 => (Two.later (bal (Below.refl _ _) o0) t_c).2.1
    have y0_c : ∀ o0, (w9.alloc o0).frozen? ⟨w3.heap.size, 0, none⟩ = false := fun o0 => (Two.later (bal (Below.refl _ _) o0) t_c).2.2.1
    have y1_c : ∀ o0, (w9.alloc o0).frozen? ⟨w3.heap.size, 1, none⟩ = false := fun o0 => (Two.later (bal (Below.refl _ _) o0) t_c).2.2.2
    go_wp2_with fail
    refine (T3.out _).mono ?_; rintro e w10 ⟨rfl, hb10⟩
    clear x0_m x1_m y0_m y1_m x0_c x1_c y0_c y1_c
    have z10 := hb10.size; (try simp at z10)
    replace t_a := Two.later hb10 (Two.later (bal (Below.refl _ _) _) t_a)
    replace t_b := Two.later hb10 (Two.later (bal (Below.refl _ _) _) t_b)
    replace t_c := Two.later hb10 (Two.later (bal (Below.refl _ _) _) t_c)
    replace t_d := Two.later hb10 (Two.later (bal (Below.refl _ _) _) t_d)
    replace t_e := Two.later hb10 (Two.later (bal (Below.refl _ _) _) t_e)
    replace t_x := Two.later hb10 (Two.later (bal (Below.refl _ _) _) t_x)
    replace t_y := Two.later hb10 (Two.later (bal (Below.refl _ _) _) t_y)
    replace t_m := Two.later hb10 (Two.later (bal (Below.refl _ _) _) t_m)
    have t_n : Two w10 (w9.heap.size) (.int .i64 np) (.int .i64 nq) := Two.later hb10 (by simp [Two, go_sem])
    have x0_x := t_x.1
    have x1_x := t_x.2.1
    have y0_x := t_x.2.2.1
    have y1_x := t_x.2.2.2
    have m0_a : ∀ u0 u1, ((w10.setCell ⟨w6.heap.size, 0, none⟩ u0).setCell ⟨w6.heap.size, 1, none⟩ u1).cell? ⟨w2.heap.size, 0, none⟩ = some (.int .i64 ap) := fun u0 u1 => (Two.set_other t_a (by omega) u0 u1).1
    have m1_a : ∀ u0 u1, ((w10.setCell ⟨w6.heap.size, 0, none⟩ u0).setCell ⟨w6.heap.size, 1, none⟩ u1).cell? ⟨w2.heap.size, 1, none⟩ = some (.int .i64 aq) := fun u0 u1 => (Two.set_other t_a (by omega) u0 u1).2.1
    have m0_n : ∀ u0 u1, ((w10.setCell ⟨w6.heap.size, 0, none⟩ u0).setCell ⟨w6.heap.size, 1, none⟩ u1).cell? ⟨w9.heap.size, 0, none⟩ = some (.int .i64 np) := fun u0 u1 => (Two.set_other t_n (by omega) u0 u1).1
    have m1_n : ∀ u0 u1, ((w10.setCell ⟨w6.heap.size, 0, none⟩ u0).setCell ⟨w6.heap.size, 1, none⟩ u1).cell? ⟨w9.heap.size, 1, none⟩ = some (.int .i64 nq) := fun u0 u1 => (Two.set_other t_n (by omega) u0 u1).2.1
    go_wp2_with fail
    refine (T4.out _).mono ?_; rintro e w11 ⟨rfl, hb11⟩
    clear x0_x x1_x y0_x y1_x m0_a m1_a m0_n m1_n
    have z11 := hb11.size; (try simp at z11)
    replace t_a := Two.later hb11 (Two.set_other t_a (by omega) _ _)
    replace t_b := Two.later hb11 (Two.set_other t_b (by omega) _ _)
    replace t_c := Two.later hb11 (Two.set_other t_c (by omega) _ _)
    replace t_d := Two.later hb11 (Two.set_other t_d (by omega) _ _)
    replace t_e := Two.later hb11 (Two.set_other t_e (by omega) _ _)
    replace t_x := Two.later hb11 (Two.set_same t_x _ _)
    replace t_y := Two.later hb11 (Two.set_other t_y (by omega) _ _)
    replace t_m := Two.later hb11 (Two.set_other t_m (by omega) _ _)
    replace t_n := Two.later hb11 (Two.set_other t_n (by omega) _ _)
    have x0_y := t_y.1
    have x1_y := t_y.2.1
    have y0_y := t_y.2.2.1
    have y1_y := t_y.2.2.2
    have m0_x : ∀ u0 u1, ((w11.setCell ⟨w7.heap.size, 0, none⟩ u0).setCell ⟨w7.heap.size, 1, none⟩ u1).cell? ⟨w6.heap.size, 0, none⟩ = some (.int .i64 zp) := fun u0 u1 => (Two.set_other t_x (by omega) u0 u1).1
    have m1_x : ∀ u0 u1, ((w11.setCell ⟨w7.heap.size, 0, none⟩ u0).setCell ⟨w7.heap.size, 1, none⟩ u1).cell? ⟨w6.heap.size, 1, none⟩ = some (.int .i64 zq) := fun u0 u1 => (Two.set_other t_x (by omega) u0 u1).2.1
    rcases ht with rfl | ⟨rfl, rfl⟩ | ⟨rfl, rfl, rfl, rfl, rfl⟩
    all_goals (
      go_wp2
      go_ret
      exact ⟨rfl, (by repeat (first | exact Below.refl _ _ | (refine bset ?_ (by simp <;> omega) _) | (refine bon ?_ (by assumption)) | refine bdrew ?_ | refine bal ?_ _))⟩)

theorem told_cases (r : Rat) : told r = none ∨ told r = some r := by
  unfold told; split
  · exact Or.inr rfl
  · exact Or.inl rfl
theorem three_plus (a b c : Rat) : (plusO (some a) (some b)).isSome = false ∨ ((plusO (some a) (some b)).isSome = true ∧ (plusO (some b) (some c)).isSome = false) ∨
    ((plusO (some a) (some b)).isSome = true ∧ (plusO (some b) (some c)).isSome = true ∧ plusO (plusO (some a) (some b)) (some c) = plusO (some a) (plusO (some b) (some c))) := by
  rcases told_cases (a + b) with h | h
  · exact Or.inl (by show (told (a + b)).isSome = false; rw [h]; rfl)
  · rcases told_cases (b + c) with k | k
    · exact Or.inr (Or.inl ⟨by show (told (a + b)).isSome = true; rw [h]; rfl, by show (told (b + c)).isSome = false; rw [k]; rfl⟩)
    · refine Or.inr (Or.inr ⟨by show (told (a + b)).isSome = true; rw [h]; rfl, by show (told (b + c)).isSome = true; rw [k]; rfl, ?_⟩)
      show plusO (told (a + b)) (some c) = plusO (some a) (told (b + c))
      rw [h, k]
      show told (a + b + c) = told (a + (b + c))
      rw [Rat.add_assoc]
theorem three_times (a b c : Rat) : (timesO (some a) (some b)).isSome = false ∨ ((timesO (some a) (some b)).isSome = true ∧ (timesO (some b) (some c)).isSome = false) ∨
    ((timesO (some a) (some b)).isSome = true ∧ (timesO (some b) (some c)).isSome = true ∧ timesO (timesO (some a) (some b)) (some c) = timesO (some a) (timesO (some b) (some c))) := by
  rcases told_cases (a * b) with h | h
  · exact Or.inl (by show (told (a * b)).isSome = false; rw [h]; rfl)
  · rcases told_cases (b * c) with k | k
    · exact Or.inr (Or.inl ⟨by show (told (a * b)).isSome = true; rw [h]; rfl, by show (told (b * c)).isSome = false; rw [k]; rfl⟩)
    · refine Or.inr (Or.inr ⟨by show (told (a * b)).isSome = true; rw [h]; rfl, by show (told (b * c)).isSome = true; rw [k]; rfl, ?_⟩)
      show timesO (told (a * b)) (some c) = timesO (some a) (told (b * c))
      rw [h, k]
      show told (a * b * c) = told (a * (b * c))
      rw [Rat.mul_assoc]
theorem three_law (p q r s t u : Int) (w : World) (hp : fitB p = true) (hq : fitB q = true) (hr : fitB r = true) (hs : fitB s = true) (ht : fitB t = true) (hu : fitB u = true) :
    Calls Try.prog 13 #[.int .i64 p, .int .i64 q, .int .i64 r, .int .i64 s, .int .i64 t, .int .i64 u] w fun e w' => e = .returned (.bool true) ∧ Below w.heap.size w w' := by
  have R1 := fun w => ratsR p q r s w hp hq hr hs
  have M1 := fun w => makeR t u w ht hu
  have f1 := fits_make p q
  have f2 := fits_make r s
  have f3 := fits_make t u
  generalize makeO p q = o1 at *
  generalize makeO r s = o2 at *
  generalize makeO t u = o3 at *
  match o1, o2, o3 with
  | none, _, _ => exact three_none p q r s t u _ _ _ _ _ _ _ _ w R1 M1 (Or.inl rfl)
  | some _, none, _ => exact three_none p q r s t u _ _ _ _ _ _ _ _ w R1 M1 (Or.inl rfl)
  | some _, some _, none => exact three_none p q r s t u _ _ _ _ _ _ _ _ w R1 M1 (Or.inr ⟨rfl, rfl⟩)
  | some a, some b, some c =>
    refine three_core p q r s t u _ _ _ _ _ _ _ _ _ _ _ _ _ _ _ _ _ _ _ _ _ _ _ _ _ _ _ _ _ _ w R1 M1
      (fun w => plusR (some a) (some b) w f1 f2) (fun w => plusR (some b) (some c) w f2 f3) (fun w => plusR _ (some c) w (fits_plus _ _) f3) (fun w => plusR (some a) _ w f1 (fits_plus _ _))
      (fun w => timesR (some a) (some b) w f1 f2) (fun w => timesR (some b) (some c) w f2 f3) (fun w => timesR _ (some c) w (fits_times _ _) f3) (fun w => timesR (some a) _ w f1 (fits_times _ _)) ?_ ?_
    · rcases three_plus a b c with h | ⟨h1, h2⟩ | ⟨h1, h2, h3⟩
      · exact Or.inl h
      · exact Or.inr (Or.inl ⟨h1, h2⟩)
      · exact Or.inr (Or.inr ⟨h1, h2, by rw [h3], by rw [h3], by rw [h3]⟩)
    · rcases three_times a b c with h | ⟨h1, h2⟩ | ⟨h1, h2, h3⟩
      · exact Or.inl h
      · exact Or.inr (Or.inl ⟨h1, h2⟩)
      · exact Or.inr (Or.inr ⟨h1, h2, by rw [h3], by rw [h3], by rw [h3]⟩)
end Go.Proofs.Ytkgaoafcjhjefaa
