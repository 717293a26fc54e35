/-
  What NumReckons does: it returns true, whatever the four numbers are.
-/
import Derived.Test.YtkgaoafcjhjefaaRefP
import Derived.Test.YtkgaoafcjhjefaaNumQ
namespace Go.Proofs.Ytkgaoafcjhjefaa
open Go.RowKit Go.Shelf

set_option maxHeartbeats 1000000 in
theorem sameR (p q : Int) (c : Bool) (w : World) :
    Calls Try.prog 35 #[.agg #[.int .i64 p, .int .i64 q], .bool c, .int .i64 p, .int .i64 q, .bool c] w fun e w' => e = .returned (.bool true) ∧ Below w.heap.size w w' := by
  cases c
  all_goals
    go_enter Try.func35, Try.ntmps35
    go_wp2
    go_ret
    exact ⟨rfl, bal (Below.refl _ _) _⟩

set_option maxHeartbeats 8000000 in
set_option maxRecDepth 100000 in
theorem reckons_none (p q r s ap aq bp bq : Int) (w : World)
    (R1 : Hid (∀ w, Calls Try.prog 29 #[.int .i64 p, .int .i64 q, .int .i64 r, .int .i64 s] w fun e w' => e = .returned (.tuple #[.agg #[.int .i64 ap, .int .i64 aq], .agg #[.int .i64 bp, .int .i64 bq], .bool false]) ∧ Below w.heap.size w w'))
    :
    Calls Try.prog 5 #[.int .i64 p, .int .i64 q, .int .i64 r, .int .i64 s] w fun e w' => e = .returned (.bool true) ∧ Below w.heap.size w w' := by
  go_enter Try.func5, Try.ntmps5
  go_wp2_with fail
  refine (shown_any _).mono ?_; rintro e w1 ⟨rfl, hb1⟩
  have z1 := hb1.size; (try simp at z1)
  go_wp2_with fail
  refine (R1.out _).mono ?_; rintro e w2 ⟨rfl, hb2⟩
  have z2 := hb2.size; (try simp at z2)
  go_wp2
  go_ret
  exact ⟨rfl, (by repeat (first | exact Below.refl _ _ | (refine bset ?_ (by simp <;> omega) _) | (refine bon ?_ (by assumption)) | refine bdrew ?_ | refine bal ?_ _))⟩

theorem six_keep {w w' : World} {X Y Z : Nat} {x0 x1 y0 y1 z0 z1 : Value} (h : w.cell? ⟨X, 0, none⟩ = some x0 ∧ w.cell? ⟨X, 1, none⟩ = some x1 ∧ w.cell? ⟨Y, 0, none⟩ = some y0 ∧ w.cell? ⟨Y, 1, none⟩ = some y1 ∧ w.cell? ⟨Z, 0, none⟩ = some z0 ∧ w.cell? ⟨Z, 1, none⟩ = some z1) (hb : Below w.heap.size w w') :
    w'.cell? ⟨X, 0, none⟩ = some x0 ∧ w'.cell? ⟨X, 1, none⟩ = some x1 ∧ w'.cell? ⟨Y, 0, none⟩ = some y0 ∧ w'.cell? ⟨Y, 1, none⟩ = some y1 ∧ w'.cell? ⟨Z, 0, none⟩ = some z0 ∧ w'.cell? ⟨Z, 1, none⟩ = some z1 :=
  ⟨cell_later hb h.1, cell_later hb h.2.1, cell_later hb h.2.2.1, cell_later hb h.2.2.2.1, cell_later hb h.2.2.2.2.1, cell_later hb h.2.2.2.2.2⟩
set_option maxHeartbeats 8000000 in
set_option maxRecDepth 100000 in
theorem reckons_core (p q r s ap aq bp bq cp cq dp dq ep eq fp fq k : Int) (one two three four : Bool) (w : World)
    (R1 : Hid (∀ w, Calls Try.prog 29 #[.int .i64 p, .int .i64 q, .int .i64 r, .int .i64 s] w fun e w' => e = .returned (.tuple #[.agg #[.int .i64 ap, .int .i64 aq], .agg #[.int .i64 bp, .int .i64 bq], .bool true]) ∧ Below w.heap.size w w'))
    (P1 : Hid (∀ w, Calls Try.prog 30 #[.agg #[.int .i64 ap, .int .i64 aq], .agg #[.int .i64 bp, .int .i64 bq]] w fun e w' => e = .returned (.tuple #[.agg #[.int .i64 cp, .int .i64 cq], .bool one]) ∧ Below w.heap.size w w'))
    (N1 : Hid (∀ w, Calls Try.prog 31 #[.agg #[.int .i64 ap, .int .i64 aq], .agg #[.int .i64 bp, .int .i64 bq]] w fun e w' => e = .returned (.tuple #[.agg #[.int .i64 dp, .int .i64 dq], .bool two]) ∧ Below w.heap.size w w'))
    (T1 : Hid (∀ w, Calls Try.prog 32 #[.agg #[.int .i64 ap, .int .i64 aq], .agg #[.int .i64 bp, .int .i64 bq]] w fun e w' => e = .returned (.tuple #[.agg #[.int .i64 ep, .int .i64 eq], .bool three]) ∧ Below w.heap.size w w'))
    (O1 : Hid (∀ w, Calls Try.prog 33 #[.agg #[.int .i64 ap, .int .i64 aq], .agg #[.int .i64 bp, .int .i64 bq]] w fun e w' => e = .returned (.tuple #[.agg #[.int .i64 fp, .int .i64 fq], .bool four]) ∧ Below w.heap.size w w'))
    (S1 : Hid (∀ w, Calls Try.prog 34 #[.int .i64 ap, .int .i64 aq, .int .i64 bp, .int .i64 bq, .bool false] w fun e w' => e = .returned (.tuple #[.int .i64 cp, .int .i64 cq, .bool one]) ∧ Below w.heap.size w w'))
    (S2 : Hid (∀ w, Calls Try.prog 34 #[.int .i64 ap, .int .i64 aq, .int .i64 bp, .int .i64 bq, .bool true] w fun e w' => e = .returned (.tuple #[.int .i64 dp, .int .i64 dq, .bool two]) ∧ Below w.heap.size w w'))
    (PR : Hid (∀ w, Calls Try.prog 36 #[.int .i64 ap, .int .i64 aq, .int .i64 bp, .int .i64 bq] w fun e w' => e = .returned (.tuple #[.int .i64 ep, .int .i64 eq, .bool three]) ∧ Below w.heap.size w w'))
    (QU : Hid (∀ w, Calls Try.prog 37 #[.int .i64 ap, .int .i64 aq, .int .i64 bp, .int .i64 bq] w fun e w' => e = .returned (.tuple #[.int .i64 fp, .int .i64 fq, .bool four]) ∧ Below w.heap.size w w'))
    (C1 : Hid (∀ w, Calls Try.prog 38 #[.agg #[.int .i64 ap, .int .i64 aq], .agg #[.int .i64 bp, .int .i64 bq]] w fun e w' => e = .returned (.int .i64 k) ∧ Below w.heap.size w w'))
    (C2 : Hid (∀ w, Calls Try.prog 39 #[.int .i64 ap, .int .i64 aq, .int .i64 bp, .int .i64 bq] w fun e w' => e = .returned (.int .i64 k) ∧ Below w.heap.size w w'))
    : Calls Try.prog 5 #[.int .i64 p, .int .i64 q, .int .i64 r, .int .i64 s] w fun e w' => e = .returned (.bool true) ∧ Below w.heap.size w w' := by
  have SA := mkHid sameR
  go_enter Try.func5, Try.ntmps5
  go_wp2_with fail
  refine (shown_any _).mono ?_; rintro e w1 ⟨rfl, hb1⟩
  have z1 := hb1.size; (try simp at z1)
  go_wp2_with fail
  refine (R1.out _).mono ?_; rintro e w2 ⟨rfl, hb2⟩
  have z2 := hb2.size; (try simp at z2)
  go_wp2_with fail
  refine (P1.out _).mono ?_; rintro e w3 ⟨rfl, hb3⟩
  have z3 := hb3.size; (try simp at z3)
  have t_a : Two w3 (w2.heap.size) (.int .i64 ap) (.int .i64 aq) := Two.later hb3 (by simp [Two, go_sem])
  have t_b : Two w3 (w2.heap.size + 1) (.int .i64 bp) (.int .i64 bq) := Two.later hb3 (by simp [Two, go_sem])
  have x0_a : ∀ o0, (w3.alloc o0).cell? ⟨w2.heap.size, 0, none⟩ = some (.int .i64 ap) := fun o0 => (Two.later (bal (Below.refl _ _) o0) t_a).1
  have x1_a : ∀ o0, (w3.alloc o0).cell? ⟨w2.heap.size, 1, none⟩ = some (.int .i64 aq) := fun o0 => (Two.later (bal (Below.refl _ _) o0) t_a).2.1
  have y0_a : ∀ o0, (w3.alloc o0).frozen? ⟨w2.heap.size, 0, none⟩ = false := fun o0 => (Two.later (bal (Below.refl _ _) o0) t_a).2.2.1
  have y1_a : ∀ o0, (w3.alloc o0).frozen? ⟨w2.heap.size, 1, none⟩ = false := fun o0 => (Two.later (bal (Below.refl _ _) o0) t_a).2.2.2
  have x0_b : ∀ o0, (w3.alloc o0).cell? ⟨w2.heap.size + 1, 0, none⟩ = some (.int .i64 bp) := fun o0 => (Two.later (bal (Below.refl _ _) o0) t_b).1
  have x1_b : ∀ o0, (w3.alloc o0).cell? ⟨w2.heap.size + 1, 1, none⟩ = some (.int .i64 bq) := fun o0 => (Two.later (bal (Below.refl _ _) o0) t_b).2.1
  have y0_b : ∀ o0, (w3.alloc o0).frozen? ⟨w2.heap.size + 1, 0, none⟩ = false := fun o0 => (Two.later (bal (Below.refl _ _) o0) t_b).2.2.1
  have y1_b : ∀ o0, (w3.alloc o0).frozen? ⟨w2.heap.size + 1, 1, none⟩ = false := fun o0 => (Two.later (bal (Below.refl _ _) o0) t_b).2.2.2
  go_wp2_with fail
  refine (N1.out _).mono ?_; rintro e w4 ⟨rfl, hb4⟩
  clear x0_a x1_a y0_a y1_a x0_b x1_b y0_b y1_b
  have z4 := hb4.size; (try simp at z4)
  replace t_a := Two.later hb4 (Two.later (bal (Below.refl _ _) _) t_a)
  replace t_b := Two.later hb4 (Two.later (bal (Below.refl _ _) _) t_b)
  have t_c : Two w4 (w3.heap.size) (.int .i64 cp) (.int .i64 cq) := Two.later hb4 (by simp [Two, go_sem])
  have x0_a : ∀ o0, (w4.alloc o0).cell? ⟨w2.heap.size, 0, none⟩ = some (.int .i64 ap) := fun o0 => (Two.later (bal (Below.refl _ _) o0) t_a).1
  have x1_a : ∀ o0, (w4.alloc o0).cell? ⟨w2.heap.size, 1, none⟩ = some (.int .i64 aq) := fun o0 => (Two.later (bal (Below.refl _ _) o0) t_a).2.1
  have y0_a : ∀ o0, (w4.alloc o0).frozen? ⟨w2.heap.size, 0, none⟩ = false := fun o0 => (Two.later (bal (Below.refl _ _) o0) t_a).2.2.1
  have y1_a : ∀ o0, (w4.alloc o0).frozen? ⟨w2.heap.size, 1, none⟩ = false := fun o0 => (Two.later (bal (Below.refl _ _) o0) t_a).2.2.2
  have x0_b : ∀ o0, (w4.alloc o0).cell? ⟨w2.heap.size + 1, 0, none⟩ = some (.int .i64 bp) := fun o0 => (Two.later (bal (Below.refl _ _) o0) t_b).1
  have x1_b : ∀ o0, (w4.alloc o0).cell? ⟨w2.heap.size + 1, 1, none⟩ = some (.int .i64 bq) := fun o0 => (Two.later (bal (Below.refl _ _) o0) t_b).2.1
  have y0_b : ∀ o0, (w4.alloc o0).frozen? ⟨w2.heap.size + 1, 0, none⟩ = false := fun o0 => (Two.later (bal (Below.refl _ _) o0) t_b).2.2.1
  have y1_b : ∀ o0, (w4.alloc o0).frozen? ⟨w2.heap.size + 1, 1, none⟩ = false := fun o0 => (Two.later (bal (Below.refl _ _) o0) t_b).2.2.2
  go_wp2_with fail
  refine (T1.out _).mono ?_; rintro e w5 ⟨rfl, hb5⟩
  clear x0_a x1_a y0_a y1_a x0_b x1_b y0_b y1_b
  have z5 := hb5.size; (try simp at z5)
  replace t_a := Two.later hb5 (Two.later (bal (Below.refl _ _) _) t_a)
  replace t_b := Two.later hb5 (Two.later (bal (Below.refl _ _) _) t_b)
  replace t_c := Two.later hb5 (Two.later (bal (Below.refl _ _) _) t_c)
  have t_d : Two w5 (w4.heap.size) (.int .i64 dp) (.int .i64 dq) := Two.later hb5 (by simp [Two, go_sem])
  have x0_a : ∀ o0, (w5.alloc o0).cell? ⟨w2.heap.size, 0, none⟩ = some (.int .i64 ap) := fun o0 => (Two.later (bal (Below.refl _ _) o0) t_a).1
  have x1_a : ∀ o0, (w5.alloc o0).cell? ⟨w2.heap.size, 1, none⟩ = some (.int .i64 aq) := fun o0 => (Two.later (bal (Below.refl _ _) o0) t_a).2.1
  have y0_a : ∀ o0, (w5.alloc o0).frozen? ⟨w2.heap.size, 0, none⟩ = false := fun o0 => (Two.later (bal (Below.refl _ _) o0) t_a).2.2.1
  have y1_a : ∀ o0, (w5.alloc o0).frozen? ⟨w2.heap.size, 1, none⟩ = false := fun o0 => (Two.later (bal (Below.refl _ _) o0) t_a).2.2.2
  have x0_b : ∀ o0, (w5.alloc o0).cell? ⟨w2.heap.size + 1, 0, none⟩ = some (.int .i64 bp) := fun o0 => (Two.later (bal (Below.refl _ _) o0) t_b).1
  have x1_b : ∀ o0, (w5.alloc o0).cell? ⟨w2.heap.size + 1, 1, none⟩ = some (.int .i64 bq) := fun o0 => (Two.later (bal (Below.refl _ _) o0) t_b).2.1
  have y0_b : ∀ o0, (w5.alloc o0).frozen? ⟨w2.heap.size + 1, 0, none⟩ = false := fun o0 => (Two.later (bal (Below.refl _ _) o0) t_b).2.2.1
  have y1_b : ∀ o0, (w5.alloc o0).frozen? ⟨w2.heap.size + 1, 1, none⟩ = false := fun o0 => (Two.later (bal (Below.refl _ _) o0) t_b).2.2.2
  go_wp2_with fail
  refine (O1.out _).mono ?_; rintro e w6 ⟨rfl, hb6⟩
  clear x0_a x1_a y0_a y1_a x0_b x1_b y0_b y1_b
  have z6 := hb6.size; (try simp at z6)
  replace t_a := Two.later hb6 (Two.later (bal (Below.refl _ _) _) t_a)
  replace t_b := Two.later hb6 (Two.later (bal (Below.refl _ _) _) t_b)
  replace t_c := Two.later hb6 (Two.later (bal (Below.refl _ _) _) t_c)
  replace t_d := Two.later hb6 (Two.later (bal (Below.refl _ _) _) t_d)
  have t_e : Two w6 (w5.heap.size) (.int .i64 ep) (.int .i64 eq) := Two.later hb6 (by simp [Two, go_sem])
  have x0_a : ∀ o0, (w6.alloc o0).cell? ⟨w2.heap.size, 0, none⟩ = some (.int .i64 ap) := fun o0 => (Two.later (bal (Below.refl _ _) o0) t_a).1
  have x1_a : ∀ o0, (w6.alloc o0).cell? ⟨w2.heap.size, 1, none⟩ = some (.int .i64 aq) := fun o0 => (Two.later (bal (Below.refl _ _) o0) t_a).2.1
  have y0_a : ∀ o0, (w6.alloc o0).frozen? ⟨w2.heap.size, 0, none⟩ = false := fun o0 => (Two.later (bal (Below.refl _ _) o0) t_a).2.2.1
  have y1_a : ∀ o0, (w6.alloc o0).frozen? ⟨w2.heap.size, 1, none⟩ = false := fun o0 => (Two.later (bal (Below.refl _ _) o0) t_a).2.2.2
  have x0_b : ∀ o0, (w6.alloc o0).cell? ⟨w2.heap.size + 1, 0, none⟩ = some (.int .i64 bp) := fun o0 => (Two.later (bal (Below.refl _ _) o0) t_b).1
  have x1_b : ∀ o0, (w6.alloc o0).cell? ⟨w2.heap.size + 1, 1, none⟩ = some (.int .i64 bq) := fun o0 => (Two.later (bal (Below.refl _ _) o0) t_b).2.1
  have y0_b : ∀ o0, (w6.alloc o0).frozen? ⟨w2.heap.size + 1, 0, none⟩ = false := fun o0 => (Two.later (bal (Below.refl _ _) o0) t_b).2.2.1
  have y1_b : ∀ o0, (w6.alloc o0).frozen? ⟨w2.heap.size + 1, 1, none⟩ = false := fun o0 => (Two.later (bal (Below.refl _ _) o0) t_b).2.2.2
  go_wp2_with fail
  refine (S1.out _).mono ?_; rintro e w7 ⟨rfl, hb7⟩
  clear x0_a x1_a y0_a y1_a x0_b x1_b y0_b y1_b
  have z7 := hb7.size; (try simp at z7)
  replace t_a := Two.later hb7 (Two.later (bal (Below.refl _ _) _) t_a)
  replace t_b := Two.later hb7 (Two.later (bal (Below.refl _ _) _) t_b)
  replace t_c := Two.later hb7 (Two.later (bal (Below.refl _ _) _) t_c)
  replace t_d := Two.later hb7 (Two.later (bal (Below.refl _ _) _) t_d)
  replace t_e := Two.later hb7 (Two.later (bal (Below.refl _ _) _) t_e)
  have t_f : Two w7 (w6.heap.size) (.int .i64 fp) (.int .i64 fq) := Two.later hb7 (by simp [Two, go_sem])
  have x0_c := t_c.1
  have x1_c := t_c.2.1
  have y0_c := t_c.2.2.1
  have y1_c := t_c.2.2.2
  go_wp2_with fail
  refine (SA.out _ _ _ _).mono ?_; rintro e w8 ⟨rfl, hb8⟩
  clear x0_c x1_c y0_c y1_c
  have z8 := hb8.size; (try simp at z8)
  replace t_a := Two.later hb8 t_a
  replace t_b := Two.later hb8 t_b
  replace t_c := Two.later hb8 t_c
  replace t_d := Two.later hb8 t_d
  replace t_e := Two.later hb8 t_e
  replace t_f := Two.later hb8 t_f
  have x0_a := t_a.1
  have x1_a := t_a.2.1
  have y0_a := t_a.2.2.1
  have y1_a := t_a.2.2.2
  have x0_b := t_b.1
  have x1_b := t_b.2.1
  have y0_b := t_b.2.2.1
  have y1_b := t_b.2.2.2
  go_wp2_with fail
  refine (S2.out _).mono ?_; rintro e w9 ⟨rfl, hb9⟩
  clear x0_a x1_a y0_a y1_a x0_b x1_b y0_b y1_b
  have z9 := hb9.size; (try simp at z9)
  replace t_a := Two.later hb9 t_a
  replace t_b := Two.later hb9 t_b
  replace t_c := Two.later hb9 t_c
  replace t_d := Two.later hb9 t_d
  replace t_e := Two.later hb9 t_e
  replace t_f := Two.later hb9 t_f
  have x0_d := t_d.1
  have x1_d := t_d.2.1
  have y0_d := t_d.2.2.1
  have y1_d := t_d.2.2.2
  go_wp2_with fail
  refine (SA.out _ _ _ _).mono ?_; rintro e w10 ⟨rfl, hb10⟩
  clear x0_d x1_d y0_d y1_d
  have z10 := hb10.size; (try simp at z10)
  replace t_a := Two.later hb10 t_a
  replace t_b := Two.later hb10 t_b
  replace t_c := Two.later hb10 t_c
  replace t_d := Two.later hb10 t_d
  replace t_e := Two.later hb10 t_e
  replace t_f := Two.later hb10 t_f
  have x0_a := t_a.1
  have x1_a := t_a.2.1
  have y0_a := t_a.2.2.1
  have y1_a := t_a.2.2.2
  have x0_b := t_b.1
  have x1_b := t_b.2.1
  have y0_b := t_b.2.2.1
  have y1_b := t_b.2.2.2
  go_wp2_with fail
  refine (PR.out _).mono ?_; rintro e w11 ⟨rfl, hb11⟩
  clear x0_a x1_a y0_a y1_a x0_b x1_b y0_b y1_b
  have z11 := hb11.size; (try simp at z11)
  replace t_a := Two.later hb11 t_a
  replace t_b := Two.later hb11 t_b
  replace t_c := Two.later hb11 t_c
  replace t_d := Two.later hb11 t_d
  replace t_e := Two.later hb11 t_e
  replace t_f := Two.later hb11 t_f
  have x0_e := t_e.1
  have x1_e := t_e.2.1
  have y0_e := t_e.2.2.1
  have y1_e := t_e.2.2.2
  go_wp2_with fail
  refine (SA.out _ _ _ _).mono ?_; rintro e w12 ⟨rfl, hb12⟩
  clear x0_e x1_e y0_e y1_e
  have z12 := hb12.size; (try simp at z12)
  replace t_a := Two.later hb12 t_a
  replace t_b := Two.later hb12 t_b
  replace t_c := Two.later hb12 t_c
  replace t_d := Two.later hb12 t_d
  replace t_e := Two.later hb12 t_e
  replace t_f := Two.later hb12 t_f
  have x0_a := t_a.1
  have x1_a := t_a.2.1
  have y0_a := t_a.2.2.1
  have y1_a := t_a.2.2.2
  have x0_b := t_b.1
  have x1_b := t_b.2.1
  have y0_b := t_b.2.2.1
  have y1_b := t_b.2.2.2
  go_wp2_with fail
  refine (QU.out _).mono ?_; rintro e w13 ⟨rfl, hb13⟩
  clear x0_a x1_a y0_a y1_a x0_b x1_b y0_b y1_b
  have z13 := hb13.size; (try simp at z13)
  replace t_a := Two.later hb13 t_a
  replace t_b := Two.later hb13 t_b
  replace t_c := Two.later hb13 t_c
  replace t_d := Two.later hb13 t_d
  replace t_e := Two.later hb13 t_e
  replace t_f := Two.later hb13 t_f
  have B0 : Below w.heap.size w w13 := (by repeat (first | exact Below.refl _ _ | (refine bset ?_ (by simp <;> omega) _) | (refine bon ?_ (by assumption)) | refine bdrew ?_ | refine bal ?_ _))
  have S0 : w13.cell? ⟨w2.heap.size, 0, none⟩ = some (.int .i64 ap) ∧ w13.cell? ⟨w2.heap.size, 1, none⟩ = some (.int .i64 aq) ∧ w13.cell? ⟨w2.heap.size + 1, 0, none⟩ = some (.int .i64 bp) ∧ w13.cell? ⟨w2.heap.size + 1, 1, none⟩ = some (.int .i64 bq) ∧ w13.cell? ⟨w6.heap.size, 0, none⟩ = some (.int .i64 fp) ∧ w13.cell? ⟨w6.heap.size, 1, none⟩ = some (.int .i64 fq) := ⟨t_a.1, t_a.2.1, t_b.1, t_b.2.1, t_f.1, t_f.2.1⟩
  clear t_a t_b t_c t_d t_e t_f z1 hb1 z2 hb2 z3 hb3 z4 hb4 z5 hb5 z6 hb6 z7 hb7 z8 hb8 z9 hb9 z10 hb10 z11 hb11 z12 hb12 z13 hb13
  go_wp2_with fail
  generalize w2.heap.size + 1 = XB at *
  generalize w2.heap.size = XA at *
  generalize w6.heap.size = XF at *
  go_region_held2 (fun w' => w'.cell? ⟨XA, 0, none⟩ = some (.int .i64 ap) ∧ w'.cell? ⟨XA, 1, none⟩ = some (.int .i64 aq) ∧ w'.cell? ⟨XB, 0, none⟩ = some (.int .i64 bp) ∧ w'.cell? ⟨XB, 1, none⟩ = some (.int .i64 bq) ∧ w'.cell? ⟨XF, 0, none⟩ = some (.int .i64 fp) ∧ w'.cell? ⟨XF, 1, none⟩ = some (.int .i64 fq))
    (first | exact S0 | assumption | exact six_keep (by assumption) (by assumption))
    ((first
      | (go_at_call 35; ((with_reducible refine (SA.out _ _ _ _).mono ?_)); rintro e w21 ⟨rfl, hb21⟩)
      | (go_at_call 38; ((with_reducible refine (C1.out _).mono ?_)); rintro e w22 ⟨rfl, hb22⟩)
      | (go_at_call 39; ((with_reducible refine (C2.out _).mono ?_)); rintro e w23 ⟨rfl, hb23⟩)))
  go_wp2
  go_ret
  exact ⟨rfl, (by repeat (first | exact B0 | (refine bon ?_ (by assumption)) | refine bdrewN ?_ _ | refine bdrew ?_))⟩

theorem cmp_same (a b : Rat) : (if a.num * (b.den : Int) + -(b.num * (a.den : Int)) < 0 then (-1 : Int) else if a.num * (b.den : Int) + -(b.num * (a.den : Int)) = 0 then 0 else 1) = cmpQ a b := by
  have e : a.num * (b.den : Int) + -(b.num * (a.den : Int)) = a.num * b.den - b.num * a.den := by omega
  rw [e]
  by_cases h : a.num * b.den - b.num * a.den < 0
  · rw [if_pos h, cmpQ_neg (by simp [negB, h])]
  · rw [if_neg h]
    by_cases h0 : a.num * b.den - b.num * a.den = 0
    · rw [if_pos h0, cmpQ_zero h0]
    · rw [if_neg h0, cmpQ_pos (by simp [negB, h]) h0]
theorem reckons_law (p q r s : Int) (w : World) (hp : fitB p = true) (hq : fitB q = true) (hr : fitB r = true) (hs : fitB s = true) :
    Calls Try.prog 5 #[.int .i64 p, .int .i64 q, .int .i64 r, .int .i64 s] w fun e w' => e = .returned (.bool true) ∧ Below w.heap.size w w' := by
  have R1 := fun w => ratsR p q r s w hp hq hr hs
  have f1 := fits_make p q
  have f2 := fits_make r s
  generalize makeO p q = o1 at *
  generalize makeO r s = o2 at *
  match o1, o2 with
  | none, _ => exact reckons_none p q r s _ _ _ _ w R1
  | some _, none => exact reckons_none p q r s _ _ _ _ w R1
  | some a, some b =>
    obtain ⟨fa, fa'⟩ := (rok_iff a).1 (f1 a rfl)
    obtain ⟨fb, fb'⟩ := (rok_iff b).1 (f2 b rfl)
    have S1 := fun w => r_sum a.num a.den b.num b.den w fa fa' fb fb'
    have S2 := fun w => r_less a.num a.den b.num b.den w fa fa' fb fb'
    have PR := fun w => r_product a.num a.den b.num b.den w fa fa' fb fb'
    have QU := fun w => r_quotient a.num a.den b.num b.den w fa fa' fb fb'
    have C2 := fun w => r_cmp a.num a.den b.num b.den w fa fa' fb fb'
    rw [sum_make] at S1
    rw [less_make] at S2
    rw [product_make] at PR
    rw [quotient_make] at QU
    rw [cmp_same] at C2
    exact reckons_core p q r s a.num a.den b.num b.den _ _ _ _ _ _ _ _ _ _ _ _ _ w R1
      (fun w => plusR (some a) (some b) w f1 f2) (fun w => minusR (some a) (some b) w f1 f2) (fun w => timesR (some a) (some b) w f1 f2) (fun w => overR (some a) (some b) w f1 f2)
      S1 S2 PR QU (fun w => cmpR a b w (f1 a rfl) (f2 b rfl)) C2
end Go.Proofs.Ytkgaoafcjhjefaa
