/-
  What NumOrder does: it returns true, whatever the six numbers are.
-/
import Derived.Test.YtfoohgfdkmgndaaNumFields
import Derived.Test.YtfoohgfdkmgndaaNumRounds
import Derived.Deep.DeepCutAuto
import Derived.Deep.CutBlock
namespace Go.Proofs.Ytfoohgfdkmgndaa
open Go.RowKit Go.Shelf

set_option maxHeartbeats 4000000 in
set_option maxRecDepth 100000 in
theorem order_none (p q r s t u ap aq bp bq cp cq : Int) (g h : Bool) (w : World)
    (R1 : Hid (∀ w, Calls Try.prog 29 #[.int .i64 p, .int .i64 q, .int .i64 r, .int .i64 s] w fun e w' => e = .returned (.tuple #[.agg #[.int .i64 ap, .int .i64 aq], .agg #[.int .i64 bp, .int .i64 bq], .bool g]) ∧ Below w.heap.size w w'))
    (M1 : Hid (∀ w, Calls Try.prog 26 #[.int .i64 t, .int .i64 u] w fun e w' => e = .returned (.tuple #[.agg #[.int .i64 cp, .int .i64 cq], .bool h]) ∧ Below w.heap.size w w'))
    (hs : g = false ∨ (g = true ∧ h = false)) :
    Calls Try.prog 8 #[.int .i64 p, .int .i64 q, .int .i64 r, .int .i64 s, .int .i64 t, .int .i64 u] w fun e w' => e = .returned (.bool true) ∧ Below w.heap.size w w' := by
  rcases hs with rfl | ⟨rfl, rfl⟩
  all_goals
    go_enter Try.func8, Try.ntmps8
    go_wp2_with fail
    refine (shown_any _).mono ?_; rintro e w1 ⟨rfl, hb1⟩
    have z1 := hb1.size; (try simp at z1)
    go_wp2_with fail
    refine (R1.out _).mono ?_; rintro e w2 ⟨rfl, hb2⟩
    have z2 := hb2.size; (try simp at z2)
    go_wp2_with fail
    refine (M1.out _).mono ?_; rintro e w3 ⟨rfl, hb3⟩
    have z3 := hb3.size; (try simp at z3)
    have t_a : Two w3 (w2.heap.size) (.int .i64 ap) (.int .i64 aq) := Two.later hb3 (by simp [Two, go_sem])
    have t_b : Two w3 (w2.heap.size + 1) (.int .i64 bp) (.int .i64 bq) := Two.later hb3 (by simp [Two, go_sem])
    go_wp2
    go_ret
    exact ⟨rfl, (by repeat (first | exact Below.refl _ _ | (refine bset ?_ (by simp <;> omega) _) | (refine bon ?_ (by assumption)) | refine bdrew ?_ | refine bal ?_ _))⟩
set_option maxHeartbeats 4000000 in
set_option maxRecDepth 100000 in
theorem order_core (p q r s t u ap aq bp bq cp cq xp xq yp yq dp dq k bc ac : Int) (one two three : Bool) (w : World)
    (R1 : Hid (∀ w, Calls Try.prog 29 #[.int .i64 p, .int .i64 q, .int .i64 r, .int .i64 s] w fun e w' => e = .returned (.tuple #[.agg #[.int .i64 ap, .int .i64 aq], .agg #[.int .i64 bp, .int .i64 bq], .bool true]) ∧ Below w.heap.size w w'))
    (M1 : Hid (∀ w, Calls Try.prog 26 #[.int .i64 t, .int .i64 u] w fun e w' => e = .returned (.tuple #[.agg #[.int .i64 cp, .int .i64 cq], .bool true]) ∧ Below w.heap.size w w'))
    (C1 : Hid (∀ w, Calls Try.prog 38 #[.agg #[.int .i64 ap, .int .i64 aq], .agg #[.int .i64 bp, .int .i64 bq]] w fun e w' => e = .returned (.int .i64 k) ∧ Below w.heap.size w w'))
    (C2 : Hid (∀ w, Calls Try.prog 38 #[.agg #[.int .i64 bp, .int .i64 bq], .agg #[.int .i64 ap, .int .i64 aq]] w fun e w' => e = .returned (.int .i64 (-k)) ∧ Below w.heap.size w w'))
    (C3 : Hid (∀ w, Calls Try.prog 38 #[.agg #[.int .i64 bp, .int .i64 bq], .agg #[.int .i64 cp, .int .i64 cq]] w fun e w' => e = .returned (.int .i64 bc) ∧ Below w.heap.size w w'))
    (C4 : Hid (∀ w, Calls Try.prog 38 #[.agg #[.int .i64 ap, .int .i64 aq], .agg #[.int .i64 cp, .int .i64 cq]] w fun e w' => e = .returned (.int .i64 ac) ∧ Below w.heap.size w w'))
    (P1 : Hid (∀ w, Calls Try.prog 30 #[.agg #[.int .i64 ap, .int .i64 aq], .agg #[.int .i64 cp, .int .i64 cq]] w fun e w' => e = .returned (.tuple #[.agg #[.int .i64 xp, .int .i64 xq], .bool one]) ∧ Below w.heap.size w w'))
    (P2 : Hid (∀ w, Calls Try.prog 30 #[.agg #[.int .i64 bp, .int .i64 bq], .agg #[.int .i64 cp, .int .i64 cq]] w fun e w' => e = .returned (.tuple #[.agg #[.int .i64 yp, .int .i64 yq], .bool two]) ∧ Below w.heap.size w w'))
    (C5 : one = true → two = true → Hid (∀ w, Calls Try.prog 38 #[.agg #[.int .i64 xp, .int .i64 xq], .agg #[.int .i64 yp, .int .i64 yq]] w fun e w' => e = .returned (.int .i64 k) ∧ Below w.heap.size w w'))
    (N1 : Hid (∀ w, Calls Try.prog 31 #[.agg #[.int .i64 ap, .int .i64 aq], .agg #[.int .i64 bp, .int .i64 bq]] w fun e w' => e = .returned (.tuple #[.agg #[.int .i64 dp, .int .i64 dq], .bool three]) ∧ Below w.heap.size w w'))
    (C6 : three = true → Hid (∀ w, Calls Try.prog 38 #[.agg #[.int .i64 dp, .int .i64 dq], .agg #[.int .i64 0, .int .i64 1]] w fun e w' => e = .returned (.int .i64 k) ∧ Below w.heap.size w w'))
    (hk : (k = 0 ∧ ap = bp ∧ aq = bq) ∨ (k = -1 ∧ ((ap == bp) = false ∨ (ap = bp ∧ (aq == bq) = false))) ∨ (k = 1 ∧ ((ap == bp) = false ∨ (ap = bp ∧ (aq == bq) = false))))
    (ht : 0 < k ∨ (k ≤ 0 ∧ 0 < bc) ∨ (k ≤ 0 ∧ bc ≤ 0 ∧ ac ≤ 0))
    (ho : one = false ∨ (one = true ∧ two = false) ∨ (one = true ∧ two = true)) (h3 : three = false ∨ three = true) :
    Calls Try.prog 8 #[.int .i64 p, .int .i64 q, .int .i64 r, .int .i64 s, .int .i64 t, .int .i64 u] w fun e w' => e = .returned (.bool true) ∧ Below w.heap.size w w' := by
  have hkk : -1 ≤ k ∧ k ≤ 1 := by omega
  go_enter Try.func8, Try.ntmps8
  go_wp2_with fail
  refine (shown_any _).mono ?_; rintro e w1 ⟨rfl, hb1⟩
  have z1 := hb1.size; (try simp at z1)
  go_wp2_with fail
  refine (R1.out _).mono ?_; rintro e w2 ⟨rfl, hb2⟩
  have z2 := hb2.size; (try simp at z2)
  go_wp2_with fail
  refine (M1.out _).mono ?_; rintro e w3 ⟨rfl, hb3⟩
  have z3 := hb3.size; (try simp at z3)
  have t_a : Two w3 (w2.heap.size) (.int .i64 ap) (.int .i64 aq) := Two.later hb3 (by simp [Two, go_sem])
  have t_b : Two w3 (w2.heap.size + 1) (.int .i64 bp) (.int .i64 bq) := Two.later hb3 (by simp [Two, go_sem])
  have x0_a : ∀ o0, (w3.alloc o0).cell? ⟨w2.heap.size, 0, none⟩ = some (.int .i64 ap) := fun o0 => (Two.later (bal (Below.refl _ _) o0) t_a).1
  have x1_a : ∀ o0, (w3.alloc o0).cell? ⟨w2.heap.size, 1, none⟩ = some (.int .i64 aq) := fun o0 => (Two.later (bal (Below.refl _ _) o0) t_a).2.1
  have y0_a : ∀ o0, (w3.alloc o0).frozen? ⟨w2.heap.size, 0, none⟩ = false := fun o0 => (Two.later (bal (Below.refl _ _) o0) t_a).2.2.1
  have y1_a : ∀ o0, (w3.alloc o0).frozen? ⟨w2.heap.size, 1, none⟩ = false := fun o0 => (Two.later (bal (Below.refl _ _) o0) t_a).2.2.2
  have x0_b : ∀ o0, (w3.alloc o0).cell? ⟨w2.heap.size + 1, 0, none⟩ = some (.int .i64 bp) := fun o0 => (Two.later (bal (Below.refl _ _) o0) t_b).1
  have x1_b : ∀ o0, (w3.alloc o0).cell? ⟨w2.heap.size + 1, 1, none⟩ = some (.int .i64 bq) := fun o0 => (Two.later (bal (Below.refl _ _) o0) t_b).2.1
  have y0_b : ∀ o0, (w3.alloc o0).frozen? ⟨w2.heap.size + 1, 0, none⟩ = false := fun o0 => (Two.later (bal (Below.refl _ _) o0) t_b).2.2.1
  have y1_b : ∀ o0, (w3.alloc o0).frozen? ⟨w2.heap.size + 1, 1, none⟩ = false := fun o0 => (Two.later (bal (Below.refl _ _) o0) t_b).2.2.2
  go_wp2_with fail
  refine (C1.out _).mono ?_; rintro e w4 ⟨rfl, hb4⟩
  clear x0_a x1_a y0_a y1_a x0_b x1_b y0_b y1_b
  have z4 := hb4.size; (try simp at z4)
  replace t_a := Two.later hb4 (Two.later (bal (Below.refl _ _) _) t_a)
  replace t_b := Two.later hb4 (Two.later (bal (Below.refl _ _) _) t_b)
  have t_c : Two w4 (w3.heap.size) (.int .i64 cp) (.int .i64 cq) := Two.later hb4 (by simp [Two, go_sem])
  have x0_a := t_a.1
  have x1_a := t_a.2.1
  have y0_a := t_a.2.2.1
  have y1_a := t_a.2.2.2
  have x0_b := t_b.1
  have x1_b := t_b.2.1
  have y0_b := t_b.2.2.1
  have y1_b := t_b.2.2.2
  have x0_c := t_c.1
  have x1_c := t_c.2.1
  have y0_c := t_c.2.2.1
  have y1_c := t_c.2.2.2
  go_upto_region 7 with fail
  go_cut [81] (fun s81 wx => s81 = .bool false ∧ Two wx (w2.heap.size) (.int .i64 ap) (.int .i64 aq) ∧ Two wx (w2.heap.size + 1) (.int .i64 bp) (.int .i64 bq) ∧ Two wx (w3.heap.size) (.int .i64 cp) (.int .i64 cq) ∧ Below w.heap.size w wx)
  case first =>
    clear P1 P2 N1 C5 C6
    rcases hk with ⟨rfl, rfl, rfl⟩ | ⟨rfl, hne | ⟨rfl, hne⟩⟩ | ⟨rfl, hne | ⟨rfl, hne⟩⟩
    · go_wp2_with fail
      refine (C2.out _).mono ?_; rintro e w5 ⟨rfl, hb5⟩
      clear x0_a x1_a y0_a y1_a x0_b x1_b y0_b y1_b x0_c x1_c y0_c y1_c
      have z5 := hb5.size; (try simp at z5)
      replace t_a := Two.later hb5 t_a
      replace t_b := Two.later hb5 t_b
      replace t_c := Two.later hb5 t_c
      have x0_a := t_a.1
      have x1_a := t_a.2.1
      have y0_a := t_a.2.2.1
      have y1_a := t_a.2.2.2
      have x0_b := t_b.1
      have x1_b := t_b.2.1
      have y0_b := t_b.2.2.1
      have y1_b := t_b.2.2.2
      have x0_c := t_c.1
      have x1_c := t_c.2.1
      have y0_c := t_c.2.2.1
      have y1_c := t_c.2.2.2
      rcases ht with ht | ⟨_, ht⟩ | ⟨_, ht, hu⟩
      · exact absurd ht (by decide)
      · go_wp2_with fail
        refine (C3.out _).mono ?_; rintro e w6 ⟨rfl, hb6⟩
        clear x0_a x1_a y0_a y1_a x0_b x1_b y0_b y1_b x0_c x1_c y0_c y1_c
        have z6 := hb6.size; (try simp at z6)
        replace t_a := Two.later hb6 t_a
        replace t_b := Two.later hb6 t_b
        replace t_c := Two.later hb6 t_c
        have x0_a := t_a.1
        have x1_a := t_a.2.1
        have y0_a := t_a.2.2.1
        have y1_a := t_a.2.2.2
        have x0_b := t_b.1
        have x1_b := t_b.2.1
        have y0_b := t_b.2.2.1
        have y1_b := t_b.2.2.2
        have x0_c := t_c.1
        have x1_c := t_c.2.1
        have y0_c := t_c.2.2.1
        have y1_c := t_c.2.2.2
        go_wp2_with fail
        go_meet
        exact ⟨by first | rfl | rw [decide_eq_false (show ¬ 0 < ac by omega)], t_a, t_b, t_c, (by repeat (first | exact Below.refl _ _ | (refine bset ?_ (by simp <;> omega) _) | (refine bon ?_ (by assumption)) | refine bdrew ?_ | refine bal ?_ _))⟩
      · go_wp2_with fail
        refine (C3.out _).mono ?_; rintro e w6 ⟨rfl, hb6⟩
        clear x0_a x1_a y0_a y1_a x0_b x1_b y0_b y1_b x0_c x1_c y0_c y1_c
        have z6 := hb6.size; (try simp at z6)
        replace t_a := Two.later hb6 t_a
        replace t_b := Two.later hb6 t_b
        replace t_c := Two.later hb6 t_c
        have x0_a := t_a.1
        have x1_a := t_a.2.1
        have y0_a := t_a.2.2.1
        have y1_a := t_a.2.2.2
        have x0_b := t_b.1
        have x1_b := t_b.2.1
        have y0_b := t_b.2.2.1
        have y1_b := t_b.2.2.2
        have x0_c := t_c.1
        have x1_c := t_c.2.1
        have y0_c := t_c.2.2.1
        have y1_c := t_c.2.2.2
        go_wp2_with fail
        refine (C4.out _).mono ?_; rintro e w7 ⟨rfl, hb7⟩
        clear x0_a x1_a y0_a y1_a x0_b x1_b y0_b y1_b x0_c x1_c y0_c y1_c
        have z7 := hb7.size; (try simp at z7)
        replace t_a := Two.later hb7 t_a
        replace t_b := Two.later hb7 t_b
        replace t_c := Two.later hb7 t_c
        go_wp2_with fail
        go_meet
        exact ⟨by first | rfl | rw [decide_eq_false (show ¬ 0 < ac by omega)], t_a, t_b, t_c, (by repeat (first | exact Below.refl _ _ | (refine bset ?_ (by simp <;> omega) _) | (refine bon ?_ (by assumption)) | refine bdrew ?_ | refine bal ?_ _))⟩
    · go_wp2_with fail
      refine (C2.out _).mono ?_; rintro e w5 ⟨rfl, hb5⟩
      clear x0_a x1_a y0_a y1_a x0_b x1_b y0_b y1_b x0_c x1_c y0_c y1_c
      have z5 := hb5.size; (try simp at z5)
      replace t_a := Two.later hb5 t_a
      replace t_b := Two.later hb5 t_b
      replace t_c := Two.later hb5 t_c
      have x0_a := t_a.1
      have x1_a := t_a.2.1
      have y0_a := t_a.2.2.1
      have y1_a := t_a.2.2.2
      have x0_b := t_b.1
      have x1_b := t_b.2.1
      have y0_b := t_b.2.2.1
      have y1_b := t_b.2.2.2
      have x0_c := t_c.1
      have x1_c := t_c.2.1
      have y0_c := t_c.2.2.1
      have y1_c := t_c.2.2.2
      rcases ht with ht | ⟨_, ht⟩ | ⟨_, ht, hu⟩
      · exact absurd ht (by decide)
      · go_wp2_with fail
        refine (C3.out _).mono ?_; rintro e w6 ⟨rfl, hb6⟩
        clear x0_a x1_a y0_a y1_a x0_b x1_b y0_b y1_b x0_c x1_c y0_c y1_c
        have z6 := hb6.size; (try simp at z6)
        replace t_a := Two.later hb6 t_a
        replace t_b := Two.later hb6 t_b
        replace t_c := Two.later hb6 t_c
        have x0_a := t_a.1
        have x1_a := t_a.2.1
        have y0_a := t_a.2.2.1
        have y1_a := t_a.2.2.2
        have x0_b := t_b.1
        have x1_b := t_b.2.1
        have y0_b := t_b.2.2.1
        have y1_b := t_b.2.2.2
        have x0_c := t_c.1
        have x1_c := t_c.2.1
        have y0_c := t_c.2.2.1
        have y1_c := t_c.2.2.2
        go_wp2_with fail
        go_meet
        exact ⟨by first | rfl | rw [decide_eq_false (show ¬ 0 < ac by omega)], t_a, t_b, t_c, (by repeat (first | exact Below.refl _ _ | (refine bset ?_ (by simp <;> omega) _) | (refine bon ?_ (by assumption)) | refine bdrew ?_ | refine bal ?_ _))⟩
      · go_wp2_with fail
        refine (C3.out _).mono ?_; rintro e w6 ⟨rfl, hb6⟩
        clear x0_a x1_a y0_a y1_a x0_b x1_b y0_b y1_b x0_c x1_c y0_c y1_c
        have z6 := hb6.size; (try simp at z6)
        replace t_a := Two.later hb6 t_a
        replace t_b := Two.later hb6 t_b
        replace t_c := Two.later hb6 t_c
        have x0_a := t_a.1
        have x1_a := t_a.2.1
        have y0_a := t_a.2.2.1
        have y1_a := t_a.2.2.2
        have x0_b := t_b.1
        have x1_b := t_b.2.1
        have y0_b := t_b.2.2.1
        have y1_b := t_b.2.2.2
        have x0_c := t_c.1
        have x1_c := t_c.2.1
        have y0_c := t_c.2.2.1
        have y1_c := t_c.2.2.2
        go_wp2_with fail
        refine (C4.out _).mono ?_; rintro e w7 ⟨rfl, hb7⟩
        clear x0_a x1_a y0_a y1_a x0_b x1_b y0_b y1_b x0_c x1_c y0_c y1_c
        have z7 := hb7.size; (try simp at z7)
        replace t_a := Two.later hb7 t_a
        replace t_b := Two.later hb7 t_b
        replace t_c := Two.later hb7 t_c
        go_wp2_with fail
        go_meet
        exact ⟨by first | rfl | rw [decide_eq_false (show ¬ 0 < ac by omega)], t_a, t_b, t_c, (by repeat (first | exact Below.refl _ _ | (refine bset ?_ (by simp <;> omega) _) | (refine bon ?_ (by assumption)) | refine bdrew ?_ | refine bal ?_ _))⟩
    · go_wp2_with fail
      refine (C2.out _).mono ?_; rintro e w5 ⟨rfl, hb5⟩
      clear x0_a x1_a y0_a y1_a x0_b x1_b y0_b y1_b x0_c x1_c y0_c y1_c
      have z5 := hb5.size; (try simp at z5)
      replace t_a := Two.later hb5 t_a
      replace t_b := Two.later hb5 t_b
      replace t_c := Two.later hb5 t_c
      have x0_a := t_a.1
      have x1_a := t_a.2.1
      have y0_a := t_a.2.2.1
      have y1_a := t_a.2.2.2
      have x0_b := t_b.1
      have x1_b := t_b.2.1
      have y0_b := t_b.2.2.1
      have y1_b := t_b.2.2.2
      have x0_c := t_c.1
      have x1_c := t_c.2.1
      have y0_c := t_c.2.2.1
      have y1_c := t_c.2.2.2
      rcases ht with ht | ⟨_, ht⟩ | ⟨_, ht, hu⟩
      · exact absurd ht (by decide)
      · go_wp2_with fail
        refine (C3.out _).mono ?_; rintro e w6 ⟨rfl, hb6⟩
        clear x0_a x1_a y0_a y1_a x0_b x1_b y0_b y1_b x0_c x1_c y0_c y1_c
        have z6 := hb6.size; (try simp at z6)
        replace t_a := Two.later hb6 t_a
        replace t_b := Two.later hb6 t_b
        replace t_c := Two.later hb6 t_c
        have x0_a := t_a.1
        have x1_a := t_a.2.1
        have y0_a := t_a.2.2.1
        have y1_a := t_a.2.2.2
        have x0_b := t_b.1
        have x1_b := t_b.2.1
        have y0_b := t_b.2.2.1
        have y1_b := t_b.2.2.2
        have x0_c := t_c.1
        have x1_c := t_c.2.1
        have y0_c := t_c.2.2.1
        have y1_c := t_c.2.2.2
        go_wp2_with fail
        go_meet
        exact ⟨by first | rfl | rw [decide_eq_false (show ¬ 0 < ac by omega)], t_a, t_b, t_c, (by repeat (first | exact Below.refl _ _ | (refine bset ?_ (by simp <;> omega) _) | (refine bon ?_ (by assumption)) | refine bdrew ?_ | refine bal ?_ _))⟩
      · go_wp2_with fail
        refine (C3.out _).mono ?_; rintro e w6 ⟨rfl, hb6⟩
        clear x0_a x1_a y0_a y1_a x0_b x1_b y0_b y1_b x0_c x1_c y0_c y1_c
        have z6 := hb6.size; (try simp at z6)
        replace t_a := Two.later hb6 t_a
        replace t_b := Two.later hb6 t_b
        replace t_c := Two.later hb6 t_c
        have x0_a := t_a.1
        have x1_a := t_a.2.1
        have y0_a := t_a.2.2.1
        have y1_a := t_a.2.2.2
        have x0_b := t_b.1
        have x1_b := t_b.2.1
        have y0_b := t_b.2.2.1
        have y1_b := t_b.2.2.2
        have x0_c := t_c.1
        have x1_c := t_c.2.1
        have y0_c := t_c.2.2.1
        have y1_c := t_c.2.2.2
        go_wp2_with fail
        refine (C4.out _).mono ?_; rintro e w7 ⟨rfl, hb7⟩
        clear x0_a x1_a y0_a y1_a x0_b x1_b y0_b y1_b x0_c x1_c y0_c y1_c
        have z7 := hb7.size; (try simp at z7)
        replace t_a := Two.later hb7 t_a
        replace t_b := Two.later hb7 t_b
        replace t_c := Two.later hb7 t_c
        go_wp2_with fail
        go_meet
        exact ⟨by first | rfl | rw [decide_eq_false (show ¬ 0 < ac by omega)], t_a, t_b, t_c, (by repeat (first | exact Below.refl _ _ | (refine bset ?_ (by simp <;> omega) _) | (refine bon ?_ (by assumption)) | refine bdrew ?_ | refine bal ?_ _))⟩
    · go_wp2_with fail
      refine (C2.out _).mono ?_; rintro e w5 ⟨rfl, hb5⟩
      clear x0_a x1_a y0_a y1_a x0_b x1_b y0_b y1_b x0_c x1_c y0_c y1_c
      have z5 := hb5.size; (try simp at z5)
      replace t_a := Two.later hb5 t_a
      replace t_b := Two.later hb5 t_b
      replace t_c := Two.later hb5 t_c
      have x0_a := t_a.1
      have x1_a := t_a.2.1
      have y0_a := t_a.2.2.1
      have y1_a := t_a.2.2.2
      have x0_b := t_b.1
      have x1_b := t_b.2.1
      have y0_b := t_b.2.2.1
      have y1_b := t_b.2.2.2
      have x0_c := t_c.1
      have x1_c := t_c.2.1
      have y0_c := t_c.2.2.1
      have y1_c := t_c.2.2.2
      go_wp2_with fail
      go_meet
      exact ⟨rfl, t_a, t_b, t_c, (by repeat (first | exact Below.refl _ _ | (refine bset ?_ (by simp <;> omega) _) | (refine bon ?_ (by assumption)) | refine bdrew ?_ | refine bal ?_ _))⟩
    · go_wp2_with fail
      refine (C2.out _).mono ?_; rintro e w5 ⟨rfl, hb5⟩
      clear x0_a x1_a y0_a y1_a x0_b x1_b y0_b y1_b x0_c x1_c y0_c y1_c
      have z5 := hb5.size; (try simp at z5)
      replace t_a := Two.later hb5 t_a
      replace t_b := Two.later hb5 t_b
      replace t_c := Two.later hb5 t_c
      have x0_a := t_a.1
      have x1_a := t_a.2.1
      have y0_a := t_a.2.2.1
      have y1_a := t_a.2.2.2
      have x0_b := t_b.1
      have x1_b := t_b.2.1
      have y0_b := t_b.2.2.1
      have y1_b := t_b.2.2.2
      have x0_c := t_c.1
      have x1_c := t_c.2.1
      have y0_c := t_c.2.2.1
      have y1_c := t_c.2.2.2
      go_wp2_with fail
      go_meet
      exact ⟨rfl, t_a, t_b, t_c, (by repeat (first | exact Below.refl _ _ | (refine bset ?_ (by simp <;> omega) _) | (refine bon ?_ (by assumption)) | refine bdrew ?_ | refine bal ?_ _))⟩
  case rest =>
    obtain ⟨rfl, t_a, t_b, t_c, hb0⟩ := hcut
    clear x0_a x1_a y0_a y1_a x0_b x1_b y0_b y1_b x0_c x1_c y0_c y1_c C1 C2 C3 C4 hk ht
    have x0_a := t_a.1
    have x1_a := t_a.2.1
    have y0_a := t_a.2.2.1
    have y1_a := t_a.2.2.2
    have x0_b := t_b.1
    have x1_b := t_b.2.1
    have y0_b := t_b.2.2.1
    have y1_b := t_b.2.2.2
    have x0_c := t_c.1
    have x1_c := t_c.2.1
    have y0_c := t_c.2.2.1
    have y1_c := t_c.2.2.2
    go_wp2_with fail
    refine (P1.out _).mono ?_; rintro e w21 ⟨rfl, hb21⟩
    clear x0_a x1_a y0_a y1_a x0_b x1_b y0_b y1_b x0_c x1_c y0_c y1_c
    have z21 := hb21.size; (try simp at z21)
    replace t_a := Two.later hb21 t_a
    replace t_b := Two.later hb21 t_b
    replace t_c := Two.later hb21 t_c
    have x0_a : ∀ o0, (w21.alloc o0).cell? ⟨w2.heap.size, 0, none⟩ = some (.int .i64 ap) := fun o0 => (Two.later (bal (Below.refl _ _) o0) t_a).1
    have x1_a : ∀ o0, (w21.alloc o0).cell? ⟨w2.heap.size, 1, none⟩ = some (.int .i64 aq) := fun o0 => (Two.later (bal (Below.refl _ _) o0) t_a).2.1
    have y0_a : ∀ o0, (w21.alloc o0).frozen? ⟨w2.heap.size, 0, none⟩ = false := fun o0 => (Two.later (bal (Below.refl _ _) o0) t_a).2.2.1
    have y1_a : ∀ o0, (w21.alloc o0).frozen? ⟨w2.heap.size, 1, none⟩ = false := fun o0 => (Two.later (bal (Below.refl _ _) o0) t_a).2.2.2
    have x0_b : ∀ o0, (w21.alloc o0).cell? ⟨w2.heap.size + 1, 0, none⟩ = some (.int .i64 bp) := fun o0 => (Two.later (bal (Below.refl _ _) o0) t_b).1
    have x1_b : ∀ o0, (w21.alloc o0).cell? ⟨w2.heap.size + 1, 1, none⟩ = some (.int .i64 bq) := fun o0 => (Two.later (bal (Below.refl _ _) o0) t_b).2.1
    have y0_b : ∀ o0, (w21.alloc o0).frozen? ⟨w2.heap.size + 1, 0, none⟩ = false := fun o0 => (Two.later (bal (Below.refl _ _) o0) t_b).2.2.1
    have y1_b : ∀ o0, (w21.alloc o0).frozen? ⟨w2.heap.size + 1, 1, none⟩ = false := fun o0 => (Two.later (bal (Below.refl _ _) o0) t_b).2.2.2
    have x0_c : ∀ o0, (w21.alloc o0).cell? ⟨w3.heap.size, 0, none⟩ = some (.int .i64 cp) := fun o0 => (Two.later (bal (Below.refl _ _) o0) t_c).1
    have x1_c : ∀ o0, (w21.alloc o0).cell? ⟨w3.heap.size, 1, none⟩ = some (.int .i64 cq) := fun o0 => (Two.later (bal (Below.refl _ _) o0) t_c).2.1
    have y0_c : ∀ o0, (w21.alloc o0).frozen? ⟨w3.heap.size, 0, none⟩ = false := fun o0 => (Two.later (bal (Below.refl _ _) o0) t_c).2.2.1
    have y1_c : ∀ o0, (w21.alloc o0).frozen? ⟨w3.heap.size, 1, none⟩ = false := fun o0 => (Two.later (bal (Below.refl _ _) o0) t_c).2.2.2
    go_wp2_with fail
    refine (P2.out _).mono ?_; rintro e w22 ⟨rfl, hb22⟩
    clear x0_a x1_a y0_a y1_a x0_b x1_b y0_b y1_b x0_c x1_c y0_c y1_c
    have z22 := hb22.size; (try simp at z22)
    replace t_a := Two.later hb22 (Two.later (bal (Below.refl _ _) _) t_a)
    replace t_b := Two.later hb22 (Two.later (bal (Below.refl _ _) _) t_b)
    replace t_c := Two.later hb22 (Two.later (bal (Below.refl _ _) _) t_c)
    have t_x : Two w22 (w21.heap.size) (.int .i64 xp) (.int .i64 xq) := Two.later hb22 (by simp [Two, go_sem])
    have x0_x : ∀ o0, (w22.alloc o0).cell? ⟨w21.heap.size, 0, none⟩ = some (.int .i64 xp) := fun o0 => (Two.later (bal (Below.refl _ _) o0) t_x).1
    have x1_x : ∀ o0, (w22.alloc o0).cell? ⟨w21.heap.size, 1, none⟩ = some (.int .i64 xq) := fun o0 => (Two.later (bal (Below.refl _ _) o0) t_x).2.1
    have y0_x : ∀ o0, (w22.alloc o0).frozen? ⟨w21.heap.size, 0, none⟩ = false := fun o0 => (Two.later (bal (Below.refl _ _) o0) t_x).2.2.1
    have y1_x : ∀ o0, (w22.alloc o0).frozen? ⟨w21.heap.size, 1, none⟩ = false := fun o0 => (Two.later (bal (Below.refl _ _) o0) t_x).2.2.2
    have x0_a : ∀ o0, (w22.alloc o0).cell? ⟨w2.heap.size, 0, none⟩ = some (.int .i64 ap) := fun o0 => (Two.later (bal (Below.refl _ _) o0) t_a).1
    have x1_a : ∀ o0, (w22.alloc o0).cell? ⟨w2.heap.size, 1, none⟩ = some (.int .i64 aq) := fun o0 => (Two.later (bal (Below.refl _ _) o0) t_a).2.1
    have y0_a : ∀ o0, (w22.alloc o0).frozen? ⟨w2.heap.size, 0, none⟩ = false := fun o0 => (Two.later (bal (Below.refl _ _) o0) t_a).2.2.1
    have y1_a : ∀ o0, (w22.alloc o0).frozen? ⟨w2.heap.size, 1, none⟩ = false := fun o0 => (Two.later (bal (Below.refl _ _) o0) t_a).2.2.2
    have x0_b : ∀ o0, (w22.alloc o0).cell? ⟨w2.heap.size + 1, 0, none⟩ = some (.int .i64 bp) := fun o0 => (Two.later (bal (Below.refl _ _) o0) t_b).1
    have x1_b : ∀ o0, (w22.alloc o0).cell? ⟨w2.heap.size + 1, 1, none⟩ = some (.int .i64 bq) := fun o0 => (Two.later (bal (Below.refl _ _) o0) t_b).2.1
    have y0_b : ∀ o0, (w22.alloc o0).frozen? ⟨w2.heap.size + 1, 0, none⟩ = false := fun o0 => (Two.later (bal (Below.refl _ _) o0) t_b).2.2.1
    have y1_b : ∀ o0, (w22.alloc o0).frozen? ⟨w2.heap.size + 1, 1, none⟩ = false := fun o0 => (Two.later (bal (Below.refl _ _) o0) t_b).2.2.2
    rcases ho with rfl | ⟨rfl, rfl⟩ | ⟨rfl, rfl⟩
    · clear C5
      go_wp2_with fail
      refine (N1.out _).mono ?_; rintro e w23 ⟨rfl, hb23⟩
      clear x0_x x1_x y0_x y1_x x0_a x1_a y0_a y1_a x0_b x1_b y0_b y1_b
      have z23 := hb23.size; (try simp at z23)
      replace t_a := Two.later hb23 (Two.later (bal (Below.refl _ _) _) t_a)
      replace t_b := Two.later hb23 (Two.later (bal (Below.refl _ _) _) t_b)
      replace t_c := Two.later hb23 (Two.later (bal (Below.refl _ _) _) t_c)
      replace t_x := Two.later hb23 (Two.later (bal (Below.refl _ _) _) t_x)
      have t_y : Two w23 (w22.heap.size) (.int .i64 yp) (.int .i64 yq) := Two.later hb23 (by simp [Two, go_sem])
      rcases h3 with rfl | rfl
      · clear C6
        go_wp2
        go_quiet (fail)
        go_wp2
        go_ret
        exact ⟨rfl, (by repeat (first | exact Below.refl _ _ | (refine bset ?_ (by simp <;> omega) _) | (refine bon ?_ (by assumption)) | refine bdrewN ?_ _ | refine bdrew ?_ | refine bal ?_ _))⟩
      · have C8 := C6 rfl; clear C6
        go_wp2_with fail
        go_region_held2 (fun w' => w'.cell? ⟨w23.heap.size, 0, none⟩ = some (.int .i64 dp) ∧ w'.cell? ⟨w23.heap.size, 1, none⟩ = some (.int .i64 dq))
          (first | exact cells2_later (by assumption) (by assumption) | (simp [go_sem]; done))
          (first
            | (go_at_call 28; refine (wholeR _ _).mono ?_; rintro e w40 ⟨rfl, hb40⟩)
            | (go_at_call 38; refine (C8.out _).mono ?_; rintro e w41 ⟨rfl, hb41⟩))
        go_wp2
        go_ret
        exact ⟨rfl, (by repeat (first | exact Below.refl _ _ | (refine bset ?_ (by simp <;> omega) _) | (refine bon ?_ (by assumption)) | refine bdrew ?_ | refine bal ?_ _))⟩
    · clear C5
      go_wp2_with fail
      refine (N1.out _).mono ?_; rintro e w23 ⟨rfl, hb23⟩
      clear x0_x x1_x y0_x y1_x x0_a x1_a y0_a y1_a x0_b x1_b y0_b y1_b
      have z23 := hb23.size; (try simp at z23)
      replace t_a := Two.later hb23 (Two.later (bal (Below.refl _ _) _) t_a)
      replace t_b := Two.later hb23 (Two.later (bal (Below.refl _ _) _) t_b)
      replace t_c := Two.later hb23 (Two.later (bal (Below.refl _ _) _) t_c)
      replace t_x := Two.later hb23 (Two.later (bal (Below.refl _ _) _) t_x)
      have t_y : Two w23 (w22.heap.size) (.int .i64 yp) (.int .i64 yq) := Two.later hb23 (by simp [Two, go_sem])
      rcases h3 with rfl | rfl
      · clear C6
        go_wp2
        go_quiet (fail)
        go_wp2
        go_ret
        exact ⟨rfl, (by repeat (first | exact Below.refl _ _ | (refine bset ?_ (by simp <;> omega) _) | (refine bon ?_ (by assumption)) | refine bdrewN ?_ _ | refine bdrew ?_ | refine bal ?_ _))⟩
      · have C8 := C6 rfl; clear C6
        go_wp2_with fail
        go_region_held2 (fun w' => w'.cell? ⟨w23.heap.size, 0, none⟩ = some (.int .i64 dp) ∧ w'.cell? ⟨w23.heap.size, 1, none⟩ = some (.int .i64 dq))
          (first | exact cells2_later (by assumption) (by assumption) | (simp [go_sem]; done))
          (first
            | (go_at_call 28; refine (wholeR _ _).mono ?_; rintro e w40 ⟨rfl, hb40⟩)
            | (go_at_call 38; refine (C8.out _).mono ?_; rintro e w41 ⟨rfl, hb41⟩))
        go_wp2
        go_ret
        exact ⟨rfl, (by repeat (first | exact Below.refl _ _ | (refine bset ?_ (by simp <;> omega) _) | (refine bon ?_ (by assumption)) | refine bdrew ?_ | refine bal ?_ _))⟩
    · have C7 := C5 rfl rfl; clear C5
      go_wp2_with fail
      refine (C7.out _).mono ?_; rintro e w23 ⟨rfl, hb23⟩
      clear x0_x x1_x y0_x y1_x x0_a x1_a y0_a y1_a x0_b x1_b y0_b y1_b
      have z23 := hb23.size; (try simp at z23)
      replace t_a := Two.later hb23 (Two.later (bal (Below.refl _ _) _) t_a)
      replace t_b := Two.later hb23 (Two.later (bal (Below.refl _ _) _) t_b)
      replace t_c := Two.later hb23 (Two.later (bal (Below.refl _ _) _) t_c)
      replace t_x := Two.later hb23 (Two.later (bal (Below.refl _ _) _) t_x)
      have t_y : Two w23 (w22.heap.size) (.int .i64 yp) (.int .i64 yq) := Two.later hb23 (by simp [Two, go_sem])
      have x0_a := t_a.1
      have x1_a := t_a.2.1
      have y0_a := t_a.2.2.1
      have y1_a := t_a.2.2.2
      have x0_b := t_b.1
      have x1_b := t_b.2.1
      have y0_b := t_b.2.2.1
      have y1_b := t_b.2.2.2
      go_wp2_with fail
      refine (N1.out _).mono ?_; rintro e w24 ⟨rfl, hb24⟩
      clear x0_a x1_a y0_a y1_a x0_b x1_b y0_b y1_b
      have z24 := hb24.size; (try simp at z24)
      replace t_a := Two.later hb24 t_a
      replace t_b := Two.later hb24 t_b
      replace t_c := Two.later hb24 t_c
      replace t_x := Two.later hb24 t_x
      replace t_y := Two.later hb24 t_y
      rcases h3 with rfl | rfl
      · clear C6
        go_wp2
        go_quiet (fail)
        go_wp2
        go_ret
        exact ⟨rfl, (by repeat (first | exact Below.refl _ _ | (refine bset ?_ (by simp <;> omega) _) | (refine bon ?_ (by assumption)) | refine bdrewN ?_ _ | refine bdrew ?_ | refine bal ?_ _))⟩
      · have C8 := C6 rfl; clear C6
        go_wp2_with fail
        go_region_held2 (fun w' => w'.cell? ⟨w24.heap.size, 0, none⟩ = some (.int .i64 dp) ∧ w'.cell? ⟨w24.heap.size, 1, none⟩ = some (.int .i64 dq))
          (first | exact cells2_later (by assumption) (by assumption) | (simp [go_sem]; done))
          (first
            | (go_at_call 28; refine (wholeR _ _).mono ?_; rintro e w40 ⟨rfl, hb40⟩)
            | (go_at_call 38; refine (C8.out _).mono ?_; rintro e w41 ⟨rfl, hb41⟩))
        go_wp2
        go_ret
        exact ⟨rfl, (by repeat (first | exact Below.refl _ _ | (refine bset ?_ (by simp <;> omega) _) | (refine bon ?_ (by assumption)) | refine bdrew ?_ | refine bal ?_ _))⟩

theorem cmp_turn (a b : Rat) : cmpQ b a = -cmpQ a b := by unfold cmpQ; grind
theorem cmp_plus (a b c : Rat) : cmpQ (a + c) (b + c) = cmpQ a b := by unfold cmpQ; grind
theorem cmp_minus (a b : Rat) : cmpQ (a - b) 0 = cmpQ a b := by unfold cmpQ; grind
theorem cmp_trans (a b c : Rat) : 0 < cmpQ a b ∨ (cmpQ a b ≤ 0 ∧ 0 < cmpQ b c) ∨ (cmpQ a b ≤ 0 ∧ cmpQ b c ≤ 0 ∧ cmpQ a c ≤ 0) := by unfold cmpQ; grind
theorem cmp_fields (a b : Rat) : (cmpQ a b = 0 ∧ a.num = b.num ∧ (a.den : Int) = b.den) ∨ (cmpQ a b = -1 ∧ ((a.num == b.num) = false ∨ (a.num = b.num ∧ ((a.den : Int) == b.den) = false))) ∨ (cmpQ a b = 1 ∧ ((a.num == b.num) = false ∨ (a.num = b.num ∧ ((a.den : Int) == b.den) = false))) := by
  by_cases h : a = b
  · subst h; exact Or.inl ⟨cmpQ_eq a, rfl, rfl⟩
  · have hne : (a.num == b.num) = false ∨ (a.num = b.num ∧ ((a.den : Int) == b.den) = false) := by
      by_cases k : a.num = b.num
      · refine Or.inr ⟨k, ?_⟩
        rw [beq_eq_false_iff_ne]
        intro k2
        exact h (num_den_ext k (by omega))
      · exact Or.inl (beq_eq_false_iff_ne.2 k)
    by_cases k : a < b
    · exact Or.inr (Or.inl ⟨by simp [cmpQ, k], hne⟩)
    · exact Or.inr (Or.inr ⟨by simp [cmpQ, k, h], hne⟩)
theorem order_law (p q r s t u : Int) (w : World) (hp : fitB p = true) (hq : fitB q = true) (hr : fitB r = true) (hs : fitB s = true) (ht : fitB t = true) (hu : fitB u = true) :
    Calls Try.prog 8 #[.int .i64 p, .int .i64 q, .int .i64 r, .int .i64 s, .int .i64 t, .int .i64 u] w fun e w' => e = .returned (.bool true) ∧ Below w.heap.size w w' := by
  have R1 := fun w => ratsR p q r s w hp hq hr hs
  have M1 := fun w => makeR t u w ht hu
  have f1 := fits_make p q
  have f2 := fits_make r s
  have f3 := fits_make t u
  generalize makeO p q = o1 at *
  generalize makeO r s = o2 at *
  generalize makeO t u = o3 at *
  match o1, o2, o3 with
  | none, _, _ => exact order_none p q r s t u _ _ _ _ _ _ _ _ w R1 M1 (Or.inl rfl)
  | some _, none, _ => exact order_none p q r s t u _ _ _ _ _ _ _ _ w R1 M1 (Or.inl rfl)
  | some _, some _, none => exact order_none p q r s t u _ _ _ _ _ _ _ _ w R1 M1 (Or.inr ⟨rfl, rfl⟩)
  | some a, some b, some c =>
    have ra := f1 a rfl
    have rb := f2 b rfl
    have rc := f3 c rfl
    have C2 := fun w => cmpR b a w rb ra
    rw [cmp_turn] at C2
    have bb : ∀ x : Bool, x = false ∨ x = true := fun x => by cases x <;> simp
    refine order_core p q r s t u a.num a.den b.num b.den c.num c.den _ _ _ _ _ _ (cmpQ a b) (cmpQ b c) (cmpQ a c) _ _ _ w R1 M1
      (fun w => cmpR a b w ra rb) C2 (fun w => cmpR b c w rb rc) (fun w => cmpR a c w ra rc)
      (fun w => plusR (some a) (some c) w f1 f3) (fun w => plusR (some b) (some c) w f2 f3) ?_ (fun w => minusR (some a) (some b) w f1 f2) ?_ (cmp_fields a b) (cmp_trans a b c) ?_ (bb _)
    · intro h1 h2 w
      have e1 : plusO (some a) (some c) = some (a + c) := told_isSome h1
      have e2 : plusO (some b) (some c) = some (b + c) := told_isSome h2
      have k1 := fits_plus (some a) (some c) (a + c) e1
      have k2 := fits_plus (some b) (some c) (b + c) e2
      rw [e1, e2]
      have e := cmpR (a + c) (b + c) w k1 k2
      rw [cmp_plus] at e; exact e
    · intro h w
      have e1 : minusO (some a) (some b) = some (a - b) := told_isSome h
      have k1 := fits_minus (some a) (some b) (a - b) e1
      rw [e1]
      have e := cmpR (a - b) 0 w k1 (by decide +kernel)
      rw [cmp_minus] at e; exact e
    · rcases bb (plusO (some a) (some c)).isSome with h | h
      · exact Or.inl h
      · rcases bb (plusO (some b) (some c)).isSome with k | k
        · exact Or.inr (Or.inl ⟨h, k⟩)
        · exact Or.inr (Or.inr ⟨h, k⟩)
end Go.Proofs.Ytfoohgfdkmgndaa
