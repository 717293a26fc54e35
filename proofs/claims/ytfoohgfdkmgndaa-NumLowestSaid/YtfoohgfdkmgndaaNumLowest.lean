/-
  What NumLowest does: it returns true, whatever the four numbers are.
-/
import Derived.Test.YtfoohgfdkmgndaaNumFields
import Derived.Test.YtfoohgfdkmgndaaNumRounds
import Derived.Deep.LoopGhost
namespace Go.Proofs.Ytfoohgfdkmgndaa
open Go.RowKit Go.Shelf

set_option maxHeartbeats 4000000 in
set_option maxRecDepth 100000 in
theorem lowest_none (p q r s ap aq bp bq : Int) (w : World)
    (R1 : Hid (∀ w, Calls Try.prog 29 #[.int .i64 p, .int .i64 q, .int .i64 r, .int .i64 s] w fun e w' => e = .returned (.tuple #[.agg #[.int .i64 ap, .int .i64 aq], .agg #[.int .i64 bp, .int .i64 bq], .bool false]) ∧ Below w.heap.size w w'))
    : Calls Try.prog 11 #[.int .i64 p, .int .i64 q, .int .i64 r, .int .i64 s] w fun e w' => e = .returned (.bool true) ∧ Below w.heap.size w w' := by
  go_enter Try.func11, Try.ntmps11
  go_wp2_with fail
  refine (shown_any _).mono ?_; rintro e w1 ⟨rfl, hb1⟩
  have z1 := hb1.size; (try simp at z1)
  go_wp2_with fail
  refine (R1.out _).mono ?_; rintro e w2 ⟨rfl, hb2⟩
  have z2 := hb2.size; (try simp at z2)
  go_wp2
  go_ret
  exact ⟨rfl, (by repeat (first | exact Below.refl _ _ | (refine bset ?_ (by simp <;> omega) _) | (refine bon ?_ (by assumption)) | refine bdrew ?_ | refine bal ?_ _))⟩
set_option maxHeartbeats 4000000 in
set_option maxRecDepth 100000 in
theorem lowest_law_core (p q r s ap aq bp bq cp cq dp dq ep eq fp fq op oq : Int) (fc fd fe ff fo : Bool) (w : World)
    (R1 : Hid (∀ w, Calls Try.prog 29 #[.int .i64 p, .int .i64 q, .int .i64 r, .int .i64 s] w fun e w' => e = .returned (.tuple #[.agg #[.int .i64 ap, .int .i64 aq], .agg #[.int .i64 bp, .int .i64 bq], .bool true]) ∧ Below w.heap.size w w'))
    (Oc : Hid (∀ w, Calls Try.prog 30 #[.agg #[.int .i64 ap, .int .i64 aq], .agg #[.int .i64 bp, .int .i64 bq]] w fun e w' => e = .returned (.tuple #[.agg #[.int .i64 cp, .int .i64 cq], .bool fc]) ∧ Below w.heap.size w w'))
    (Mc : Hid (∀ w, Calls Try.prog 26 #[.int .i64 cp, .int .i64 cq] w fun e w' => e = .returned (.tuple #[.agg #[.int .i64 cp, .int .i64 cq], .bool fc]) ∧ Below w.heap.size w w'))
    (hc : fc = true ∨ (fc = false ∧ cp = 0 ∧ cq = 0))
    (Od : Hid (∀ w, Calls Try.prog 31 #[.agg #[.int .i64 ap, .int .i64 aq], .agg #[.int .i64 bp, .int .i64 bq]] w fun e w' => e = .returned (.tuple #[.agg #[.int .i64 dp, .int .i64 dq], .bool fd]) ∧ Below w.heap.size w w'))
    (Md : Hid (∀ w, Calls Try.prog 26 #[.int .i64 dp, .int .i64 dq] w fun e w' => e = .returned (.tuple #[.agg #[.int .i64 dp, .int .i64 dq], .bool fd]) ∧ Below w.heap.size w w'))
    (hd : fd = true ∨ (fd = false ∧ dp = 0 ∧ dq = 0))
    (Oe : Hid (∀ w, Calls Try.prog 32 #[.agg #[.int .i64 ap, .int .i64 aq], .agg #[.int .i64 bp, .int .i64 bq]] w fun e w' => e = .returned (.tuple #[.agg #[.int .i64 ep, .int .i64 eq], .bool fe]) ∧ Below w.heap.size w w'))
    (Me : Hid (∀ w, Calls Try.prog 26 #[.int .i64 ep, .int .i64 eq] w fun e w' => e = .returned (.tuple #[.agg #[.int .i64 ep, .int .i64 eq], .bool fe]) ∧ Below w.heap.size w w'))
    (he : fe = true ∨ (fe = false ∧ ep = 0 ∧ eq = 0))
    (Of : Hid (∀ w, Calls Try.prog 33 #[.agg #[.int .i64 ap, .int .i64 aq], .agg #[.int .i64 bp, .int .i64 bq]] w fun e w' => e = .returned (.tuple #[.agg #[.int .i64 fp, .int .i64 fq], .bool ff]) ∧ Below w.heap.size w w'))
    (Mf : Hid (∀ w, Calls Try.prog 26 #[.int .i64 fp, .int .i64 fq] w fun e w' => e = .returned (.tuple #[.agg #[.int .i64 fp, .int .i64 fq], .bool ff]) ∧ Below w.heap.size w w'))
    (hf : ff = true ∨ (ff = false ∧ fp = 0 ∧ fq = 0))
    (Oo : Hid (∀ w, Calls Try.prog 33 #[.agg #[.int .i64 ap, .int .i64 aq], .agg #[.int .i64 ap, .int .i64 aq]] w fun e w' => e = .returned (.tuple #[.agg #[.int .i64 op, .int .i64 oq], .bool fo]) ∧ Below w.heap.size w w'))
    (ho : ((ap != 0) = true ∧ fo = true ∧ op = 1 ∧ oq = 1) ∨ ((ap != 0) = false ∧ fo = false))
    (Mt : -9223372036854775808 < p → -9223372036854775808 < q → Hid (∀ w, Calls Try.prog 26 #[.int .i64 (-p), .int .i64 (-q)] w fun e w' => e = .returned (.tuple #[.agg #[.int .i64 ap, .int .i64 aq], .bool true]) ∧ Below w.heap.size w w'))
    (p1 : -9223372036854775808 ≤ p) (p2 : p ≤ 9223372036854775807) (q1 : -9223372036854775808 ≤ q) (q2 : q ≤ 9223372036854775807) :
    Calls Try.prog 11 #[.int .i64 p, .int .i64 q, .int .i64 r, .int .i64 s] w fun e w' => e = .returned (.bool true) ∧ Below w.heap.size w w' := by
  go_enter Try.func11, Try.ntmps11
  go_wp2_with fail
  refine (shown_any _).mono ?_; rintro e w1 ⟨rfl, hb1⟩
  have z1 := hb1.size; (try simp at z1)
  go_wp2_with fail
  refine (R1.out _).mono ?_; rintro e w2 ⟨rfl, hb2⟩
  have z2 := hb2.size; (try simp at z2)
  go_wp2_with fail
  go_loopw [13] (fun i w' => ∃ k : Int, 0 ≤ k ∧ k ≤ 4 ∧ i = .int .i64 k ∧ Two w' w2.heap.size (.int .i64 ap) (.int .i64 aq) ∧ Two w' (w2.heap.size + 1) (.int .i64 bp) (.int .i64 bq) ∧ w2.heap.size + 2 ≤ w'.heap.size ∧ Below w.heap.size w w') (fun i _ => (4 - intOf i).toNat)
  case atStart => exact ⟨0, by omega, by omega, rfl, by simp [Two, go_sem], by simp [Two, go_sem], by simp, (by repeat (first | exact Below.refl _ _ | (refine bset ?_ (by simp <;> omega) _) | (refine bon ?_ (by assumption)) | refine bdrew ?_ | refine bal ?_ _))⟩
  case round =>
    obtain ⟨k, hk0, hk4, rfl, t_a, t_b, hz2, hb0⟩ := hrel
    have hz := hb0.size
    rcases (by omega : k = 0 ∨ k = 1 ∨ k = 2 ∨ k = 3 ∨ k = 4) with rfl | rfl | rfl | rfl | rfl
    · rcases hc with rfl | ⟨rfl, rfl, rfl⟩
      · have x0_a := t_a.1
        have x1_a := t_a.2.1
        have y0_a := t_a.2.2.1
        have y1_a := t_a.2.2.2
        have x0_b := t_b.1
        have x1_b := t_b.2.1
        have y0_b := t_b.2.2.1
        have y1_b := t_b.2.2.2
        go_wp2_with fail
        refine (Oc.out _).mono ?_; rintro e w31 ⟨rfl, hb31⟩
        clear x0_a x1_a y0_a y1_a x0_b x1_b y0_b y1_b
        have z31 := hb31.size; (try simp at z31)
        replace t_a := Two.later hb31 t_a
        replace t_b := Two.later hb31 t_b
        go_wp2_with fail
        refine (Mc.out _).mono ?_; rintro e w32 ⟨rfl, hb32⟩
        have z32 := hb32.size; (try simp at z32)
        replace t_a := Two.later hb32 (Two.later (bal (Below.refl _ _) _) t_a)
        replace t_b := Two.later hb32 (Two.later (bal (Below.refl _ _) _) t_b)
        have t_c : Two w32 (w31.heap.size) (.int .i64 cp) (.int .i64 cq) := Two.later hb32 (by simp [Two, go_sem])
        have x0_c : ∀ o0, (w32.alloc o0).cell? ⟨w31.heap.size, 0, none⟩ = some (.int .i64 cp) := fun o0 => (Two.later (bal (Below.refl _ _) o0) t_c).1
        have x1_c : ∀ o0, (w32.alloc o0).cell? ⟨w31.heap.size, 1, none⟩ = some (.int .i64 cq) := fun o0 => (Two.later (bal (Below.refl _ _) o0) t_c).2.1
        have y0_c : ∀ o0, (w32.alloc o0).frozen? ⟨w31.heap.size, 0, none⟩ = false := fun o0 => (Two.later (bal (Below.refl _ _) o0) t_c).2.2.1
        have y1_c : ∀ o0, (w32.alloc o0).frozen? ⟨w31.heap.size, 1, none⟩ = false := fun o0 => (Two.later (bal (Below.refl _ _) o0) t_c).2.2.2
        go_wp2_with fail
        go_roundw
        case rel => exact ⟨1, by omega, by omega, rfl, Two.later (by repeat (first | exact Below.refl _ _ | refine bal ?_ _)) t_a, Two.later (by repeat (first | exact Below.refl _ _ | refine bal ?_ _)) t_b, by simp; omega, (by repeat (first | exact Below.refl _ _ | (refine bset ?_ (by simp <;> omega) _) | (refine bon ?_ (by assumption)) | refine bdrew ?_ | refine bal ?_ _))⟩
        case measure => simp [intOf]
      · have x0_a := t_a.1
        have x1_a := t_a.2.1
        have y0_a := t_a.2.2.1
        have y1_a := t_a.2.2.2
        have x0_b := t_b.1
        have x1_b := t_b.2.1
        have y0_b := t_b.2.2.1
        have y1_b := t_b.2.2.2
        go_wp2_with fail
        refine (Oc.out _).mono ?_; rintro e w31 ⟨rfl, hb31⟩
        clear x0_a x1_a y0_a y1_a x0_b x1_b y0_b y1_b
        have z31 := hb31.size; (try simp at z31)
        replace t_a := Two.later hb31 t_a
        replace t_b := Two.later hb31 t_b
        go_wp2_with fail
        refine (Mc.out _).mono ?_; rintro e w32 ⟨rfl, hb32⟩
        have z32 := hb32.size; (try simp at z32)
        replace t_a := Two.later hb32 (Two.later (bal (Below.refl _ _) _) t_a)
        replace t_b := Two.later hb32 (Two.later (bal (Below.refl _ _) _) t_b)
        have t_c : Two w32 (w31.heap.size) (.int .i64 0) (.int .i64 0) := Two.later hb32 (by simp [Two, go_sem])
        have x0_c : ∀ o0, (w32.alloc o0).cell? ⟨w31.heap.size, 0, none⟩ = some (.int .i64 0) := fun o0 => (Two.later (bal (Below.refl _ _) o0) t_c).1
        have x1_c : ∀ o0, (w32.alloc o0).cell? ⟨w31.heap.size, 1, none⟩ = some (.int .i64 0) := fun o0 => (Two.later (bal (Below.refl _ _) o0) t_c).2.1
        have y0_c : ∀ o0, (w32.alloc o0).frozen? ⟨w31.heap.size, 0, none⟩ = false := fun o0 => (Two.later (bal (Below.refl _ _) o0) t_c).2.2.1
        have y1_c : ∀ o0, (w32.alloc o0).frozen? ⟨w31.heap.size, 1, none⟩ = false := fun o0 => (Two.later (bal (Below.refl _ _) o0) t_c).2.2.2
        go_wp2_with fail
        go_roundw
        case rel => exact ⟨1, by omega, by omega, rfl, Two.later (by repeat (first | exact Below.refl _ _ | refine bal ?_ _)) t_a, Two.later (by repeat (first | exact Below.refl _ _ | refine bal ?_ _)) t_b, by simp; omega, (by repeat (first | exact Below.refl _ _ | (refine bset ?_ (by simp <;> omega) _) | (refine bon ?_ (by assumption)) | refine bdrew ?_ | refine bal ?_ _))⟩
        case measure => simp [intOf]
    · rcases hd with rfl | ⟨rfl, rfl, rfl⟩
      · have x0_a := t_a.1
        have x1_a := t_a.2.1
        have y0_a := t_a.2.2.1
        have y1_a := t_a.2.2.2
        have x0_b := t_b.1
        have x1_b := t_b.2.1
        have y0_b := t_b.2.2.1
        have y1_b := t_b.2.2.2
        go_wp2_with fail
        refine (Oc.out _).mono ?_; rintro e w31 ⟨rfl, hb31⟩
        clear x0_a x1_a y0_a y1_a x0_b x1_b y0_b y1_b
        have z31 := hb31.size; (try simp at z31)
        replace t_a := Two.later hb31 t_a
        replace t_b := Two.later hb31 t_b
        have x0_a : ∀ o0, (w31.alloc o0).cell? ⟨w2.heap.size, 0, none⟩ = some (.int .i64 ap) := fun o0 => (Two.later (bal (Below.refl _ _) o0) t_a).1
        have x1_a : ∀ o0, (w31.alloc o0).cell? ⟨w2.heap.size, 1, none⟩ = some (.int .i64 aq) := fun o0 => (Two.later (bal (Below.refl _ _) o0) t_a).2.1
        have y0_a : ∀ o0, (w31.alloc o0).frozen? ⟨w2.heap.size, 0, none⟩ = false := fun o0 => (Two.later (bal (Below.refl _ _) o0) t_a).2.2.1
        have y1_a : ∀ o0, (w31.alloc o0).frozen? ⟨w2.heap.size, 1, none⟩ = false := fun o0 => (Two.later (bal (Below.refl _ _) o0) t_a).2.2.2
        have x0_b : ∀ o0, (w31.alloc o0).cell? ⟨w2.heap.size + 1, 0, none⟩ = some (.int .i64 bp) := fun o0 => (Two.later (bal (Below.refl _ _) o0) t_b).1
        have x1_b : ∀ o0, (w31.alloc o0).cell? ⟨w2.heap.size + 1, 1, none⟩ = some (.int .i64 bq) := fun o0 => (Two.later (bal (Below.refl _ _) o0) t_b).2.1
        have y0_b : ∀ o0, (w31.alloc o0).frozen? ⟨w2.heap.size + 1, 0, none⟩ = false := fun o0 => (Two.later (bal (Below.refl _ _) o0) t_b).2.2.1
        have y1_b : ∀ o0, (w31.alloc o0).frozen? ⟨w2.heap.size + 1, 1, none⟩ = false := fun o0 => (Two.later (bal (Below.refl _ _) o0) t_b).2.2.2
        go_wp2_with fail
        refine (Od.out _).mono ?_; rintro e w32 ⟨rfl, hb32⟩
        clear x0_a x1_a y0_a y1_a x0_b x1_b y0_b y1_b
        have z32 := hb32.size; (try simp at z32)
        replace t_a := Two.later hb32 (Two.later (bal (Below.refl _ _) _) t_a)
        replace t_b := Two.later hb32 (Two.later (bal (Below.refl _ _) _) t_b)
        have t_c : Two w32 (w31.heap.size) (.int .i64 cp) (.int .i64 cq) := Two.later hb32 (by simp [Two, go_sem])
        have x0_c := t_c.1
        have x1_c := t_c.2.1
        have y0_c := t_c.2.2.1
        have y1_c := t_c.2.2.2
        have m0_a : ∀ u0 u1, ((w32.setCell ⟨w31.heap.size, 0, none⟩ u0).setCell ⟨w31.heap.size, 1, none⟩ u1).cell? ⟨w2.heap.size, 0, none⟩ = some (.int .i64 ap) := fun u0 u1 => (Two.set_other t_a (by omega) u0 u1).1
        have m1_a : ∀ u0 u1, ((w32.setCell ⟨w31.heap.size, 0, none⟩ u0).setCell ⟨w31.heap.size, 1, none⟩ u1).cell? ⟨w2.heap.size, 1, none⟩ = some (.int .i64 aq) := fun u0 u1 => (Two.set_other t_a (by omega) u0 u1).2.1
        have m0_b : ∀ u0 u1, ((w32.setCell ⟨w31.heap.size, 0, none⟩ u0).setCell ⟨w31.heap.size, 1, none⟩ u1).cell? ⟨w2.heap.size + 1, 0, none⟩ = some (.int .i64 bp) := fun u0 u1 => (Two.set_other t_b (by omega) u0 u1).1
        have m1_b : ∀ u0 u1, ((w32.setCell ⟨w31.heap.size, 0, none⟩ u0).setCell ⟨w31.heap.size, 1, none⟩ u1).cell? ⟨w2.heap.size + 1, 1, none⟩ = some (.int .i64 bq) := fun u0 u1 => (Two.set_other t_b (by omega) u0 u1).2.1
        go_wp2_with fail
        refine (Md.out _).mono ?_; rintro e w33 ⟨rfl, hb33⟩
        clear x0_c x1_c y0_c y1_c m0_a m1_a m0_b m1_b
        have z33 := hb33.size; (try simp at z33)
        replace t_a := Two.later hb33 (Two.set_other t_a (by omega) _ _)
        replace t_b := Two.later hb33 (Two.set_other t_b (by omega) _ _)
        replace t_c := Two.later hb33 (Two.set_same t_c _ _)
        have x0_c : ∀ o0, (w33.alloc o0).cell? ⟨w31.heap.size, 0, none⟩ = some (.int .i64 dp) := fun o0 => (Two.later (bal (Below.refl _ _) o0) t_c).1
        have x1_c : ∀ o0, (w33.alloc o0).cell? ⟨w31.heap.size, 1, none⟩ = some (.int .i64 dq) := fun o0 => (Two.later (bal (Below.refl _ _) o0) t_c).2.1
        have y0_c : ∀ o0, (w33.alloc o0).frozen? ⟨w31.heap.size, 0, none⟩ = false := fun o0 => (Two.later (bal (Below.refl _ _) o0) t_c).2.2.1
        have y1_c : ∀ o0, (w33.alloc o0).frozen? ⟨w31.heap.size, 1, none⟩ = false := fun o0 => (Two.later (bal (Below.refl _ _) o0) t_c).2.2.2
        go_wp2_with fail
        go_roundw
        case rel => exact ⟨2, by omega, by omega, rfl, Two.later (by repeat (first | exact Below.refl _ _ | refine bal ?_ _)) t_a, Two.later (by repeat (first | exact Below.refl _ _ | refine bal ?_ _)) t_b, by simp; omega, (by repeat (first | exact Below.refl _ _ | (refine bset ?_ (by simp <;> omega) _) | (refine bon ?_ (by assumption)) | refine bdrew ?_ | refine bal ?_ _))⟩
        case measure => simp [intOf]
      · have x0_a := t_a.1
        have x1_a := t_a.2.1
        have y0_a := t_a.2.2.1
        have y1_a := t_a.2.2.2
        have x0_b := t_b.1
        have x1_b := t_b.2.1
        have y0_b := t_b.2.2.1
        have y1_b := t_b.2.2.2
        go_wp2_with fail
        refine (Oc.out _).mono ?_; rintro e w31 ⟨rfl, hb31⟩
        clear x0_a x1_a y0_a y1_a x0_b x1_b y0_b y1_b
        have z31 := hb31.size; (try simp at z31)
        replace t_a := Two.later hb31 t_a
        replace t_b := Two.later hb31 t_b
        have x0_a : ∀ o0, (w31.alloc o0).cell? ⟨w2.heap.size, 0, none⟩ = some (.int .i64 ap) := fun o0 => (Two.later (bal (Below.refl _ _) o0) t_a).1
        have x1_a : ∀ o0, (w31.alloc o0).cell? ⟨w2.heap.size, 1, none⟩ = some (.int .i64 aq) := fun o0 => (Two.later (bal (Below.refl _ _) o0) t_a).2.1
        have y0_a : ∀ o0, (w31.alloc o0).frozen? ⟨w2.heap.size, 0, none⟩ = false := fun o0 => (Two.later (bal (Below.refl _ _) o0) t_a).2.2.1
        have y1_a : ∀ o0, (w31.alloc o0).frozen? ⟨w2.heap.size, 1, none⟩ = false := fun o0 => (Two.later (bal (Below.refl _ _) o0) t_a).2.2.2
        have x0_b : ∀ o0, (w31.alloc o0).cell? ⟨w2.heap.size + 1, 0, none⟩ = some (.int .i64 bp) := fun o0 => (Two.later (bal (Below.refl _ _) o0) t_b).1
        have x1_b : ∀ o0, (w31.alloc o0).cell? ⟨w2.heap.size + 1, 1, none⟩ = some (.int .i64 bq) := fun o0 => (Two.later (bal (Below.refl _ _) o0) t_b).2.1
        have y0_b : ∀ o0, (w31.alloc o0).frozen? ⟨w2.heap.size + 1, 0, none⟩ = false := fun o0 => (Two.later (bal (Below.refl _ _) o0) t_b).2.2.1
        have y1_b : ∀ o0, (w31.alloc o0).frozen? ⟨w2.heap.size + 1, 1, none⟩ = false := fun o0 => (Two.later (bal (Below.refl _ _) o0) t_b).2.2.2
        go_wp2_with fail
        refine (Od.out _).mono ?_; rintro e w32 ⟨rfl, hb32⟩
        clear x0_a x1_a y0_a y1_a x0_b x1_b y0_b y1_b
        have z32 := hb32.size; (try simp at z32)
        replace t_a := Two.later hb32 (Two.later (bal (Below.refl _ _) _) t_a)
        replace t_b := Two.later hb32 (Two.later (bal (Below.refl _ _) _) t_b)
        have t_c : Two w32 (w31.heap.size) (.int .i64 cp) (.int .i64 cq) := Two.later hb32 (by simp [Two, go_sem])
        have x0_c := t_c.1
        have x1_c := t_c.2.1
        have y0_c := t_c.2.2.1
        have y1_c := t_c.2.2.2
        have m0_a : ∀ u0 u1, ((w32.setCell ⟨w31.heap.size, 0, none⟩ u0).setCell ⟨w31.heap.size, 1, none⟩ u1).cell? ⟨w2.heap.size, 0, none⟩ = some (.int .i64 ap) := fun u0 u1 => (Two.set_other t_a (by omega) u0 u1).1
        have m1_a : ∀ u0 u1, ((w32.setCell ⟨w31.heap.size, 0, none⟩ u0).setCell ⟨w31.heap.size, 1, none⟩ u1).cell? ⟨w2.heap.size, 1, none⟩ = some (.int .i64 aq) := fun u0 u1 => (Two.set_other t_a (by omega) u0 u1).2.1
        have m0_b : ∀ u0 u1, ((w32.setCell ⟨w31.heap.size, 0, none⟩ u0).setCell ⟨w31.heap.size, 1, none⟩ u1).cell? ⟨w2.heap.size + 1, 0, none⟩ = some (.int .i64 bp) := fun u0 u1 => (Two.set_other t_b (by omega) u0 u1).1
        have m1_b : ∀ u0 u1, ((w32.setCell ⟨w31.heap.size, 0, none⟩ u0).setCell ⟨w31.heap.size, 1, none⟩ u1).cell? ⟨w2.heap.size + 1, 1, none⟩ = some (.int .i64 bq) := fun u0 u1 => (Two.set_other t_b (by omega) u0 u1).2.1
        go_wp2_with fail
        refine (Md.out _).mono ?_; rintro e w33 ⟨rfl, hb33⟩
        clear x0_c x1_c y0_c y1_c m0_a m1_a m0_b m1_b
        have z33 := hb33.size; (try simp at z33)
        replace t_a := Two.later hb33 (Two.set_other t_a (by omega) _ _)
        replace t_b := Two.later hb33 (Two.set_other t_b (by omega) _ _)
        replace t_c := Two.later hb33 (Two.set_same t_c _ _)
        have x0_c : ∀ o0, (w33.alloc o0).cell? ⟨w31.heap.size, 0, none⟩ = some (.int .i64 0) := fun o0 => (Two.later (bal (Below.refl _ _) o0) t_c).1
        have x1_c : ∀ o0, (w33.alloc o0).cell? ⟨w31.heap.size, 1, none⟩ = some (.int .i64 0) := fun o0 => (Two.later (bal (Below.refl _ _) o0) t_c).2.1
        have y0_c : ∀ o0, (w33.alloc o0).frozen? ⟨w31.heap.size, 0, none⟩ = false := fun o0 => (Two.later (bal (Below.refl _ _) o0) t_c).2.2.1
        have y1_c : ∀ o0, (w33.alloc o0).frozen? ⟨w31.heap.size, 1, none⟩ = false := fun o0 => (Two.later (bal (Below.refl _ _) o0) t_c).2.2.2
        go_wp2_with fail
        go_roundw
        case rel => exact ⟨2, by omega, by omega, rfl, Two.later (by repeat (first | exact Below.refl _ _ | refine bal ?_ _)) t_a, Two.later (by repeat (first | exact Below.refl _ _ | refine bal ?_ _)) t_b, by simp; omega, (by repeat (first | exact Below.refl _ _ | (refine bset ?_ (by simp <;> omega) _) | (refine bon ?_ (by assumption)) | refine bdrew ?_ | refine bal ?_ _))⟩
        case measure => simp [intOf]
    · rcases he with rfl | ⟨rfl, rfl, rfl⟩
      · have x0_a := t_a.1
        have x1_a := t_a.2.1
        have y0_a := t_a.2.2.1
        have y1_a := t_a.2.2.2
        have x0_b := t_b.1
        have x1_b := t_b.2.1
        have y0_b := t_b.2.2.1
        have y1_b := t_b.2.2.2
        go_wp2_with fail
        refine (Oc.out _).mono ?_; rintro e w31 ⟨rfl, hb31⟩
        clear x0_a x1_a y0_a y1_a x0_b x1_b y0_b y1_b
        have z31 := hb31.size; (try simp at z31)
        replace t_a := Two.later hb31 t_a
        replace t_b := Two.later hb31 t_b
        have x0_a : ∀ o0, (w31.alloc o0).cell? ⟨w2.heap.size, 0, none⟩ = some (.int .i64 ap) := fun o0 => (Two.later (bal (Below.refl _ _) o0) t_a).1
        have x1_a : ∀ o0, (w31.alloc o0).cell? ⟨w2.heap.size, 1, none⟩ = some (.int .i64 aq) := fun o0 => (Two.later (bal (Below.refl _ _) o0) t_a).2.1
        have y0_a : ∀ o0, (w31.alloc o0).frozen? ⟨w2.heap.size, 0, none⟩ = false := fun o0 => (Two.later (bal (Below.refl _ _) o0) t_a).2.2.1
        have y1_a : ∀ o0, (w31.alloc o0).frozen? ⟨w2.heap.size, 1, none⟩ = false := fun o0 => (Two.later (bal (Below.refl _ _) o0) t_a).2.2.2
        have x0_b : ∀ o0, (w31.alloc o0).cell? ⟨w2.heap.size + 1, 0, none⟩ = some (.int .i64 bp) := fun o0 => (Two.later (bal (Below.refl _ _) o0) t_b).1
        have x1_b : ∀ o0, (w31.alloc o0).cell? ⟨w2.heap.size + 1, 1, none⟩ = some (.int .i64 bq) := fun o0 => (Two.later (bal (Below.refl _ _) o0) t_b).2.1
        have y0_b : ∀ o0, (w31.alloc o0).frozen? ⟨w2.heap.size + 1, 0, none⟩ = false := fun o0 => (Two.later (bal (Below.refl _ _) o0) t_b).2.2.1
        have y1_b : ∀ o0, (w31.alloc o0).frozen? ⟨w2.heap.size + 1, 1, none⟩ = false := fun o0 => (Two.later (bal (Below.refl _ _) o0) t_b).2.2.2
        go_wp2_with fail
        refine (Oe.out _).mono ?_; rintro e w32 ⟨rfl, hb32⟩
        clear x0_a x1_a y0_a y1_a x0_b x1_b y0_b y1_b
        have z32 := hb32.size; (try simp at z32)
        replace t_a := Two.later hb32 (Two.later (bal (Below.refl _ _) _) t_a)
        replace t_b := Two.later hb32 (Two.later (bal (Below.refl _ _) _) t_b)
        have t_c : Two w32 (w31.heap.size) (.int .i64 cp) (.int .i64 cq) := Two.later hb32 (by simp [Two, go_sem])
        have x0_c := t_c.1
        have x1_c := t_c.2.1
        have y0_c := t_c.2.2.1
        have y1_c := t_c.2.2.2
        have m0_a : ∀ u0 u1, ((w32.setCell ⟨w31.heap.size, 0, none⟩ u0).setCell ⟨w31.heap.size, 1, none⟩ u1).cell? ⟨w2.heap.size, 0, none⟩ = some (.int .i64 ap) := fun u0 u1 => (Two.set_other t_a (by omega) u0 u1).1
        have m1_a : ∀ u0 u1, ((w32.setCell ⟨w31.heap.size, 0, none⟩ u0).setCell ⟨w31.heap.size, 1, none⟩ u1).cell? ⟨w2.heap.size, 1, none⟩ = some (.int .i64 aq) := fun u0 u1 => (Two.set_other t_a (by omega) u0 u1).2.1
        have m0_b : ∀ u0 u1, ((w32.setCell ⟨w31.heap.size, 0, none⟩ u0).setCell ⟨w31.heap.size, 1, none⟩ u1).cell? ⟨w2.heap.size + 1, 0, none⟩ = some (.int .i64 bp) := fun u0 u1 => (Two.set_other t_b (by omega) u0 u1).1
        have m1_b : ∀ u0 u1, ((w32.setCell ⟨w31.heap.size, 0, none⟩ u0).setCell ⟨w31.heap.size, 1, none⟩ u1).cell? ⟨w2.heap.size + 1, 1, none⟩ = some (.int .i64 bq) := fun u0 u1 => (Two.set_other t_b (by omega) u0 u1).2.1
        go_wp2_with fail
        refine (Me.out _).mono ?_; rintro e w33 ⟨rfl, hb33⟩
        clear x0_c x1_c y0_c y1_c m0_a m1_a m0_b m1_b
        have z33 := hb33.size; (try simp at z33)
        replace t_a := Two.later hb33 (Two.set_other t_a (by omega) _ _)
        replace t_b := Two.later hb33 (Two.set_other t_b (by omega) _ _)
        replace t_c := Two.later hb33 (Two.set_same t_c _ _)
        have x0_c : ∀ o0, (w33.alloc o0).cell? ⟨w31.heap.size, 0, none⟩ = some (.int .i64 ep) := fun o0 => (Two.later (bal (Below.refl _ _) o0) t_c).1
        have x1_c : ∀ o0, (w33.alloc o0).cell? ⟨w31.heap.size, 1, none⟩ = some (.int .i64 eq) := fun o0 => (Two.later (bal (Below.refl _ _) o0) t_c).2.1
        have y0_c : ∀ o0, (w33.alloc o0).frozen? ⟨w31.heap.size, 0, none⟩ = false := fun o0 => (Two.later (bal (Below.refl _ _) o0) t_c).2.2.1
        have y1_c : ∀ o0, (w33.alloc o0).frozen? ⟨w31.heap.size, 1, none⟩ = false := fun o0 => (Two.later (bal (Below.refl _ _) o0) t_c).2.2.2
        go_wp2_with fail
        go_roundw
        case rel => exact ⟨3, by omega, by omega, rfl, Two.later (by repeat (first | exact Below.refl _ _ | refine bal ?_ _)) t_a, Two.later (by repeat (first | exact Below.refl _ _ | refine bal ?_ _)) t_b, by simp; omega, (by repeat (first | exact Below.refl _ _ | (refine bset ?_ (by simp <;> omega) _) | (refine bon ?_ (by assumption)) | refine bdrew ?_ | refine bal ?_ _))⟩
        case measure => simp [intOf]
      · have x0_a := t_a.1
        have x1_a := t_a.2.1
        have y0_a := t_a.2.2.1
        have y1_a := t_a.2.2.2
        have x0_b := t_b.1
        have x1_b := t_b.2.1
        have y0_b := t_b.2.2.1
        have y1_b := t_b.2.2.2
        go_wp2_with fail
        refine (Oc.out _).mono ?_; rintro e w31 ⟨rfl, hb31⟩
        clear x0_a x1_a y0_a y1_a x0_b x1_b y0_b y1_b
        have z31 := hb31.size; (try simp at z31)
        replace t_a := Two.later hb31 t_a
        replace t_b := Two.later hb31 t_b
        have x0_a : ∀ o0, (w31.alloc o0).cell? ⟨w2.heap.size, 0, none⟩ = some (.int .i64 ap) := fun o0 => (Two.later (bal (Below.refl _ _) o0) t_a).1
        have x1_a : ∀ o0, (w31.alloc o0).cell? ⟨w2.heap.size, 1, none⟩ = some (.int .i64 aq) := fun o0 => (Two.later (bal (Below.refl _ _) o0) t_a).2.1
        have y0_a : ∀ o0, (w31.alloc o0).frozen? ⟨w2.heap.size, 0, none⟩ = false := fun o0 => (Two.later (bal (Below.refl _ _) o0) t_a).2.2.1
        have y1_a : ∀ o0, (w31.alloc o0).frozen? ⟨w2.heap.size, 1, none⟩ = false := fun o0 => (Two.later (bal (Below.refl _ _) o0) t_a).2.2.2
        have x0_b : ∀ o0, (w31.alloc o0).cell? ⟨w2.heap.size + 1, 0, none⟩ = some (.int .i64 bp) := fun o0 => (Two.later (bal (Below.refl _ _) o0) t_b).1
        have x1_b : ∀ o0, (w31.alloc o0).cell? ⟨w2.heap.size + 1, 1, none⟩ = some (.int .i64 bq) := fun o0 => (Two.later (bal (Below.refl _ _) o0) t_b).2.1
        have y0_b : ∀ o0, (w31.alloc o0).frozen? ⟨w2.heap.size + 1, 0, none⟩ = false := fun o0 => (Two.later (bal (Below.refl _ _) o0) t_b).2.2.1
        have y1_b : ∀ o0, (w31.alloc o0).frozen? ⟨w2.heap.size + 1, 1, none⟩ = false := fun o0 => (Two.later (bal (Below.refl _ _) o0) t_b).2.2.2
        go_wp2_with fail
        refine (Oe.out _).mono ?_; rintro e w32 ⟨rfl, hb32⟩
        clear x0_a x1_a y0_a y1_a x0_b x1_b y0_b y1_b
        have z32 := hb32.size; (try simp at z32)
        replace t_a := Two.later hb32 (Two.later (bal (Below.refl _ _) _) t_a)
        replace t_b := Two.later hb32 (Two.later (bal (Below.refl _ _) _) t_b)
        have t_c : Two w32 (w31.heap.size) (.int .i64 cp) (.int .i64 cq) := Two.later hb32 (by simp [Two, go_sem])
        have x0_c := t_c.1
        have x1_c := t_c.2.1
        have y0_c := t_c.2.2.1
        have y1_c := t_c.2.2.2
        have m0_a : ∀ u0 u1, ((w32.setCell ⟨w31.heap.size, 0, none⟩ u0).setCell ⟨w31.heap.size, 1, none⟩ u1).cell? ⟨w2.heap.size, 0, none⟩ = some (.int .i64 ap) := fun u0 u1 => (Two.set_other t_a (by omega) u0 u1).1
        have m1_a : ∀ u0 u1, ((w32.setCell ⟨w31.heap.size, 0, none⟩ u0).setCell ⟨w31.heap.size, 1, none⟩ u1).cell? ⟨w2.heap.size, 1, none⟩ = some (.int .i64 aq) := fun u0 u1 => (Two.set_other t_a (by omega) u0 u1).2.1
        have m0_b : ∀ u0 u1, ((w32.setCell ⟨w31.heap.size, 0, none⟩ u0).setCell ⟨w31.heap.size, 1, none⟩ u1).cell? ⟨w2.heap.size + 1, 0, none⟩ = some (.int .i64 bp) := fun u0 u1 => (Two.set_other t_b (by omega) u0 u1).1
        have m1_b : ∀ u0 u1, ((w32.setCell ⟨w31.heap.size, 0, none⟩ u0).setCell ⟨w31.heap.size, 1, none⟩ u1).cell? ⟨w2.heap.size + 1, 1, none⟩ = some (.int .i64 bq) := fun u0 u1 => (Two.set_other t_b (by omega) u0 u1).2.1
        go_wp2_with fail
        refine (Me.out _).mono ?_; rintro e w33 ⟨rfl, hb33⟩
        clear x0_c x1_c y0_c y1_c m0_a m1_a m0_b m1_b
        have z33 := hb33.size; (try simp at z33)
        replace t_a := Two.later hb33 (Two.set_other t_a (by omega) _ _)
        replace t_b := Two.later hb33 (Two.set_other t_b (by omega) _ _)
        replace t_c := Two.later hb33 (Two.set_same t_c _ _)
        have x0_c : ∀ o0, (w33.alloc o0).cell? ⟨w31.heap.size, 0, none⟩ = some (.int .i64 0) := fun o0 => (Two.later (bal (Below.refl _ _) o0) t_c).1
        have x1_c : ∀ o0, (w33.alloc o0).cell? ⟨w31.heap.size, 1, none⟩ = some (.int .i64 0) := fun o0 => (Two.later (bal (Below.refl _ _) o0) t_c).2.1
        have y0_c : ∀ o0, (w33.alloc o0).frozen? ⟨w31.heap.size, 0, none⟩ = false := fun o0 => (Two.later (bal (Below.refl _ _) o0) t_c).2.2.1
        have y1_c : ∀ o0, (w33.alloc o0).frozen? ⟨w31.heap.size, 1, none⟩ = false := fun o0 => (Two.later (bal (Below.refl _ _) o0) t_c).2.2.2
        go_wp2_with fail
        go_roundw
        case rel => exact ⟨3, by omega, by omega, rfl, Two.later (by repeat (first | exact Below.refl _ _ | refine bal ?_ _)) t_a, Two.later (by repeat (first | exact Below.refl _ _ | refine bal ?_ _)) t_b, by simp; omega, (by repeat (first | exact Below.refl _ _ | (refine bset ?_ (by simp <;> omega) _) | (refine bon ?_ (by assumption)) | refine bdrew ?_ | refine bal ?_ _))⟩
        case measure => simp [intOf]
    · rcases hf with rfl | ⟨rfl, rfl, rfl⟩
      · have x0_a := t_a.1
        have x1_a := t_a.2.1
        have y0_a := t_a.2.2.1
        have y1_a := t_a.2.2.2
        have x0_b := t_b.1
        have x1_b := t_b.2.1
        have y0_b := t_b.2.2.1
        have y1_b := t_b.2.2.2
        go_wp2_with fail
        refine (Oc.out _).mono ?_; rintro e w31 ⟨rfl, hb31⟩
        clear x0_a x1_a y0_a y1_a x0_b x1_b y0_b y1_b
        have z31 := hb31.size; (try simp at z31)
        replace t_a := Two.later hb31 t_a
        replace t_b := Two.later hb31 t_b
        have x0_a : ∀ o0, (w31.alloc o0).cell? ⟨w2.heap.size, 0, none⟩ = some (.int .i64 ap) := fun o0 => (Two.later (bal (Below.refl _ _) o0) t_a).1
        have x1_a : ∀ o0, (w31.alloc o0).cell? ⟨w2.heap.size, 1, none⟩ = some (.int .i64 aq) := fun o0 => (Two.later (bal (Below.refl _ _) o0) t_a).2.1
        have y0_a : ∀ o0, (w31.alloc o0).frozen? ⟨w2.heap.size, 0, none⟩ = false := fun o0 => (Two.later (bal (Below.refl _ _) o0) t_a).2.2.1
        have y1_a : ∀ o0, (w31.alloc o0).frozen? ⟨w2.heap.size, 1, none⟩ = false := fun o0 => (Two.later (bal (Below.refl _ _) o0) t_a).2.2.2
        have x0_b : ∀ o0, (w31.alloc o0).cell? ⟨w2.heap.size + 1, 0, none⟩ = some (.int .i64 bp) := fun o0 => (Two.later (bal (Below.refl _ _) o0) t_b).1
        have x1_b : ∀ o0, (w31.alloc o0).cell? ⟨w2.heap.size + 1, 1, none⟩ = some (.int .i64 bq) := fun o0 => (Two.later (bal (Below.refl _ _) o0) t_b).2.1
        have y0_b : ∀ o0, (w31.alloc o0).frozen? ⟨w2.heap.size + 1, 0, none⟩ = false := fun o0 => (Two.later (bal (Below.refl _ _) o0) t_b).2.2.1
        have y1_b : ∀ o0, (w31.alloc o0).frozen? ⟨w2.heap.size + 1, 1, none⟩ = false := fun o0 => (Two.later (bal (Below.refl _ _) o0) t_b).2.2.2
        go_wp2_with fail
        refine (Of.out _).mono ?_; rintro e w32 ⟨rfl, hb32⟩
        clear x0_a x1_a y0_a y1_a x0_b x1_b y0_b y1_b
        have z32 := hb32.size; (try simp at z32)
        replace t_a := Two.later hb32 (Two.later (bal (Below.refl _ _) _) t_a)
        replace t_b := Two.later hb32 (Two.later (bal (Below.refl _ _) _) t_b)
        have t_c : Two w32 (w31.heap.size) (.int .i64 cp) (.int .i64 cq) := Two.later hb32 (by simp [Two, go_sem])
        have x0_c := t_c.1
        have x1_c := t_c.2.1
        have y0_c := t_c.2.2.1
        have y1_c := t_c.2.2.2
        have m0_a : ∀ u0 u1, ((w32.setCell ⟨w31.heap.size, 0, none⟩ u0).setCell ⟨w31.heap.size, 1, none⟩ u1).cell? ⟨w2.heap.size, 0, none⟩ = some (.int .i64 ap) := fun u0 u1 => (Two.set_other t_a (by omega) u0 u1).1
        have m1_a : ∀ u0 u1, ((w32.setCell ⟨w31.heap.size, 0, none⟩ u0).setCell ⟨w31.heap.size, 1, none⟩ u1).cell? ⟨w2.heap.size, 1, none⟩ = some (.int .i64 aq) := fun u0 u1 => (Two.set_other t_a (by omega) u0 u1).2.1
        have m0_b : ∀ u0 u1, ((w32.setCell ⟨w31.heap.size, 0, none⟩ u0).setCell ⟨w31.heap.size, 1, none⟩ u1).cell? ⟨w2.heap.size + 1, 0, none⟩ = some (.int .i64 bp) := fun u0 u1 => (Two.set_other t_b (by omega) u0 u1).1
        have m1_b : ∀ u0 u1, ((w32.setCell ⟨w31.heap.size, 0, none⟩ u0).setCell ⟨w31.heap.size, 1, none⟩ u1).cell? ⟨w2.heap.size + 1, 1, none⟩ = some (.int .i64 bq) := fun u0 u1 => (Two.set_other t_b (by omega) u0 u1).2.1
        go_wp2_with fail
        refine (Mf.out _).mono ?_; rintro e w33 ⟨rfl, hb33⟩
        clear x0_c x1_c y0_c y1_c m0_a m1_a m0_b m1_b
        have z33 := hb33.size; (try simp at z33)
        replace t_a := Two.later hb33 (Two.set_other t_a (by omega) _ _)
        replace t_b := Two.later hb33 (Two.set_other t_b (by omega) _ _)
        replace t_c := Two.later hb33 (Two.set_same t_c _ _)
        have x0_c : ∀ o0, (w33.alloc o0).cell? ⟨w31.heap.size, 0, none⟩ = some (.int .i64 fp) := fun o0 => (Two.later (bal (Below.refl _ _) o0) t_c).1
        have x1_c : ∀ o0, (w33.alloc o0).cell? ⟨w31.heap.size, 1, none⟩ = some (.int .i64 fq) := fun o0 => (Two.later (bal (Below.refl _ _) o0) t_c).2.1
        have y0_c : ∀ o0, (w33.alloc o0).frozen? ⟨w31.heap.size, 0, none⟩ = false := fun o0 => (Two.later (bal (Below.refl _ _) o0) t_c).2.2.1
        have y1_c : ∀ o0, (w33.alloc o0).frozen? ⟨w31.heap.size, 1, none⟩ = false := fun o0 => (Two.later (bal (Below.refl _ _) o0) t_c).2.2.2
        go_wp2_with fail
        go_roundw
        case rel => exact ⟨4, by omega, by omega, rfl, Two.later (by repeat (first | exact Below.refl _ _ | refine bal ?_ _)) t_a, Two.later (by repeat (first | exact Below.refl _ _ | refine bal ?_ _)) t_b, by simp; omega, (by repeat (first | exact Below.refl _ _ | (refine bset ?_ (by simp <;> omega) _) | (refine bon ?_ (by assumption)) | refine bdrew ?_ | refine bal ?_ _))⟩
        case measure => simp [intOf]
      · have x0_a := t_a.1
        have x1_a := t_a.2.1
        have y0_a := t_a.2.2.1
        have y1_a := t_a.2.2.2
        have x0_b := t_b.1
        have x1_b := t_b.2.1
        have y0_b := t_b.2.2.1
        have y1_b := t_b.2.2.2
        go_wp2_with fail
        refine (Oc.out _).mono ?_; rintro e w31 ⟨rfl, hb31⟩
        clear x0_a x1_a y0_a y1_a x0_b x1_b y0_b y1_b
        have z31 := hb31.size; (try simp at z31)
        replace t_a := Two.later hb31 t_a
        replace t_b := Two.later hb31 t_b
        have x0_a : ∀ o0, (w31.alloc o0).cell? ⟨w2.heap.size, 0, none⟩ = some (.int .i64 ap) := fun o0 => (Two.later (bal (Below.refl _ _) o0) t_a).1
        have x1_a : ∀ o0, (w31.alloc o0).cell? ⟨w2.heap.size, 1, none⟩ = some (.int .i64 aq) := fun o0 => (Two.later (bal (Below.refl _ _) o0) t_a).2.1
        have y0_a : ∀ o0, (w31.alloc o0).frozen? ⟨w2.heap.size, 0, none⟩ = false := fun o0 => (Two.later (bal (Below.refl _ _) o0) t_a).2.2.1
        have y1_a : ∀ o0, (w31.alloc o0).frozen? ⟨w2.heap.size, 1, none⟩ = false := fun o0 => (Two.later (bal (Below.refl _ _) o0) t_a).2.2.2
        have x0_b : ∀ o0, (w31.alloc o0).cell? ⟨w2.heap.size + 1, 0, none⟩ = some (.int .i64 bp) := fun o0 => (Two.later (bal (Below.refl _ _) o0) t_b).1
        have x1_b : ∀ o0, (w31.alloc o0).cell? ⟨w2.heap.size + 1, 1, none⟩ = some (.int .i64 bq) := fun o0 => (Two.later (bal (Below.refl _ _) o0) t_b).2.1
        have y0_b : ∀ o0, (w31.alloc o0).frozen? ⟨w2.heap.size + 1, 0, none⟩ = false := fun o0 => (Two.later (bal (Below.refl _ _) o0) t_b).2.2.1
        have y1_b : ∀ o0, (w31.alloc o0).frozen? ⟨w2.heap.size + 1, 1, none⟩ = false := fun o0 => (Two.later (bal (Below.refl _ _) o0) t_b).2.2.2
        go_wp2_with fail
        refine (Of.out _).mono ?_; rintro e w32 ⟨rfl, hb32⟩
        clear x0_a x1_a y0_a y1_a x0_b x1_b y0_b y1_b
        have z32 := hb32.size; (try simp at z32)
        replace t_a := Two.later hb32 (Two.later (bal (Below.refl _ _) _) t_a)
        replace t_b := Two.later hb32 (Two.later (bal (Below.refl _ _) _) t_b)
        have t_c : Two w32 (w31.heap.size) (.int .i64 cp) (.int .i64 cq) := Two.later hb32 (by simp [Two, go_sem])
        have x0_c := t_c.1
        have x1_c := t_c.2.1
        have y0_c := t_c.2.2.1
        have y1_c := t_c.2.2.2
        have m0_a : ∀ u0 u1, ((w32.setCell ⟨w31.heap.size, 0, none⟩ u0).setCell ⟨w31.heap.size, 1, none⟩ u1).cell? ⟨w2.heap.size, 0, none⟩ = some (.int .i64 ap) := fun u0 u1 => (Two.set_other t_a (by omega) u0 u1).1
        have m1_a : ∀ u0 u1, ((w32.setCell ⟨w31.heap.size, 0, none⟩ u0).setCell ⟨w31.heap.size, 1, none⟩ u1).cell? ⟨w2.heap.size, 1, none⟩ = some (.int .i64 aq) := fun u0 u1 => (Two.set_other t_a (by omega) u0 u1).2.1
        have m0_b : ∀ u0 u1, ((w32.setCell ⟨w31.heap.size, 0, none⟩ u0).setCell ⟨w31.heap.size, 1, none⟩ u1).cell? ⟨w2.heap.size + 1, 0, none⟩ = some (.int .i64 bp) := fun u0 u1 => (Two.set_other t_b (by omega) u0 u1).1
        have m1_b : ∀ u0 u1, ((w32.setCell ⟨w31.heap.size, 0, none⟩ u0).setCell ⟨w31.heap.size, 1, none⟩ u1).cell? ⟨w2.heap.size + 1, 1, none⟩ = some (.int .i64 bq) := fun u0 u1 => (Two.set_other t_b (by omega) u0 u1).2.1
        go_wp2_with fail
        refine (Mf.out _).mono ?_; rintro e w33 ⟨rfl, hb33⟩
        clear x0_c x1_c y0_c y1_c m0_a m1_a m0_b m1_b
        have z33 := hb33.size; (try simp at z33)
        replace t_a := Two.later hb33 (Two.set_other t_a (by omega) _ _)
        replace t_b := Two.later hb33 (Two.set_other t_b (by omega) _ _)
        replace t_c := Two.later hb33 (Two.set_same t_c _ _)
        have x0_c : ∀ o0, (w33.alloc o0).cell? ⟨w31.heap.size, 0, none⟩ = some (.int .i64 0) := fun o0 => (Two.later (bal (Below.refl _ _) o0) t_c).1
        have x1_c : ∀ o0, (w33.alloc o0).cell? ⟨w31.heap.size, 1, none⟩ = some (.int .i64 0) := fun o0 => (Two.later (bal (Below.refl _ _) o0) t_c).2.1
        have y0_c : ∀ o0, (w33.alloc o0).frozen? ⟨w31.heap.size, 0, none⟩ = false := fun o0 => (Two.later (bal (Below.refl _ _) o0) t_c).2.2.1
        have y1_c : ∀ o0, (w33.alloc o0).frozen? ⟨w31.heap.size, 1, none⟩ = false := fun o0 => (Two.later (bal (Below.refl _ _) o0) t_c).2.2.2
        go_wp2_with fail
        go_roundw
        case rel => exact ⟨4, by omega, by omega, rfl, Two.later (by repeat (first | exact Below.refl _ _ | refine bal ?_ _)) t_a, Two.later (by repeat (first | exact Below.refl _ _ | refine bal ?_ _)) t_b, by simp; omega, (by repeat (first | exact Below.refl _ _ | (refine bset ?_ (by simp <;> omega) _) | (refine bon ?_ (by assumption)) | refine bdrew ?_ | refine bal ?_ _))⟩
        case measure => simp [intOf]
    · rcases (by omega : (-9223372036854775808 < p ∧ -9223372036854775808 < q) ∨ p = -9223372036854775808 ∨ (-9223372036854775808 < p ∧ q = -9223372036854775808)) with ⟨hp0, hq0⟩ | rfl | ⟨hp0, rfl⟩
      · have My := Mt hp0 hq0; clear Mt
        rcases ho with ⟨hnz, rfl, rfl, rfl⟩ | ⟨hnz, rfl⟩
        · have x0_a := t_a.1
          have x1_a := t_a.2.1
          have y0_a := t_a.2.2.1
          have y1_a := t_a.2.2.2
          go_wp2_with fail
          refine (Oo.out _).mono ?_; rintro e w41 ⟨rfl, hb41⟩
          clear x0_a x1_a y0_a y1_a
          have z41 := hb41.size; (try simp at z41)
          replace t_a := Two.later hb41 t_a
          replace t_b := Two.later hb41 t_b
          have x0_a : ∀ o0, (w41.alloc o0).cell? ⟨w2.heap.size, 0, none⟩ = some (.int .i64 ap) := fun o0 => (Two.later (bal (Below.refl _ _) o0) t_a).1
          have x1_a : ∀ o0, (w41.alloc o0).cell? ⟨w2.heap.size, 1, none⟩ = some (.int .i64 aq) := fun o0 => (Two.later (bal (Below.refl _ _) o0) t_a).2.1
          have y0_a : ∀ o0, (w41.alloc o0).frozen? ⟨w2.heap.size, 0, none⟩ = false := fun o0 => (Two.later (bal (Below.refl _ _) o0) t_a).2.2.1
          have y1_a : ∀ o0, (w41.alloc o0).frozen? ⟨w2.heap.size, 1, none⟩ = false := fun o0 => (Two.later (bal (Below.refl _ _) o0) t_a).2.2.2
          go_wp2_with fail
          refine (My.out _).mono ?_; rintro e w42 ⟨rfl, hb42⟩
          clear x0_a x1_a y0_a y1_a
          have z42 := hb42.size; (try simp at z42)
          replace t_a := Two.later hb42 (Two.later (bal (Below.refl _ _) _) (Two.later (bal (Below.refl _ _) _) t_a))
          replace t_b := Two.later hb42 (Two.later (bal (Below.refl _ _) _) (Two.later (bal (Below.refl _ _) _) t_b))
          have t_o : Two w42 (w41.heap.size) (.int .i64 1) (.int .i64 1) := Two.later hb42 (by simp [Two, go_sem])
          have t_t : Two w42 (w41.heap.size + 1) (.int .i64 ap) (.int .i64 aq) := Two.later hb42 (by simp [Two, go_sem])
          have x0_t := t_t.1
          have x1_t := t_t.2.1
          have y0_t := t_t.2.2.1
          have y1_t := t_t.2.2.2
          have m0_a : ∀ u0 u1, ((w42.setCell ⟨w41.heap.size + 1, 0, none⟩ u0).setCell ⟨w41.heap.size + 1, 1, none⟩ u1).cell? ⟨w2.heap.size, 0, none⟩ = some (.int .i64 ap) := fun u0 u1 => (Two.set_other t_a (by omega) u0 u1).1
          have m1_a : ∀ u0 u1, ((w42.setCell ⟨w41.heap.size + 1, 0, none⟩ u0).setCell ⟨w41.heap.size + 1, 1, none⟩ u1).cell? ⟨w2.heap.size, 1, none⟩ = some (.int .i64 aq) := fun u0 u1 => (Two.set_other t_a (by omega) u0 u1).2.1
          have m0_o : ∀ u0 u1, ((w42.setCell ⟨w41.heap.size + 1, 0, none⟩ u0).setCell ⟨w41.heap.size + 1, 1, none⟩ u1).cell? ⟨w41.heap.size, 0, none⟩ = some (.int .i64 1) := fun u0 u1 => (Two.set_other t_o (by omega) u0 u1).1
          have m1_o : ∀ u0 u1, ((w42.setCell ⟨w41.heap.size + 1, 0, none⟩ u0).setCell ⟨w41.heap.size + 1, 1, none⟩ u1).cell? ⟨w41.heap.size, 1, none⟩ = some (.int .i64 1) := fun u0 u1 => (Two.set_other t_o (by omega) u0 u1).2.1
          go_wp2_with fail
          go_region_held2 (fun w' => w'.cell? ⟨w41.heap.size, 0, none⟩ = some (.int .i64 1) ∧ w'.cell? ⟨w41.heap.size, 1, none⟩ = some (.int .i64 1) ∧ w'.cell? ⟨w41.heap.size + 1, 0, none⟩ = some (.int .i64 ap) ∧ w'.cell? ⟨w41.heap.size + 1, 1, none⟩ = some (.int .i64 aq) ∧ w'.cell? ⟨w2.heap.size, 0, none⟩ = some (.int .i64 ap) ∧ w'.cell? ⟨w2.heap.size, 1, none⟩ = some (.int .i64 aq))
            (first | exact cells6_later (by assumption) (by assumption) | exact ⟨(Two.set_other t_o (by omega) _ _).1, (Two.set_other t_o (by omega) _ _).2.1, (Two.set_same t_t _ _).1, (Two.set_same t_t _ _).2.1, (Two.set_other t_a (by omega) _ _).1, (Two.set_other t_a (by omega) _ _).2.1⟩)
            ((go_at_call 28; refine (wholeR _ _).mono ?_; rintro e w50 ⟨rfl, hb50⟩))
          go_wp2
          go_ret
          exact ⟨rfl, (by repeat (first | exact Below.refl _ _ | (refine bset ?_ (by simp <;> omega) _) | (refine bon ?_ (by assumption)) | refine bdrewN ?_ _ | refine bdrew ?_ | refine bal ?_ _))⟩
        · have x0_a := t_a.1
          have x1_a := t_a.2.1
          have y0_a := t_a.2.2.1
          have y1_a := t_a.2.2.2
          go_wp2_with fail
          refine (Oo.out _).mono ?_; rintro e w41 ⟨rfl, hb41⟩
          clear x0_a x1_a y0_a y1_a
          have z41 := hb41.size; (try simp at z41)
          replace t_a := Two.later hb41 t_a
          replace t_b := Two.later hb41 t_b
          have x0_a : ∀ o0, (w41.alloc o0).cell? ⟨w2.heap.size, 0, none⟩ = some (.int .i64 ap) := fun o0 => (Two.later (bal (Below.refl _ _) o0) t_a).1
          have x1_a : ∀ o0, (w41.alloc o0).cell? ⟨w2.heap.size, 1, none⟩ = some (.int .i64 aq) := fun o0 => (Two.later (bal (Below.refl _ _) o0) t_a).2.1
          have y0_a : ∀ o0, (w41.alloc o0).frozen? ⟨w2.heap.size, 0, none⟩ = false := fun o0 => (Two.later (bal (Below.refl _ _) o0) t_a).2.2.1
          have y1_a : ∀ o0, (w41.alloc o0).frozen? ⟨w2.heap.size, 1, none⟩ = false := fun o0 => (Two.later (bal (Below.refl _ _) o0) t_a).2.2.2
          go_wp2_with fail
          refine (My.out _).mono ?_; rintro e w42 ⟨rfl, hb42⟩
          clear x0_a x1_a y0_a y1_a
          have z42 := hb42.size; (try simp at z42)
          replace t_a := Two.later hb42 (Two.later (bal (Below.refl _ _) _) (Two.later (bal (Below.refl _ _) _) t_a))
          replace t_b := Two.later hb42 (Two.later (bal (Below.refl _ _) _) (Two.later (bal (Below.refl _ _) _) t_b))
          have t_o : Two w42 (w41.heap.size) (.int .i64 op) (.int .i64 oq) := Two.later hb42 (by simp [Two, go_sem])
          have t_t : Two w42 (w41.heap.size + 1) (.int .i64 ap) (.int .i64 aq) := Two.later hb42 (by simp [Two, go_sem])
          have x0_t := t_t.1
          have x1_t := t_t.2.1
          have y0_t := t_t.2.2.1
          have y1_t := t_t.2.2.2
          have m0_a : ∀ u0 u1, ((w42.setCell ⟨w41.heap.size + 1, 0, none⟩ u0).setCell ⟨w41.heap.size + 1, 1, none⟩ u1).cell? ⟨w2.heap.size, 0, none⟩ = some (.int .i64 ap) := fun u0 u1 => (Two.set_other t_a (by omega) u0 u1).1
          have m1_a : ∀ u0 u1, ((w42.setCell ⟨w41.heap.size + 1, 0, none⟩ u0).setCell ⟨w41.heap.size + 1, 1, none⟩ u1).cell? ⟨w2.heap.size, 1, none⟩ = some (.int .i64 aq) := fun u0 u1 => (Two.set_other t_a (by omega) u0 u1).2.1
          have m0_o : ∀ u0 u1, ((w42.setCell ⟨w41.heap.size + 1, 0, none⟩ u0).setCell ⟨w41.heap.size + 1, 1, none⟩ u1).cell? ⟨w41.heap.size, 0, none⟩ = some (.int .i64 op) := fun u0 u1 => (Two.set_other t_o (by omega) u0 u1).1
          have m1_o : ∀ u0 u1, ((w42.setCell ⟨w41.heap.size + 1, 0, none⟩ u0).setCell ⟨w41.heap.size + 1, 1, none⟩ u1).cell? ⟨w41.heap.size, 1, none⟩ = some (.int .i64 oq) := fun u0 u1 => (Two.set_other t_o (by omega) u0 u1).2.1
          go_wp2_with fail
          go_quiet (fail)
          go_wp2
          go_ret
          exact ⟨rfl, (by repeat (first | exact Below.refl _ _ | (refine bset ?_ (by simp <;> omega) _) | (refine bon ?_ (by assumption)) | refine bdrewN ?_ _ | refine bdrew ?_ | refine bal ?_ _))⟩
      · clear Mt
        rcases ho with ⟨hnz, rfl, rfl, rfl⟩ | ⟨hnz, rfl⟩
        · have x0_a := t_a.1
          have x1_a := t_a.2.1
          have y0_a := t_a.2.2.1
          have y1_a := t_a.2.2.2
          go_wp2_with fail
          refine (Oo.out _).mono ?_; rintro e w41 ⟨rfl, hb41⟩
          clear x0_a x1_a y0_a y1_a
          have z41 := hb41.size; (try simp at z41)
          replace t_a := Two.later hb41 t_a
          replace t_b := Two.later hb41 t_b
          have x0_a : ∀ o0, (w41.alloc o0).cell? ⟨w2.heap.size, 0, none⟩ = some (.int .i64 ap) := fun o0 => (Two.later (bal (Below.refl _ _) o0) t_a).1
          have x1_a : ∀ o0, (w41.alloc o0).cell? ⟨w2.heap.size, 1, none⟩ = some (.int .i64 aq) := fun o0 => (Two.later (bal (Below.refl _ _) o0) t_a).2.1
          have y0_a : ∀ o0, (w41.alloc o0).frozen? ⟨w2.heap.size, 0, none⟩ = false := fun o0 => (Two.later (bal (Below.refl _ _) o0) t_a).2.2.1
          have y1_a : ∀ o0, (w41.alloc o0).frozen? ⟨w2.heap.size, 1, none⟩ = false := fun o0 => (Two.later (bal (Below.refl _ _) o0) t_a).2.2.2
          have v0_a : ∀ o0 o1, ((w41.alloc o0).alloc o1).cell? ⟨w2.heap.size, 0, none⟩ = some (.int .i64 ap) := fun o0 o1 => (Two.later (bal (bal (Below.refl _ _) o0) o1) t_a).1
          have v1_a : ∀ o0 o1, ((w41.alloc o0).alloc o1).cell? ⟨w2.heap.size, 1, none⟩ = some (.int .i64 aq) := fun o0 o1 => (Two.later (bal (bal (Below.refl _ _) o0) o1) t_a).2.1
          go_wp2_with fail
          go_region_held2 (fun w' => w'.cell? ⟨w41.heap.size, 0, none⟩ = some (.int .i64 1) ∧ w'.cell? ⟨w41.heap.size, 1, none⟩ = some (.int .i64 1) ∧ w'.cell? ⟨w41.heap.size + 1, 0, none⟩ = some (.int .i64 ap) ∧ w'.cell? ⟨w41.heap.size + 1, 1, none⟩ = some (.int .i64 aq) ∧ w'.cell? ⟨w2.heap.size, 0, none⟩ = some (.int .i64 ap) ∧ w'.cell? ⟨w2.heap.size, 1, none⟩ = some (.int .i64 aq))
            (first | exact cells6_later (by assumption) (by assumption) | exact ⟨by simp [go_sem], by simp [go_sem], by simp [go_sem], by simp [go_sem], v0_a _ _, v1_a _ _⟩)
            ((go_at_call 28; refine (wholeR _ _).mono ?_; rintro e w50 ⟨rfl, hb50⟩))
          go_wp2
          go_ret
          exact ⟨rfl, (by repeat (first | exact Below.refl _ _ | (refine bset ?_ (by simp <;> omega) _) | (refine bon ?_ (by assumption)) | refine bdrewN ?_ _ | refine bdrew ?_ | refine bal ?_ _))⟩
        · have x0_a := t_a.1
          have x1_a := t_a.2.1
          have y0_a := t_a.2.2.1
          have y1_a := t_a.2.2.2
          go_wp2_with fail
          refine (Oo.out _).mono ?_; rintro e w41 ⟨rfl, hb41⟩
          clear x0_a x1_a y0_a y1_a
          have z41 := hb41.size; (try simp at z41)
          replace t_a := Two.later hb41 t_a
          replace t_b := Two.later hb41 t_b
          have x0_a : ∀ o0, (w41.alloc o0).cell? ⟨w2.heap.size, 0, none⟩ = some (.int .i64 ap) := fun o0 => (Two.later (bal (Below.refl _ _) o0) t_a).1
          have x1_a : ∀ o0, (w41.alloc o0).cell? ⟨w2.heap.size, 1, none⟩ = some (.int .i64 aq) := fun o0 => (Two.later (bal (Below.refl _ _) o0) t_a).2.1
          have y0_a : ∀ o0, (w41.alloc o0).frozen? ⟨w2.heap.size, 0, none⟩ = false := fun o0 => (Two.later (bal (Below.refl _ _) o0) t_a).2.2.1
          have y1_a : ∀ o0, (w41.alloc o0).frozen? ⟨w2.heap.size, 1, none⟩ = false := fun o0 => (Two.later (bal (Below.refl _ _) o0) t_a).2.2.2
          have v0_a : ∀ o0 o1, ((w41.alloc o0).alloc o1).cell? ⟨w2.heap.size, 0, none⟩ = some (.int .i64 ap) := fun o0 o1 => (Two.later (bal (bal (Below.refl _ _) o0) o1) t_a).1
          have v1_a : ∀ o0 o1, ((w41.alloc o0).alloc o1).cell? ⟨w2.heap.size, 1, none⟩ = some (.int .i64 aq) := fun o0 o1 => (Two.later (bal (bal (Below.refl _ _) o0) o1) t_a).2.1
          go_wp2_with fail
          go_quiet (fail)
          go_wp2
          go_ret
          exact ⟨rfl, (by repeat (first | exact Below.refl _ _ | (refine bset ?_ (by simp <;> omega) _) | (refine bon ?_ (by assumption)) | refine bdrewN ?_ _ | refine bdrew ?_ | refine bal ?_ _))⟩
      · clear Mt
        rcases ho with ⟨hnz, rfl, rfl, rfl⟩ | ⟨hnz, rfl⟩
        · have x0_a := t_a.1
          have x1_a := t_a.2.1
          have y0_a := t_a.2.2.1
          have y1_a := t_a.2.2.2
          go_wp2_with fail
          refine (Oo.out _).mono ?_; rintro e w41 ⟨rfl, hb41⟩
          clear x0_a x1_a y0_a y1_a
          have z41 := hb41.size; (try simp at z41)
          replace t_a := Two.later hb41 t_a
          replace t_b := Two.later hb41 t_b
          have x0_a : ∀ o0, (w41.alloc o0).cell? ⟨w2.heap.size, 0, none⟩ = some (.int .i64 ap) := fun o0 => (Two.later (bal (Below.refl _ _) o0) t_a).1
          have x1_a : ∀ o0, (w41.alloc o0).cell? ⟨w2.heap.size, 1, none⟩ = some (.int .i64 aq) := fun o0 => (Two.later (bal (Below.refl _ _) o0) t_a).2.1
          have y0_a : ∀ o0, (w41.alloc o0).frozen? ⟨w2.heap.size, 0, none⟩ = false := fun o0 => (Two.later (bal (Below.refl _ _) o0) t_a).2.2.1
          have y1_a : ∀ o0, (w41.alloc o0).frozen? ⟨w2.heap.size, 1, none⟩ = false := fun o0 => (Two.later (bal (Below.refl _ _) o0) t_a).2.2.2
          have v0_a : ∀ o0 o1, ((w41.alloc o0).alloc o1).cell? ⟨w2.heap.size, 0, none⟩ = some (.int .i64 ap) := fun o0 o1 => (Two.later (bal (bal (Below.refl _ _) o0) o1) t_a).1
          have v1_a : ∀ o0 o1, ((w41.alloc o0).alloc o1).cell? ⟨w2.heap.size, 1, none⟩ = some (.int .i64 aq) := fun o0 o1 => (Two.later (bal (bal (Below.refl _ _) o0) o1) t_a).2.1
          go_wp2_with fail
          go_region_held2 (fun w' => w'.cell? ⟨w41.heap.size, 0, none⟩ = some (.int .i64 1) ∧ w'.cell? ⟨w41.heap.size, 1, none⟩ = some (.int .i64 1) ∧ w'.cell? ⟨w41.heap.size + 1, 0, none⟩ = some (.int .i64 ap) ∧ w'.cell? ⟨w41.heap.size + 1, 1, none⟩ = some (.int .i64 aq) ∧ w'.cell? ⟨w2.heap.size, 0, none⟩ = some (.int .i64 ap) ∧ w'.cell? ⟨w2.heap.size, 1, none⟩ = some (.int .i64 aq))
            (first | exact cells6_later (by assumption) (by assumption) | exact ⟨by simp [go_sem], by simp [go_sem], by simp [go_sem], by simp [go_sem], v0_a _ _, v1_a _ _⟩)
            ((go_at_call 28; refine (wholeR _ _).mono ?_; rintro e w50 ⟨rfl, hb50⟩))
          go_wp2
          go_ret
          exact ⟨rfl, (by repeat (first | exact Below.refl _ _ | (refine bset ?_ (by simp <;> omega) _) | (refine bon ?_ (by assumption)) | refine bdrewN ?_ _ | refine bdrew ?_ | refine bal ?_ _))⟩
        · have x0_a := t_a.1
          have x1_a := t_a.2.1
          have y0_a := t_a.2.2.1
          have y1_a := t_a.2.2.2
          go_wp2_with fail
          refine (Oo.out _).mono ?_; rintro e w41 ⟨rfl, hb41⟩
          clear x0_a x1_a y0_a y1_a
          have z41 := hb41.size; (try simp at z41)
          replace t_a := Two.later hb41 t_a
          replace t_b := Two.later hb41 t_b
          have x0_a : ∀ o0, (w41.alloc o0).cell? ⟨w2.heap.size, 0, none⟩ = some (.int .i64 ap) := fun o0 => (Two.later (bal (Below.refl _ _) o0) t_a).1
          have x1_a : ∀ o0, (w41.alloc o0).cell? ⟨w2.heap.size, 1, none⟩ = some (.int .i64 aq) := fun o0 => (Two.later (bal (Below.refl _ _) o0) t_a).2.1
          have y0_a : ∀ o0, (w41.alloc o0).frozen? ⟨w2.heap.size, 0, none⟩ = false := fun o0 => (Two.later (bal (Below.refl _ _) o0) t_a).2.2.1
          have y1_a : ∀ o0, (w41.alloc o0).frozen? ⟨w2.heap.size, 1, none⟩ = false := fun o0 => (Two.later (bal (Below.refl _ _) o0) t_a).2.2.2
          have v0_a : ∀ o0 o1, ((w41.alloc o0).alloc o1).cell? ⟨w2.heap.size, 0, none⟩ = some (.int .i64 ap) := fun o0 o1 => (Two.later (bal (bal (Below.refl _ _) o0) o1) t_a).1
          have v1_a : ∀ o0 o1, ((w41.alloc o0).alloc o1).cell? ⟨w2.heap.size, 1, none⟩ = some (.int .i64 aq) := fun o0 o1 => (Two.later (bal (bal (Below.refl _ _) o0) o1) t_a).2.1
          go_wp2_with fail
          go_quiet (fail)
          go_wp2
          go_ret
          exact ⟨rfl, (by repeat (first | exact Below.refl _ _ | (refine bset ?_ (by simp <;> omega) _) | (refine bon ?_ (by assumption)) | refine bdrewN ?_ _ | refine bdrew ?_ | refine bal ?_ _))⟩

theorem fitB_lo {p : Int} (h : fitB p = true) : -9223372036854775808 ≤ p := by
  simp only [fitB, Bool.and_eq_true, decide_eq_true_eq] at h; omega
theorem fitB_hi {p : Int} (h : fitB p = true) : p ≤ 9223372036854775807 := by
  simp only [fitB, Bool.and_eq_true, decide_eq_true_eq] at h; omega
theorem make_own (o : Option Rat) (h : Fits o) : makeO (vp o) (vq o) = o := by
  cases o with
  | none => rfl
  | some r =>
    show (if (r.den : Int) = 0 then none else told (Rat.divInt r.num r.den)) = some r
    rw [if_neg (by have := r.den_nz; omega), show Rat.divInt r.num (r.den : Int) = r from Rat.num_divInt_den r, told_some (h r rfl)]
theorem make_neg (p q : Int) : makeO (-p) (-q) = makeO p q := by
  unfold makeO
  rw [Rat.neg_divInt_neg]
  by_cases h : q = 0
  · rw [if_pos h, if_pos (by omega)]
  · rw [if_neg h, if_neg (by omega)]
theorem fitB_neg' {p : Int} (h : fitB p = true) (h0 : -9223372036854775808 < p) : fitB (-p) = true := by
  simp only [fitB, Bool.and_eq_true, decide_eq_true_eq] at *; omega
theorem three_cases (o : Option Rat) : o.isSome = true ∨ (o.isSome = false ∧ vp o = 0 ∧ vq o = 0) := by
  cases o with
  | none => exact Or.inr ⟨rfl, rfl, rfl⟩
  | some r => exact Or.inl rfl
theorem lowest_law (p q r s : Int) (w : World) (hp : fitB p = true) (hq : fitB q = true) (hr : fitB r = true) (hs : fitB s = true) :
    Calls Try.prog 11 #[.int .i64 p, .int .i64 q, .int .i64 r, .int .i64 s] w fun e w' => e = .returned (.bool true) ∧ Below w.heap.size w w' := by
  have R1 := fun w => ratsR p q r s w hp hq hr hs
  have f1 := fits_make p q
  have f2 := fits_make r s
  have hn := make_neg p q
  generalize makeO p q = o1 at *
  generalize makeO r s = o2 at *
  match o1, o2 with
  | none, _ => exact lowest_none p q r s _ _ _ _ w R1
  | some _, none => exact lowest_none p q r s _ _ _ _ w R1
  | some a, some b =>
    have ra := f1 a rfl
    have own : ∀ o w, Fits o → Calls Try.prog 26 #[.int .i64 (vp o), .int .i64 (vq o)] w fun e w' => e = .returned (.tuple #[.agg #[.int .i64 (vp o), .int .i64 (vq o)], .bool o.isSome]) ∧ Below w.heap.size w w' := fun o w h => by
      have e := makeR (vp o) (vq o) w h.vp h.vq
      rw [make_own o h] at e; exact e
    refine lowest_law_core p q r s a.num a.den b.num b.den _ _ _ _ _ _ _ _ _ _ _ _ _ _ _ w R1
      (fun w => plusR (some a) (some b) w f1 f2) (fun w => own _ w (fits_plus _ _)) (three_cases _)
      (fun w => minusR (some a) (some b) w f1 f2) (fun w => own _ w (fits_minus _ _)) (three_cases _)
      (fun w => timesR (some a) (some b) w f1 f2) (fun w => own _ w (fits_times _ _)) (three_cases _)
      (fun w => overR (some a) (some b) w f1 f2) (fun w => own _ w (fits_over _ _)) (three_cases _)
      (fun w => overR (some a) (some a) w f1 f1) ?_ ?_ (fitB_lo hp) (fitB_hi hp) (fitB_lo hq) (fitB_hi hq)
    · by_cases h0 : a = 0
      · refine Or.inr ⟨by rw [h0]; rfl, ?_⟩
        show (if a = 0 then none else told (a / a)).isSome = false
        rw [if_pos h0]; rfl
      · have k : overO (some a) (some a) = some 1 := by
          show (if a = 0 then none else told (a / a)) = some 1
          rw [if_neg h0, show a / a = 1 by grind, told_some (by decide +kernel)]
        rw [k]
        refine Or.inl ⟨?_, rfl, rfl, rfl⟩
        rw [bne_iff_ne]
        intro h; exact h0 (Rat.num_eq_zero.1 h)
    · intro h1 h2 w
      have e := makeR (-p) (-q) w (fitB_neg' hp h1) (fitB_neg' hq h2)
      rw [hn] at e; exact e
end Go.Proofs.Ytfoohgfdkmgndaa
