/-
  The contracts of the closure of package num's Make, and of 'attempt' at rats.
-/
import Derived.Test.YtkgaoafcjhjefaaNumJ
namespace Go.Proofs.Ytkgaoafcjhjefaa
open Go.RowKit Go.Shelf

set_option maxHeartbeats 4000000 in
theorem makeC_some (bp bq : Nat) (p q : Int) (w : World) (fp : fitB p = true) (fq : fitB q = true) (hq : q ≠ 0) (cp : w.cell? ⟨bp, 0, none⟩ = some (.int .i64 p)) (cq : w.cell? ⟨bq, 0, none⟩ = some (.int .i64 q)) :
    Calls Try.prog 62 #[.pointer (some ⟨bq, 0, none⟩), .pointer (some ⟨bp, 0, none⟩)] w (Out (rok (Rat.divInt p q)) (.agg #[.int .i64 (Rat.divInt p q).num, .int .i64 ((Rat.divInt p q).den : Int)]) w) := by
  obtain ⟨n1, n2⟩ := make_rat p q hq
  have ea : rok (Rat.divInt p q) = (fitB (sgnI (!(negB p == negB q)) (szI p / gcdI p q)) && fitB (szI q / gcdI p q)) := by rw [rok, n1, n2]
  rw [ea, n1, n2]
  clear ea n1 n2
  have s1 := szI_nonneg p; have s2 := sz_lt ((fitB_iff p).1 fp).1 ((fitB_iff p).1 fp).2; have s3 := szI_nonneg q; have s4 := sz_lt ((fitB_iff q).1 fq).1 ((fitB_iff q).1 fq).2
  have dp : 0 < gcdI p q := by unfold gcdI; have := Nat.gcd_pos_of_pos_right p.natAbs (show 0 < q.natAbs by omega); omega
  have DV : Hid (∀ w, Calls Try.prog 53 #[.int .u64 (szI p), .int .u64 (szI q)] w fun en w' => en = .returned (.int .u64 (gcdI p q)) ∧ Below w.heap.size w w') := by
    intro w
    have h := divisor_b (szI p) (szI q) w s1 s2 s3 s4
    rw [gcdI_szI] at h; exact h
  generalize gcdI p q = d at *
  obtain ⟨k1, k2, k3, k4⟩ := div_small s1 s2 dp
  obtain ⟨k5, k6, k7, k8⟩ := div_small s3 s4 dp
  have dne : (d == 0) = false := beq_eq_false_iff_ne.2 (by omega)
  have dne' : ¬ d = 0 := by omega
  have qne : (q == 0) = false := beq_eq_false_iff_ne.2 hq
  have N1 : decide (p < 0) = negB p := rfl
  have N2 : decide (q < 0) = negB q := rfl
  have lp := World.block_lt_of_cell? _ _ cp
  have lq := World.block_lt_of_cell? _ _ cq
  have A0 : ∀ o, (w.alloc o).cell? ⟨bp, 0, none⟩ = some (.int .i64 p) := fun o => cell_later (bal (Below.refl _ _) o) cp
  have A1 : ∀ o, (w.alloc o).cell? ⟨bq, 0, none⟩ = some (.int .i64 q) := fun o => cell_later (bal (Below.refl _ _) o) cq
  go_enter Try.func62, Try.ntmps62
  go_wp2_with fail
  obtain ⟨c0, c1, f0, f1⟩ : Two (w.alloc (.cells #[.int .i64 0, .int .i64 0] 35)).drew w.heap.size (.int .i64 0) (.int .i64 0) := by simp [Two, go_sem]
  go_region_held2 (fun w' => w'.cell? ⟨bp, 0, none⟩ = some (.int .i64 p) ∧ w'.cell? ⟨bq, 0, none⟩ = some (.int .i64 q))
    (first | exact cells2_later (by assumption) (by assumption) | exact ⟨A0 _, A1 _⟩)
    (first
      | (go_at_call 54; refine (size_b _ _ (by assumption)).mono ?_; rintro e w2 ⟨rfl, hb2⟩; obtain ⟨c0, c1, f0, f1⟩ := Two.later hb2 (b := w.heap.size) (x := .int .i64 0) (y := .int .i64 0) ⟨c0, c1, f0, f1⟩)
      | (go_at_call 53; refine (DV.out _).mono ?_; rintro e w3 ⟨rfl, hb3⟩; obtain ⟨c0, c1, f0, f1⟩ := Two.later hb3 (b := w.heap.size) (x := .int .i64 0) (y := .int .i64 0) ⟨c0, c1, f0, f1⟩))
  rename_i hHeld
  go_wp2_with fail
  go_region_held2 (fun w' => w'.cell? ⟨bp, 0, none⟩ = some (.int .i64 p) ∧ w'.cell? ⟨bq, 0, none⟩ = some (.int .i64 q))
    (first | exact cells2_later (by assumption) (by assumption) | exact hHeld | exact ⟨cell_set2 lp (by assumption : _ ∧ _).1, cell_set2 lq (by assumption : _ ∧ _).2⟩)
    (first
      | (go_at_call 54; refine (size_b _ _ (by assumption)).mono ?_; rintro e w4 ⟨rfl, hb4⟩; obtain ⟨c0, c1, f0, f1⟩ := Two.later hb4 (b := w.heap.size) (x := .int .i64 0) (y := .int .i64 0) ⟨c0, c1, f0, f1⟩)
      | (go_at_call_of 52 (szI p / d); refine (signed_any _ (szI p / d) _ k3 k4).mono ?_; rintro e w5 (⟨hs, rfl, hb5⟩ | ⟨hs, ⟨v, rfl⟩, hb5⟩); rotate_left; exact ⟨rfl, Or.inr ⟨by simp [hs], ⟨v, rfl⟩, (by repeat (first | exact Below.refl _ _ | (refine bset ?_ (by simp <;> omega) _) | (refine bon ?_ (by assumption)) | refine bdrew ?_ | refine bal ?_ _))⟩⟩; obtain ⟨c0, c1, f0, f1⟩ := Two.later hb5 (b := w.heap.size) (x := .int .i64 0) (y := .int .i64 0) ⟨c0, c1, f0, f1⟩)
      | (go_at_call_of 52 (szI q / d); refine (signed_any false (szI q / d) _ k7 k8).mono ?_; rintro e w6 (⟨ht, rfl, hb6⟩ | ⟨ht, ⟨v, rfl⟩, hb6⟩); rotate_left; exact ⟨rfl, Or.inr ⟨by simp [show fitB (szI q / d) = false from ht], ⟨v, rfl⟩, (by repeat (first | exact Below.refl _ _ | (refine bset ?_ (by simp <;> omega) _) | (refine bon ?_ (by assumption)) | refine bdrew ?_ | refine bal ?_ _))⟩⟩; obtain ⟨c0, c1, f0, f1⟩ := Two.later hb6 (b := w.heap.size) (x := .int .i64 0) (y := .int .i64 0) ⟨c0, c1, f0, f1⟩))
  go_wp2
  exact bodyPost_ret (v := .agg #[.int .i64 (sgnI (!(negB p == negB q)) (szI p / d)), .int .i64 (szI q / d)]) (by simp [results, Try.results62, go_sem, c0, c1]; rfl) rfl (Or.inl ⟨by simp [hs, show fitB (szI q / d) = true from ht], rfl, (by repeat (first | exact Below.refl _ _ | (refine bset ?_ (by simp <;> omega) _) | (refine bon ?_ (by assumption)) | refine bdrew ?_ | refine bal ?_ _))⟩)
set_option maxHeartbeats 400000 in
theorem makeC_none (bp bq : Nat) (V : Value) (w : World) (cq : w.cell? ⟨bq, 0, none⟩ = some (.int .i64 0)) :
    Calls Try.prog 62 #[.pointer (some ⟨bq, 0, none⟩), .pointer (some ⟨bp, 0, none⟩)] w (Out false V w) := by
  have A1 : ∀ o, (w.alloc o).cell? ⟨bq, 0, none⟩ = some (.int .i64 0) := fun o => cell_later (bal (Below.refl _ _) o) cq
  go_enter Try.func62, Try.ntmps62
  go_wp2
  exact ⟨rfl, Or.inr ⟨rfl, ⟨_, rfl⟩, (by repeat (first | exact Below.refl _ _ | (refine bset ?_ (by simp <;> omega) _) | (refine bon ?_ (by assumption)) | refine bdrew ?_ | refine bal ?_ _))⟩⟩
end Go.Proofs.Ytkgaoafcjhjefaa
