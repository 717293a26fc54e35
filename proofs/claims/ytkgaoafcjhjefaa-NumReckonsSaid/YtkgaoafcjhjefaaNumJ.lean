/-
  The contracts of the closures of package num's Times and Over.
-/
import Derived.Test.YtkgaoafcjhjefaaNumI
namespace Go.Proofs.Ytkgaoafcjhjefaa
open Go.RowKit Go.Shelf

set_option maxHeartbeats 4000000 in
theorem timesC_some (bp bq : Nat) (a b : Rat) (w : World) (ha : rok a = true) (hb : rok b = true)
    (cp0 : w.cell? ⟨bp, 0, none⟩ = some (.int .i64 a.num)) (cp1 : w.cell? ⟨bp, 1, none⟩ = some (.int .i64 (a.den : Int))) (cq0 : w.cell? ⟨bq, 0, none⟩ = some (.int .i64 b.num)) (cq1 : w.cell? ⟨bq, 1, none⟩ = some (.int .i64 (b.den : Int))) :
    Calls Try.prog 67 #[.pointer (some ⟨bp, 0, none⟩), .pointer (some ⟨bq, 0, none⟩)] w (Out (rok (a * b)) (.agg #[.int .i64 (a * b).num, .int .i64 ((a * b).den : Int)]) w) := by
  obtain ⟨fa, fa'⟩ := (rok_iff a).1 ha
  obtain ⟨fb, fb'⟩ := (rok_iff b).1 hb
  have pa : (1 : Int) ≤ (a.den : Int) := by have := a.den_nz; omega
  have pb : (1 : Int) ≤ (b.den : Int) := by have := b.den_nz; omega
  skip
  obtain ⟨d, hd⟩ : ∃ d, gcdI (szI a.num) (b.den : Int) = d := ⟨_, rfl⟩
  obtain ⟨e, he⟩ : ∃ e, gcdI (szI b.num) (a.den : Int) = e := ⟨_, rfl⟩
  have dp : 0 < d := by rw [← hd]; unfold gcdI; have := Nat.gcd_pos_of_pos_right (szI a.num).natAbs (show 0 < (b.den : Int).natAbs by omega); omega
  have ep : 0 < e := by rw [← he]; unfold gcdI; have := Nat.gcd_pos_of_pos_right (szI b.num).natAbs (show 0 < (a.den : Int).natAbs by omega); omega
  obtain ⟨n1, n2⟩ := times_rat a b d e hd he
  have PA : Hid (∀ w, Calls Try.prog 69 #[.agg #[.int .i64 a.num, .int .i64 (a.den : Int)]] w fun en w' => en = .returned (.agg #[.bool (negB a.num), .int .u64 (szI a.num), .int .u64 (a.den : Int)]) ∧ Below w.heap.size w w') := by
    intro w
    refine (partsOf_any a.num a.den w fa fa').mono ?_
    rintro en w' (⟨hc, rfl, hb⟩ | ⟨hc, _, _⟩)
    · exact ⟨by rw [szI_pos (show (0 : Int) ≤ a.den by omega)], hb⟩
    · rw [decide_eq_true pa] at hc; exact absurd hc (by decide)
  have PB : Hid (∀ w, Calls Try.prog 69 #[.agg #[.int .i64 b.num, .int .i64 (b.den : Int)]] w fun en w' => en = .returned (.agg #[.bool (negB b.num), .int .u64 (szI b.num), .int .u64 (b.den : Int)]) ∧ Below w.heap.size w w') := by
    intro w
    refine (partsOf_any b.num b.den w fb fb').mono ?_
    rintro en w' (⟨hc, rfl, hb⟩ | ⟨hc, _, _⟩)
    · exact ⟨by rw [szI_pos (show (0 : Int) ≤ b.den by omega)], hb⟩
    · rw [decide_eq_true pb] at hc; exact absurd hc (by decide)
  have CR : Hid (∀ w, Calls Try.prog 68 #[.agg #[.bool (negB a.num), .int .u64 (szI a.num), .int .u64 (a.den : Int)], .agg #[.bool (negB b.num), .int .u64 (szI b.num), .int .u64 (b.den : Int)]] w (Out (rok (a * b)) (.agg #[.int .i64 (a * b).num, .int .i64 ((a * b).den : Int)]) w)) := by
    intro w
    have ea : rok (a * b) = (fitB (sgnI (!(negB a.num == negB b.num)) (szI a.num / d * (szI b.num / e))) && fitB ((a.den : Int) / e * ((b.den : Int) / d))) := by rw [rok, n1, n2]
    rw [ea, n1, n2]
    exact crossed_any (negB a.num) (negB b.num) (szI a.num) a.den (szI b.num) b.den d e w (szI_nonneg _) (sz_lt ((fitB_iff _).1 fa).1 ((fitB_iff _).1 fa).2) (by omega) (by have := ((fitB_iff _).1 fa').2; omega) (szI_nonneg _) (sz_lt ((fitB_iff _).1 fb).1 ((fitB_iff _).1 fb).2) (by omega) (by have := ((fitB_iff _).1 fb').2; omega) hd he dp ep
  skip
  clear n1 n2 hd he dp ep ha hb fa fa' fb fb' pa pb
  generalize rok (a * b) = c at *
  generalize (a * b).num = N at *
  generalize ((a * b).den : Int) = D at *
  have lp := World.block_lt_of_cell? _ _ cp0
  have lq := World.block_lt_of_cell? _ _ cq0
  have A0 : ∀ o, (w.alloc o).cell? ⟨bp, 0, none⟩ = some (.int .i64 a.num) := fun o => cell_later (bal (Below.refl _ _) o) cp0
  have A1 : ∀ o, (w.alloc o).cell? ⟨bp, 1, none⟩ = some (.int .i64 (a.den : Int)) := fun o => cell_later (bal (Below.refl _ _) o) cp1
  have A2 : ∀ o, (w.alloc o).cell? ⟨bq, 0, none⟩ = some (.int .i64 b.num) := fun o => cell_later (bal (Below.refl _ _) o) cq0
  have A3 : ∀ o, (w.alloc o).cell? ⟨bq, 1, none⟩ = some (.int .i64 (b.den : Int)) := fun o => cell_later (bal (Below.refl _ _) o) cq1
  go_enter Try.func67, Try.ntmps67
  go_wp2_with fail
  obtain ⟨c0, c1, f0, f1⟩ : Two (w.alloc (.cells #[.int .i64 0, .int .i64 0] 35)).drew w.heap.size (.int .i64 0) (.int .i64 0) := by simp [Two, go_sem]
  go_region_held2 (fun w' => w'.cell? ⟨bp, 0, none⟩ = some (.int .i64 a.num) ∧ w'.cell? ⟨bp, 1, none⟩ = some (.int .i64 (a.den : Int)) ∧ w'.cell? ⟨bq, 0, none⟩ = some (.int .i64 b.num) ∧ w'.cell? ⟨bq, 1, none⟩ = some (.int .i64 (b.den : Int)))
    (first | exact cells4_later (by assumption) (by assumption) | exact ⟨A0 _, A1 _, A2 _, A3 _⟩ | exact cells4_set lp lq (by assumption))
    (first
      | (go_at_call 69; ((with_reducible refine (PA.out _).mono ?_); rintro e w2 ⟨rfl, hb2⟩; obtain ⟨c0, c1, f0, f1⟩ := Two.later hb2 (b := w.heap.size) (x := .int .i64 0) (y := .int .i64 0) ⟨c0, c1, f0, f1⟩))
      | (go_at_call 69; ((with_reducible refine (PB.out _).mono ?_); rintro e w3 ⟨rfl, hb3⟩; obtain ⟨c0, c1, f0, f1⟩ := Two.later hb3 (b := w.heap.size) (x := .int .i64 0) (y := .int .i64 0) ⟨c0, c1, f0, f1⟩))
      | (go_at_call 68; refine (CR.out _).mono ?_; rintro e w5 (⟨hs, rfl, hb5⟩ | ⟨hs, ⟨v, rfl⟩, hb5⟩); rotate_left; exact ⟨rfl, Or.inr ⟨hs, ⟨v, rfl⟩, (by repeat (first | exact Below.refl _ _ | (refine bset ?_ (by simp <;> omega) _) | (refine bon ?_ (by assumption)) | refine bdrew ?_ | refine bal ?_ _))⟩⟩; obtain ⟨c0, c1, f0, f1⟩ := Two.later hb5 (b := w.heap.size) (x := .int .i64 0) (y := .int .i64 0) ⟨c0, c1, f0, f1⟩))
  go_wp2
  exact bodyPost_ret (v := .agg #[.int .i64 N, .int .i64 D]) (by simp [results, Try.results67, go_sem, c0, c1]) rfl (Or.inl ⟨by first | exact hs | rfl, rfl, (by repeat (first | exact Below.refl _ _ | (refine bset ?_ (by simp <;> omega) _) | (refine bon ?_ (by assumption)) | refine bdrew ?_ | refine bal ?_ _))⟩)

set_option maxHeartbeats 4000000 in
theorem overC_some (bp bq : Nat) (a b : Rat) (w : World) (ha : rok a = true) (hb : rok b = true) (hz : b ≠ 0)
    (cp0 : w.cell? ⟨bp, 0, none⟩ = some (.int .i64 a.num)) (cp1 : w.cell? ⟨bp, 1, none⟩ = some (.int .i64 (a.den : Int))) (cq0 : w.cell? ⟨bq, 0, none⟩ = some (.int .i64 b.num)) (cq1 : w.cell? ⟨bq, 1, none⟩ = some (.int .i64 (b.den : Int))) :
    Calls Try.prog 70 #[.pointer (some ⟨bp, 0, none⟩), .pointer (some ⟨bq, 0, none⟩)] w (Out (rok (a / b)) (.agg #[.int .i64 (a / b).num, .int .i64 ((a / b).den : Int)]) w) := by
  obtain ⟨fa, fa'⟩ := (rok_iff a).1 ha
  obtain ⟨fb, fb'⟩ := (rok_iff b).1 hb
  have pa : (1 : Int) ≤ (a.den : Int) := by have := a.den_nz; omega
  have pb : (1 : Int) ≤ (b.den : Int) := by have := b.den_nz; omega
  have hbn : b.num ≠ 0 := fun h => hz (Rat.num_eq_zero.1 h)
  obtain ⟨d, hd⟩ : ∃ d, gcdI (szI a.num) (szI b.num) = d := ⟨_, rfl⟩
  obtain ⟨e, he⟩ : ∃ e, gcdI (b.den : Int) (a.den : Int) = e := ⟨_, rfl⟩
  have dp : 0 < d := by rw [← hd]; unfold gcdI; have := Nat.gcd_pos_of_pos_right (szI a.num).natAbs (show 0 < (szI b.num).natAbs by unfold szI; omega); omega
  have ep : 0 < e := by rw [← he]; unfold gcdI; have := Nat.gcd_pos_of_pos_right (b.den : Int).natAbs (show 0 < (a.den : Int).natAbs by omega); omega
  obtain ⟨n1, n2⟩ := over_rat a b hz d e hd he
  have PA : Hid (∀ w, Calls Try.prog 69 #[.agg #[.int .i64 a.num, .int .i64 (a.den : Int)]] w fun en w' => en = .returned (.agg #[.bool (negB a.num), .int .u64 (szI a.num), .int .u64 (a.den : Int)]) ∧ Below w.heap.size w w') := by
    intro w
    refine (partsOf_any a.num a.den w fa fa').mono ?_
    rintro en w' (⟨hc, rfl, hb⟩ | ⟨hc, _, _⟩)
    · exact ⟨by rw [szI_pos (show (0 : Int) ≤ a.den by omega)], hb⟩
    · rw [decide_eq_true pa] at hc; exact absurd hc (by decide)
  have PB : Hid (∀ w, Calls Try.prog 69 #[.agg #[.int .i64 b.num, .int .i64 (b.den : Int)]] w fun en w' => en = .returned (.agg #[.bool (negB b.num), .int .u64 (szI b.num), .int .u64 (b.den : Int)]) ∧ Below w.heap.size w w') := by
    intro w
    refine (partsOf_any b.num b.den w fb fb').mono ?_
    rintro en w' (⟨hc, rfl, hb⟩ | ⟨hc, _, _⟩)
    · exact ⟨by rw [szI_pos (show (0 : Int) ≤ b.den by omega)], hb⟩
    · rw [decide_eq_true pb] at hc; exact absurd hc (by decide)
  have CR : Hid (∀ w, Calls Try.prog 68 #[.agg #[.bool (negB a.num), .int .u64 (szI a.num), .int .u64 (a.den : Int)], .agg #[.bool (negB b.num), .int .u64 (b.den : Int), .int .u64 (szI b.num)]] w (Out (rok (a / b)) (.agg #[.int .i64 (a / b).num, .int .i64 ((a / b).den : Int)]) w)) := by
    intro w
    have ea : rok (a / b) = (fitB (sgnI (!(negB a.num == negB b.num)) (szI a.num / d * ((b.den : Int) / e))) && fitB ((a.den : Int) / e * (szI b.num / d))) := by rw [rok, n1, n2]
    rw [ea, n1, n2]
    exact crossed_any (negB a.num) (negB b.num) (szI a.num) a.den b.den (szI b.num) d e w (szI_nonneg _) (sz_lt ((fitB_iff _).1 fa).1 ((fitB_iff _).1 fa).2) (by omega) (by have := ((fitB_iff _).1 fa').2; omega) (by omega) (by have := ((fitB_iff _).1 fb').2; omega) (szI_nonneg _) (sz_lt ((fitB_iff _).1 fb).1 ((fitB_iff _).1 fb).2) hd he dp ep
  have hsz : ¬ (!(szI b.num == 0)) = false := by simp [szI]; omega
  clear n1 n2 hd he dp ep ha hb fa fa' fb fb' pa pb
  generalize rok (a / b) = c at *
  generalize (a / b).num = N at *
  generalize ((a / b).den : Int) = D at *
  have lp := World.block_lt_of_cell? _ _ cp0
  have lq := World.block_lt_of_cell? _ _ cq0
  have A0 : ∀ o, (w.alloc o).cell? ⟨bp, 0, none⟩ = some (.int .i64 a.num) := fun o => cell_later (bal (Below.refl _ _) o) cp0
  have A1 : ∀ o, (w.alloc o).cell? ⟨bp, 1, none⟩ = some (.int .i64 (a.den : Int)) := fun o => cell_later (bal (Below.refl _ _) o) cp1
  have A2 : ∀ o, (w.alloc o).cell? ⟨bq, 0, none⟩ = some (.int .i64 b.num) := fun o => cell_later (bal (Below.refl _ _) o) cq0
  have A3 : ∀ o, (w.alloc o).cell? ⟨bq, 1, none⟩ = some (.int .i64 (b.den : Int)) := fun o => cell_later (bal (Below.refl _ _) o) cq1
  go_enter Try.func70, Try.ntmps70
  go_wp2_with fail
  obtain ⟨c0, c1, f0, f1⟩ : Two (w.alloc (.cells #[.int .i64 0, .int .i64 0] 35)).drew w.heap.size (.int .i64 0) (.int .i64 0) := by simp [Two, go_sem]
  go_region_held2 (fun w' => w'.cell? ⟨bp, 0, none⟩ = some (.int .i64 a.num) ∧ w'.cell? ⟨bp, 1, none⟩ = some (.int .i64 (a.den : Int)) ∧ w'.cell? ⟨bq, 0, none⟩ = some (.int .i64 b.num) ∧ w'.cell? ⟨bq, 1, none⟩ = some (.int .i64 (b.den : Int)))
    (first | exact cells4_later (by assumption) (by assumption) | exact ⟨A0 _, A1 _, A2 _, A3 _⟩ | exact cells4_set lp lq (by assumption))
    (first
      | (go_at_call 69; ((with_reducible refine (PA.out _).mono ?_); rintro e w2 ⟨rfl, hb2⟩; obtain ⟨c0, c1, f0, f1⟩ := Two.later hb2 (b := w.heap.size) (x := .int .i64 0) (y := .int .i64 0) ⟨c0, c1, f0, f1⟩))
      | (go_at_call 69; ((with_reducible refine (PB.out _).mono ?_); rintro e w3 ⟨rfl, hb3⟩; obtain ⟨c0, c1, f0, f1⟩ := Two.later hb3 (b := w.heap.size) (x := .int .i64 0) (y := .int .i64 0) ⟨c0, c1, f0, f1⟩))
      | (go_at_call 71; refine (turned_any _ _ _ _).mono ?_; rintro e w4 (⟨ht, rfl, hb4⟩ | ⟨ht, ⟨v, rfl⟩, hb4⟩); rotate_left; exact absurd ht hsz; obtain ⟨c0, c1, f0, f1⟩ := Two.later hb4 (b := w.heap.size) (x := .int .i64 0) (y := .int .i64 0) ⟨c0, c1, f0, f1⟩)
      | (go_at_call 68; refine (CR.out _).mono ?_; rintro e w5 (⟨hs, rfl, hb5⟩ | ⟨hs, ⟨v, rfl⟩, hb5⟩); rotate_left; exact ⟨rfl, Or.inr ⟨hs, ⟨v, rfl⟩, (by repeat (first | exact Below.refl _ _ | (refine bset ?_ (by simp <;> omega) _) | (refine bon ?_ (by assumption)) | refine bdrew ?_ | refine bal ?_ _))⟩⟩; obtain ⟨c0, c1, f0, f1⟩ := Two.later hb5 (b := w.heap.size) (x := .int .i64 0) (y := .int .i64 0) ⟨c0, c1, f0, f1⟩))
  go_wp2
  exact bodyPost_ret (v := .agg #[.int .i64 N, .int .i64 D]) (by simp [results, Try.results70, go_sem, c0, c1]) rfl (Or.inl ⟨by first | exact hs | rfl, rfl, (by repeat (first | exact Below.refl _ _ | (refine bset ?_ (by simp <;> omega) _) | (refine bon ?_ (by assumption)) | refine bdrew ?_ | refine bal ?_ _))⟩)

theorem crossF (h : False) (args : Array Value) (w : World) : Calls Try.prog 68 args w fun e w' => e = .returned (.agg #[.int .i64 0, .int .i64 0]) ∧ Below w.heap.size w w' := h.elim

set_option maxHeartbeats 4000000 in
theorem timesC_none (bp bq : Nat) (P Q R S : Int) (V : Value) (w : World) (fP : fitB P = true) (fQ : fitB Q = true) (fR : fitB R = true) (fS : fitB S = true) (hn : Hid ((decide (1 ≤ Q) && decide (1 ≤ S)) = false))
    (cp0 : w.cell? ⟨bp, 0, none⟩ = some (.int .i64 P)) (cp1 : w.cell? ⟨bp, 1, none⟩ = some (.int .i64 Q)) (cq0 : w.cell? ⟨bq, 0, none⟩ = some (.int .i64 R)) (cq1 : w.cell? ⟨bq, 1, none⟩ = some (.int .i64 S)) :
    Calls Try.prog 67 #[.pointer (some ⟨bp, 0, none⟩), .pointer (some ⟨bq, 0, none⟩)] w (Out false V w) := by
  have lp := World.block_lt_of_cell? _ _ cp0
  have lq := World.block_lt_of_cell? _ _ cq0
  have A0 : ∀ o, (w.alloc o).cell? ⟨bp, 0, none⟩ = some (.int .i64 P) := fun o => cell_later (bal (Below.refl _ _) o) cp0
  have A1 : ∀ o, (w.alloc o).cell? ⟨bp, 1, none⟩ = some (.int .i64 Q) := fun o => cell_later (bal (Below.refl _ _) o) cp1
  have A2 : ∀ o, (w.alloc o).cell? ⟨bq, 0, none⟩ = some (.int .i64 R) := fun o => cell_later (bal (Below.refl _ _) o) cq0
  have A3 : ∀ o, (w.alloc o).cell? ⟨bq, 1, none⟩ = some (.int .i64 S) := fun o => cell_later (bal (Below.refl _ _) o) cq1
  have PA := mkHid (fun w => partsOf_any P Q w fP fQ)
  have PB := mkHid (fun w => partsOf_any R S w fR fS)
  clear fP fQ fR fS
  go_enter Try.func67, Try.ntmps67
  go_wp2_with fail
  obtain ⟨c0, c1, f0, f1⟩ : Two (w.alloc (.cells #[.int .i64 0, .int .i64 0] 35)).drew w.heap.size (.int .i64 0) (.int .i64 0) := by simp [Two, go_sem]
  go_region_held2 (fun w' => w'.cell? ⟨bp, 0, none⟩ = some (.int .i64 P) ∧ w'.cell? ⟨bp, 1, none⟩ = some (.int .i64 Q) ∧ w'.cell? ⟨bq, 0, none⟩ = some (.int .i64 R) ∧ w'.cell? ⟨bq, 1, none⟩ = some (.int .i64 S))
    (first | exact cells4_later (by assumption) (by assumption) | exact ⟨A0 _, A1 _, A2 _, A3 _⟩ | exact cells4_set lp lq (by assumption))
    (first
      | (go_at_call_of 69 Q; ((with_reducible refine (PA.out _).mono ?_); rintro e w2 (⟨hc, rfl, hb2⟩ | ⟨hc, ⟨v, rfl⟩, hb2⟩); rotate_left; exact ⟨rfl, Or.inr ⟨rfl, ⟨v, rfl⟩, (by repeat (first | exact Below.refl _ _ | (refine bset ?_ (by simp <;> omega) _) | (refine bon ?_ (by assumption)) | refine bdrew ?_ | refine bal ?_ _))⟩⟩; obtain ⟨c0, c1, f0, f1⟩ := Two.later hb2 (b := w.heap.size) (x := .int .i64 0) (y := .int .i64 0) ⟨c0, c1, f0, f1⟩))
      | (go_at_call_of 69 S; ((with_reducible refine (PB.out _).mono ?_); rintro e w3 (⟨hd, rfl, hb3⟩ | ⟨hd, ⟨v, rfl⟩, hb3⟩); rotate_left; exact ⟨rfl, Or.inr ⟨rfl, ⟨v, rfl⟩, (by repeat (first | exact Below.refl _ _ | (refine bset ?_ (by simp <;> omega) _) | (refine bon ?_ (by assumption)) | refine bdrew ?_ | refine bal ?_ _))⟩⟩; obtain ⟨c0, c1, f0, f1⟩ := Two.later hb3 (b := w.heap.size) (x := .int .i64 0) (y := .int .i64 0) ⟨c0, c1, f0, f1⟩))
      | (go_at_call 68; refine (crossF (by have := hn.out; rw [hc, hd] at this; exact absurd this (by decide)) _ _).mono ?_; rintro e w5 ⟨rfl, hb5⟩; obtain ⟨c0, c1, f0, f1⟩ := Two.later hb5 (b := w.heap.size) (x := .int .i64 0) (y := .int .i64 0) ⟨c0, c1, f0, f1⟩))
  exact False.elim (by have := hn.out; rw [hc, hd] at this; exact absurd this (by decide))

set_option maxHeartbeats 4000000 in
theorem overC_none (bp bq : Nat) (P Q R S : Int) (V : Value) (w : World) (fP : fitB P = true) (fQ : fitB Q = true) (fR : fitB R = true) (fS : fitB S = true) (hn : Hid ((decide (1 ≤ Q) && (decide (1 ≤ S) && !(szI R == 0))) = false))
    (cp0 : w.cell? ⟨bp, 0, none⟩ = some (.int .i64 P)) (cp1 : w.cell? ⟨bp, 1, none⟩ = some (.int .i64 Q)) (cq0 : w.cell? ⟨bq, 0, none⟩ = some (.int .i64 R)) (cq1 : w.cell? ⟨bq, 1, none⟩ = some (.int .i64 S)) :
    Calls Try.prog 70 #[.pointer (some ⟨bp, 0, none⟩), .pointer (some ⟨bq, 0, none⟩)] w (Out false V w) := by
  have lp := World.block_lt_of_cell? _ _ cp0
  have lq := World.block_lt_of_cell? _ _ cq0
  have A0 : ∀ o, (w.alloc o).cell? ⟨bp, 0, none⟩ = some (.int .i64 P) := fun o => cell_later (bal (Below.refl _ _) o) cp0
  have A1 : ∀ o, (w.alloc o).cell? ⟨bp, 1, none⟩ = some (.int .i64 Q) := fun o => cell_later (bal (Below.refl _ _) o) cp1
  have A2 : ∀ o, (w.alloc o).cell? ⟨bq, 0, none⟩ = some (.int .i64 R) := fun o => cell_later (bal (Below.refl _ _) o) cq0
  have A3 : ∀ o, (w.alloc o).cell? ⟨bq, 1, none⟩ = some (.int .i64 S) := fun o => cell_later (bal (Below.refl _ _) o) cq1
  have PA := mkHid (fun w => partsOf_any P Q w fP fQ)
  have PB := mkHid (fun w => partsOf_any R S w fR fS)
  clear fP fQ fR fS
  go_enter Try.func70, Try.ntmps70
  go_wp2_with fail
  obtain ⟨c0, c1, f0, f1⟩ : Two (w.alloc (.cells #[.int .i64 0, .int .i64 0] 35)).drew w.heap.size (.int .i64 0) (.int .i64 0) := by simp [Two, go_sem]
  go_region_held2 (fun w' => w'.cell? ⟨bp, 0, none⟩ = some (.int .i64 P) ∧ w'.cell? ⟨bp, 1, none⟩ = some (.int .i64 Q) ∧ w'.cell? ⟨bq, 0, none⟩ = some (.int .i64 R) ∧ w'.cell? ⟨bq, 1, none⟩ = some (.int .i64 S))
    (first | exact cells4_later (by assumption) (by assumption) | exact ⟨A0 _, A1 _, A2 _, A3 _⟩ | exact cells4_set lp lq (by assumption))
    (first
      | (go_at_call_of 69 Q; ((with_reducible refine (PA.out _).mono ?_); rintro e w2 (⟨hc, rfl, hb2⟩ | ⟨hc, ⟨v, rfl⟩, hb2⟩); rotate_left; exact ⟨rfl, Or.inr ⟨rfl, ⟨v, rfl⟩, (by repeat (first | exact Below.refl _ _ | (refine bset ?_ (by simp <;> omega) _) | (refine bon ?_ (by assumption)) | refine bdrew ?_ | refine bal ?_ _))⟩⟩; obtain ⟨c0, c1, f0, f1⟩ := Two.later hb2 (b := w.heap.size) (x := .int .i64 0) (y := .int .i64 0) ⟨c0, c1, f0, f1⟩))
      | (go_at_call_of 69 S; ((with_reducible refine (PB.out _).mono ?_); rintro e w3 (⟨hd, rfl, hb3⟩ | ⟨hd, ⟨v, rfl⟩, hb3⟩); rotate_left; exact ⟨rfl, Or.inr ⟨rfl, ⟨v, rfl⟩, (by repeat (first | exact Below.refl _ _ | (refine bset ?_ (by simp <;> omega) _) | (refine bon ?_ (by assumption)) | refine bdrew ?_ | refine bal ?_ _))⟩⟩; obtain ⟨c0, c1, f0, f1⟩ := Two.later hb3 (b := w.heap.size) (x := .int .i64 0) (y := .int .i64 0) ⟨c0, c1, f0, f1⟩))
      | (go_at_call 71; refine (turned_any _ _ _ _).mono ?_; rintro e w4 (⟨ht, rfl, hb4⟩ | ⟨ht, ⟨v, rfl⟩, hb4⟩); rotate_left; exact ⟨rfl, Or.inr ⟨rfl, ⟨v, rfl⟩, (by repeat (first | exact Below.refl _ _ | (refine bset ?_ (by simp <;> omega) _) | (refine bon ?_ (by assumption)) | refine bdrew ?_ | refine bal ?_ _))⟩⟩; obtain ⟨c0, c1, f0, f1⟩ := Two.later hb4 (b := w.heap.size) (x := .int .i64 0) (y := .int .i64 0) ⟨c0, c1, f0, f1⟩)
      | (go_at_call 68; refine (crossF (by have := hn.out; rw [hc, hd, ht] at this; exact absurd this (by decide)) _ _).mono ?_; rintro e w5 ⟨rfl, hb5⟩; obtain ⟨c0, c1, f0, f1⟩ := Two.later hb5 (b := w.heap.size) (x := .int .i64 0) (y := .int .i64 0) ⟨c0, c1, f0, f1⟩))
  exact False.elim (by have := hn.out; rw [hc, hd, ht] at this; exact absurd this (by decide))
end Go.Proofs.Ytkgaoafcjhjefaa
