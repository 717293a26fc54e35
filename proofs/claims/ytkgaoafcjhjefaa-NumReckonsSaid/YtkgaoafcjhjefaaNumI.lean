/-
  The contracts of the closures of package num's Plus, Minus, Times, Over and Make.
-/
import Derived.Test.YtkgaoafcjhjefaaNumH
import Derived.Test.YtkgaoafcjhjefaaNumRat
namespace Go.Proofs.Ytkgaoafcjhjefaa
open Go.RowKit Go.Shelf

theorem cell_set2 {w : World} {n b o : Nat} {u v x : Value} (h : b < n) (hc : w.cell? ⟨b, o, none⟩ = some x) : ((w.setCell ⟨n, 0, none⟩ u).setCell ⟨n, 1, none⟩ v).cell? ⟨b, o, none⟩ = some x := by
  rw [World.cell?_setCell_other _ _ _ _ (by simp <;> omega), World.cell?_setCell_other _ _ _ _ (by simp <;> omega)]; exact hc
theorem cells4_set {w : World} {n bp bq : Nat} {x y z t u v : Value} (hp : bp < n) (hq : bq < n) (h : w.cell? ⟨bp, 0, none⟩ = some x ∧ w.cell? ⟨bp, 1, none⟩ = some y ∧ w.cell? ⟨bq, 0, none⟩ = some z ∧ w.cell? ⟨bq, 1, none⟩ = some t) :
    ((w.setCell ⟨n, 0, none⟩ u).setCell ⟨n, 1, none⟩ v).cell? ⟨bp, 0, none⟩ = some x ∧ ((w.setCell ⟨n, 0, none⟩ u).setCell ⟨n, 1, none⟩ v).cell? ⟨bp, 1, none⟩ = some y ∧ ((w.setCell ⟨n, 0, none⟩ u).setCell ⟨n, 1, none⟩ v).cell? ⟨bq, 0, none⟩ = some z ∧ ((w.setCell ⟨n, 0, none⟩ u).setCell ⟨n, 1, none⟩ v).cell? ⟨bq, 1, none⟩ = some t :=
  ⟨cell_set2 hp h.1, cell_set2 hp h.2.1, cell_set2 hq h.2.2.1, cell_set2 hq h.2.2.2⟩

set_option maxHeartbeats 4000000 in
theorem plusC_some (bp bq : Nat) (a b : Rat) (w : World) (ha : rok a = true) (hb : rok b = true)
    (cp0 : w.cell? ⟨bp, 0, none⟩ = some (.int .i64 a.num)) (cp1 : w.cell? ⟨bp, 1, none⟩ = some (.int .i64 (a.den : Int))) (cq0 : w.cell? ⟨bq, 0, none⟩ = some (.int .i64 b.num)) (cq1 : w.cell? ⟨bq, 1, none⟩ = some (.int .i64 (b.den : Int))) :
    Calls Try.prog 63 #[.pointer (some ⟨bp, 0, none⟩), .pointer (some ⟨bq, 0, none⟩)] w (Out (rok (a + b)) (.agg #[.int .i64 (a + b).num, .int .i64 ((a + b).den : Int)]) w) := by
  obtain ⟨fa, fa'⟩ := (rok_iff a).1 ha
  obtain ⟨fb, fb'⟩ := (rok_iff b).1 hb
  have pa : (1 : Int) ≤ (a.den : Int) := by have := a.den_nz; omega
  have pb : (1 : Int) ≤ (b.den : Int) := by have := b.den_nz; omega
  obtain ⟨g1, g2⟩ := gcd_fit (a.den : Int) (b.den : Int) pa fa'
  obtain ⟨d, hd⟩ : ∃ d, gcdI (a.den : Int) (b.den : Int) = d := ⟨_, rfl⟩
  rw [hd] at g1 g2
  have fd : fitB d = true := g1
  obtain ⟨T, hT⟩ : ∃ T, a.num * ((b.den : Int) / d) + b.num * ((a.den : Int) / d) = T := ⟨_, rfl⟩
  obtain ⟨e, he⟩ : ∃ e, gcdI (szI T % d) d = e := ⟨_, rfl⟩
  obtain ⟨n1, n2⟩ := plus_rat a b d T e hd hT he
  have SH : Hid (∀ w, Calls Try.prog 64 #[.agg #[.int .i64 a.num, .int .i64 (a.den : Int)], .agg #[.int .i64 b.num, .int .i64 (b.den : Int)]] w fun en w' => en = .returned (.int .i64 d) ∧ Below w.heap.size w w') := by
    intro w
    refine (shared_any a.num a.den b.num b.den w fa fa' fb fb').mono ?_
    rintro en w' (⟨hc, rfl, hb⟩ | ⟨hc, _, _⟩)
    · exact ⟨by rw [hd], hb⟩
    · rw [decide_eq_true pa, decide_eq_true pb] at hc; exact absurd hc (by decide)
  have xa : fitB ((a.den : Int) / d) = true := by
    rw [fitB_iff] at *
    have h1 := Int.ediv_nonneg (show (0 : Int) ≤ a.den by omega) (show 0 ≤ d by omega)
    have h2 := Int.ediv_le_self d (show (0 : Int) ≤ a.den by omega)
    omega
  have xb : fitB ((b.den : Int) / d) = true := by
    rw [fitB_iff] at *
    have h1 := Int.ediv_nonneg (show (0 : Int) ≤ b.den by omega) (show 0 ≤ d by omega)
    have h2 := Int.ediv_le_self d (show (0 : Int) ≤ b.den by omega)
    omega
  have xa1 : 1 ≤ (a.den : Int) / d := by
    rw [Int.le_ediv_iff_mul_le (by omega), Int.one_mul, ← hd]
    unfold gcdI; have := Nat.gcd_le_left (b.den : Int).natAbs (show 0 < (a.den : Int).natAbs by omega); omega
  have hT1 := wide_mul_pos fa xb (Int.ediv_nonneg (by omega) (by omega))
  have hT2 := wide_mul_pos fb xa (Int.ediv_nonneg (by omega) (by omega))
  have wT : Wide T := by rw [← hT]; unfold Wide; omega
  have t1 : (a.den : Int).tdiv d = (a.den : Int) / d := Int.tdiv_eq_ediv_of_nonneg (by omega)
  have t2 : (b.den : Int).tdiv d = (b.den : Int) / d := Int.tdiv_eq_ediv_of_nonneg (by omega)
  have u1 : IntKind.i64.wrap ((a.den : Int) / d) = (a.den : Int) / d := by
    have := (fitB_iff _).1 xa; exact IntWalk.i64_in _ (by omega)
  have u2 : IntKind.i64.wrap ((b.den : Int) / d) = (b.den : Int) / d := by
    have := (fitB_iff _).1 xb; exact IntWalk.i64_in _ (by omega)
  have ea : rok (a + b) = (fitB (sgnI (negB T) (szI T / e)) && fitB ((a.den : Int) / d * ((b.den : Int) / e))) := by rw [rok, n1, n2]
  rw [ea, n1, n2]
  have HT := mkHid hT; have HE := mkHid he
  clear n1 n2 ea hT he hT1 hT2 hd ha hb
  generalize a.num = P at *
  generalize b.num = R at *
  generalize (a.den : Int) = Q at *
  generalize (b.den : Int) = S at *
  generalize Q / d = x at *
  generalize S / d = y at *
  have dne : (d == 0) = false := beq_eq_false_iff_ne.2 (by omega)
  have dne' : ¬ d = 0 := by omega
  have LW : Hid (∀ w, Calls Try.prog 65 #[wv (P * y + R * x), .int .i64 x, .int .i64 S, .int .i64 d] w (Out (fitB (sgnI (negB T) (szI T / e)) && fitB (x * (S / e))) (.agg #[.int .i64 (sgnI (negB T) (szI T / e)), .int .i64 (x * (S / e))]) w)) := by
    intro w
    rw [HT.out]
    exact lowest_any T x S d e w wT xa fb' fd xa1 pb g2 HE
  generalize (fitB (sgnI (negB T) (szI T / e)) && fitB (x * (S / e))) = c at *
  generalize sgnI (negB T) (szI T / e) = N at *
  generalize x * (S / e) = D at *
  clear HT HE wT
  have lp := World.block_lt_of_cell? _ _ cp0
  have lq := World.block_lt_of_cell? _ _ cq0
  have A0 : ∀ o, (w.alloc o).cell? ⟨bp, 0, none⟩ = some (.int .i64 P) := fun o => cell_later (bal (Below.refl _ _) o) cp0
  have A1 : ∀ o, (w.alloc o).cell? ⟨bp, 1, none⟩ = some (.int .i64 Q) := fun o => cell_later (bal (Below.refl _ _) o) cp1
  have A2 : ∀ o, (w.alloc o).cell? ⟨bq, 0, none⟩ = some (.int .i64 R) := fun o => cell_later (bal (Below.refl _ _) o) cq0
  have A3 : ∀ o, (w.alloc o).cell? ⟨bq, 1, none⟩ = some (.int .i64 S) := fun o => cell_later (bal (Below.refl _ _) o) cq1
  go_enter Try.func63, Try.ntmps63
  go_wp2_with fail
  refine (SH.out _).mono ?_; rintro e w1 ⟨rfl, hb1⟩
  have a0 := cell_later hb1 (A0 _)
  have a1 := cell_later hb1 (A1 _)
  have a2 := cell_later hb1 (A2 _)
  have a3 := cell_later hb1 (A3 _)
  obtain ⟨c0, c1, f0, f1⟩ := Two.later hb1 (b := w.heap.size) (x := .int .i64 0) (y := .int .i64 0) (by simp [Two, go_sem])
  go_wp2_with fail
  go_region_held2 (fun w' => w'.cell? ⟨bp, 0, none⟩ = some (.int .i64 P) ∧ w'.cell? ⟨bp, 1, none⟩ = some (.int .i64 Q) ∧ w'.cell? ⟨bq, 0, none⟩ = some (.int .i64 R) ∧ w'.cell? ⟨bq, 1, none⟩ = some (.int .i64 S))
    (first | exact cells4_later (by assumption) (by assumption) | exact ⟨a0, a1, a2, a3⟩ | exact cells4_set lp lq (by assumption))
    (first
      | (go_at_call 50; refine (product_f _ _ _ (by assumption) (by assumption)).mono ?_; rintro e w2 ⟨rfl, hb2⟩; obtain ⟨c0, c1, f0, f1⟩ := Two.later hb2 (b := w.heap.size) (x := .int .i64 0) (y := .int .i64 0) ⟨c0, c1, f0, f1⟩)
      | (go_at_call 46; refine (plus_any _ _ _).mono ?_; rintro e w3 ⟨rfl, hb3⟩; obtain ⟨c0, c1, f0, f1⟩ := Two.later hb3 (b := w.heap.size) (x := .int .i64 0) (y := .int .i64 0) ⟨c0, c1, f0, f1⟩)
      | (go_at_call 65; refine (LW.out _).mono ?_; rintro e w4 (⟨hs, rfl, hb4⟩ | ⟨hs, ⟨v, rfl⟩, hb4⟩); rotate_left; exact ⟨rfl, Or.inr ⟨hs, ⟨v, rfl⟩, (by repeat (first | exact Below.refl _ _ | (refine bset ?_ (by simp <;> omega) _) | (refine bon ?_ (by assumption)) | refine bdrew ?_ | refine bal ?_ _))⟩⟩; obtain ⟨c0, c1, f0, f1⟩ := Two.later hb4 (b := w.heap.size) (x := .int .i64 0) (y := .int .i64 0) ⟨c0, c1, f0, f1⟩))
  go_wp2
  exact bodyPost_ret (v := .agg #[.int .i64 N, .int .i64 D]) (by simp [results, Try.results63, go_sem, c0, c1]) rfl (Or.inl ⟨by first | exact hs | rfl, rfl, (by repeat (first | exact Below.refl _ _ | (refine bset ?_ (by simp <;> omega) _) | (refine bon ?_ (by assumption)) | refine bdrew ?_ | refine bal ?_ _))⟩)
set_option maxHeartbeats 4000000 in
theorem minusC_some (bp bq : Nat) (a b : Rat) (w : World) (ha : rok a = true) (hb : rok b = true)
    (cp0 : w.cell? ⟨bp, 0, none⟩ = some (.int .i64 a.num)) (cp1 : w.cell? ⟨bp, 1, none⟩ = some (.int .i64 (a.den : Int))) (cq0 : w.cell? ⟨bq, 0, none⟩ = some (.int .i64 b.num)) (cq1 : w.cell? ⟨bq, 1, none⟩ = some (.int .i64 (b.den : Int))) :
    Calls Try.prog 66 #[.pointer (some ⟨bp, 0, none⟩), .pointer (some ⟨bq, 0, none⟩)] w (Out (rok (a - b)) (.agg #[.int .i64 (a - b).num, .int .i64 ((a - b).den : Int)]) w) := by
  obtain ⟨fa, fa'⟩ := (rok_iff a).1 ha
  obtain ⟨fb, fb'⟩ := (rok_iff b).1 hb
  have pa : (1 : Int) ≤ (a.den : Int) := by have := a.den_nz; omega
  have pb : (1 : Int) ≤ (b.den : Int) := by have := b.den_nz; omega
  obtain ⟨g1, g2⟩ := gcd_fit (a.den : Int) (b.den : Int) pa fa'
  obtain ⟨d, hd⟩ : ∃ d, gcdI (a.den : Int) (b.den : Int) = d := ⟨_, rfl⟩
  rw [hd] at g1 g2
  have fd : fitB d = true := g1
  obtain ⟨T, hT⟩ : ∃ T, a.num * ((b.den : Int) / d) - b.num * ((a.den : Int) / d) = T := ⟨_, rfl⟩
  obtain ⟨e, he⟩ : ∃ e, gcdI (szI T % d) d = e := ⟨_, rfl⟩
  obtain ⟨n1, n2⟩ := minus_rat a b d T e hd hT he
  have SH : Hid (∀ w, Calls Try.prog 64 #[.agg #[.int .i64 a.num, .int .i64 (a.den : Int)], .agg #[.int .i64 b.num, .int .i64 (b.den : Int)]] w fun en w' => en = .returned (.int .i64 d) ∧ Below w.heap.size w w') := by
    intro w
    refine (shared_any a.num a.den b.num b.den w fa fa' fb fb').mono ?_
    rintro en w' (⟨hc, rfl, hb⟩ | ⟨hc, _, _⟩)
    · exact ⟨by rw [hd], hb⟩
    · rw [decide_eq_true pa, decide_eq_true pb] at hc; exact absurd hc (by decide)
  have xa : fitB ((a.den : Int) / d) = true := by
    rw [fitB_iff] at *
    have h1 := Int.ediv_nonneg (show (0 : Int) ≤ a.den by omega) (show 0 ≤ d by omega)
    have h2 := Int.ediv_le_self d (show (0 : Int) ≤ a.den by omega)
    omega
  have xb : fitB ((b.den : Int) / d) = true := by
    rw [fitB_iff] at *
    have h1 := Int.ediv_nonneg (show (0 : Int) ≤ b.den by omega) (show 0 ≤ d by omega)
    have h2 := Int.ediv_le_self d (show (0 : Int) ≤ b.den by omega)
    omega
  have xa1 : 1 ≤ (a.den : Int) / d := by
    rw [Int.le_ediv_iff_mul_le (by omega), Int.one_mul, ← hd]
    unfold gcdI; have := Nat.gcd_le_left (b.den : Int).natAbs (show 0 < (a.den : Int).natAbs by omega); omega
  have hT1 := wide_mul_pos fa xb (Int.ediv_nonneg (by omega) (by omega))
  have hT2 := wide_mul_pos fb xa (Int.ediv_nonneg (by omega) (by omega))
  have wT : Wide T := by rw [← hT]; unfold Wide; omega
  have t1 : (a.den : Int).tdiv d = (a.den : Int) / d := Int.tdiv_eq_ediv_of_nonneg (by omega)
  have t2 : (b.den : Int).tdiv d = (b.den : Int) / d := Int.tdiv_eq_ediv_of_nonneg (by omega)
  have u1 : IntKind.i64.wrap ((a.den : Int) / d) = (a.den : Int) / d := by
    have := (fitB_iff _).1 xa; exact IntWalk.i64_in _ (by omega)
  have u2 : IntKind.i64.wrap ((b.den : Int) / d) = (b.den : Int) / d := by
    have := (fitB_iff _).1 xb; exact IntWalk.i64_in _ (by omega)
  have ea : rok (a - b) = (fitB (sgnI (negB T) (szI T / e)) && fitB ((a.den : Int) / d * ((b.den : Int) / e))) := by rw [rok, n1, n2]
  rw [ea, n1, n2]
  have HT := mkHid hT; have HE := mkHid he
  clear n1 n2 ea hT he hT1 hT2 hd ha hb
  generalize a.num = P at *
  generalize b.num = R at *
  generalize (a.den : Int) = Q at *
  generalize (b.den : Int) = S at *
  generalize Q / d = x at *
  generalize S / d = y at *
  have dne : (d == 0) = false := beq_eq_false_iff_ne.2 (by omega)
  have dne' : ¬ d = 0 := by omega
  have LW : Hid (∀ w, Calls Try.prog 65 #[wv (P * y - R * x), .int .i64 x, .int .i64 S, .int .i64 d] w (Out (fitB (sgnI (negB T) (szI T / e)) && fitB (x * (S / e))) (.agg #[.int .i64 (sgnI (negB T) (szI T / e)), .int .i64 (x * (S / e))]) w)) := by
    intro w
    rw [HT.out]
    exact lowest_any T x S d e w wT xa fb' fd xa1 pb g2 HE
  generalize (fitB (sgnI (negB T) (szI T / e)) && fitB (x * (S / e))) = c at *
  generalize sgnI (negB T) (szI T / e) = N at *
  generalize x * (S / e) = D at *
  clear HT HE wT
  have lp := World.block_lt_of_cell? _ _ cp0
  have lq := World.block_lt_of_cell? _ _ cq0
  have A0 : ∀ o, (w.alloc o).cell? ⟨bp, 0, none⟩ = some (.int .i64 P) := fun o => cell_later (bal (Below.refl _ _) o) cp0
  have A1 : ∀ o, (w.alloc o).cell? ⟨bp, 1, none⟩ = some (.int .i64 Q) := fun o => cell_later (bal (Below.refl _ _) o) cp1
  have A2 : ∀ o, (w.alloc o).cell? ⟨bq, 0, none⟩ = some (.int .i64 R) := fun o => cell_later (bal (Below.refl _ _) o) cq0
  have A3 : ∀ o, (w.alloc o).cell? ⟨bq, 1, none⟩ = some (.int .i64 S) := fun o => cell_later (bal (Below.refl _ _) o) cq1
  go_enter Try.func66, Try.ntmps66
  go_wp2_with fail
  refine (SH.out _).mono ?_; rintro e w1 ⟨rfl, hb1⟩
  have a0 := cell_later hb1 (A0 _)
  have a1 := cell_later hb1 (A1 _)
  have a2 := cell_later hb1 (A2 _)
  have a3 := cell_later hb1 (A3 _)
  obtain ⟨c0, c1, f0, f1⟩ := Two.later hb1 (b := w.heap.size) (x := .int .i64 0) (y := .int .i64 0) (by simp [Two, go_sem])
  go_wp2_with fail
  go_region_held2 (fun w' => w'.cell? ⟨bp, 0, none⟩ = some (.int .i64 P) ∧ w'.cell? ⟨bp, 1, none⟩ = some (.int .i64 Q) ∧ w'.cell? ⟨bq, 0, none⟩ = some (.int .i64 R) ∧ w'.cell? ⟨bq, 1, none⟩ = some (.int .i64 S))
    (first | exact cells4_later (by assumption) (by assumption) | exact ⟨a0, a1, a2, a3⟩ | exact cells4_set lp lq (by assumption))
    (first
      | (go_at_call 50; refine (product_f _ _ _ (by assumption) (by assumption)).mono ?_; rintro e w2 ⟨rfl, hb2⟩; obtain ⟨c0, c1, f0, f1⟩ := Two.later hb2 (b := w.heap.size) (x := .int .i64 0) (y := .int .i64 0) ⟨c0, c1, f0, f1⟩)
      | (go_at_call 48; refine (minus_any _ _ _).mono ?_; rintro e w3 ⟨rfl, hb3⟩; obtain ⟨c0, c1, f0, f1⟩ := Two.later hb3 (b := w.heap.size) (x := .int .i64 0) (y := .int .i64 0) ⟨c0, c1, f0, f1⟩)
      | (go_at_call 65; refine (LW.out _).mono ?_; rintro e w4 (⟨hs, rfl, hb4⟩ | ⟨hs, ⟨v, rfl⟩, hb4⟩); rotate_left; exact ⟨rfl, Or.inr ⟨hs, ⟨v, rfl⟩, (by repeat (first | exact Below.refl _ _ | (refine bset ?_ (by simp <;> omega) _) | (refine bon ?_ (by assumption)) | refine bdrew ?_ | refine bal ?_ _))⟩⟩; obtain ⟨c0, c1, f0, f1⟩ := Two.later hb4 (b := w.heap.size) (x := .int .i64 0) (y := .int .i64 0) ⟨c0, c1, f0, f1⟩))
  go_wp2
  exact bodyPost_ret (v := .agg #[.int .i64 N, .int .i64 D]) (by simp [results, Try.results66, go_sem, c0, c1]) rfl (Or.inl ⟨by first | exact hs | rfl, rfl, (by repeat (first | exact Below.refl _ _ | (refine bset ?_ (by simp <;> omega) _) | (refine bon ?_ (by assumption)) | refine bdrew ?_ | refine bal ?_ _))⟩)

set_option maxHeartbeats 4000000 in
theorem plusC_none (bp bq : Nat) (P Q R S : Int) (V : Value) (w : World) (fP : fitB P = true) (fQ : fitB Q = true) (fR : fitB R = true) (fS : fitB S = true) (hn : (decide (1 ≤ Q) && decide (1 ≤ S)) = false)
    (cp0 : w.cell? ⟨bp, 0, none⟩ = some (.int .i64 P)) (cp1 : w.cell? ⟨bp, 1, none⟩ = some (.int .i64 Q)) (cq0 : w.cell? ⟨bq, 0, none⟩ = some (.int .i64 R)) (cq1 : w.cell? ⟨bq, 1, none⟩ = some (.int .i64 S)) :
    Calls Try.prog 63 #[.pointer (some ⟨bp, 0, none⟩), .pointer (some ⟨bq, 0, none⟩)] w (Out false V w) := by
  have A0 : ∀ o, (w.alloc o).cell? ⟨bp, 0, none⟩ = some (.int .i64 P) := fun o => cell_later (bal (Below.refl _ _) o) cp0
  have A1 : ∀ o, (w.alloc o).cell? ⟨bp, 1, none⟩ = some (.int .i64 Q) := fun o => cell_later (bal (Below.refl _ _) o) cp1
  have A2 : ∀ o, (w.alloc o).cell? ⟨bq, 0, none⟩ = some (.int .i64 R) := fun o => cell_later (bal (Below.refl _ _) o) cq0
  have A3 : ∀ o, (w.alloc o).cell? ⟨bq, 1, none⟩ = some (.int .i64 S) := fun o => cell_later (bal (Below.refl _ _) o) cq1
  have SH : Hid (∀ w, Calls Try.prog 64 #[.agg #[.int .i64 P, .int .i64 Q], .agg #[.int .i64 R, .int .i64 S]] w fun en w' => Mis en ∧ Below w.heap.size w w') := by
    intro w
    refine (shared_any P Q R S w fP fQ fR fS).mono ?_
    rintro en w' (⟨hc, _, _⟩ | ⟨hc, he, hb⟩)
    · rw [hn] at hc; exact absurd hc (by decide)
    · exact ⟨he, hb⟩
  clear hn fP fQ fR fS
  go_enter Try.func63, Try.ntmps63
  go_wp2_with fail
  refine (SH.out _).mono ?_; rintro e w1 ⟨⟨v, rfl⟩, hb1⟩
  exact ⟨rfl, Or.inr ⟨rfl, ⟨v, rfl⟩, bon (bal (Below.refl _ _) _) hb1⟩⟩

set_option maxHeartbeats 4000000 in
theorem minusC_none (bp bq : Nat) (P Q R S : Int) (V : Value) (w : World) (fP : fitB P = true) (fQ : fitB Q = true) (fR : fitB R = true) (fS : fitB S = true) (hn : (decide (1 ≤ Q) && decide (1 ≤ S)) = false)
    (cp0 : w.cell? ⟨bp, 0, none⟩ = some (.int .i64 P)) (cp1 : w.cell? ⟨bp, 1, none⟩ = some (.int .i64 Q)) (cq0 : w.cell? ⟨bq, 0, none⟩ = some (.int .i64 R)) (cq1 : w.cell? ⟨bq, 1, none⟩ = some (.int .i64 S)) :
    Calls Try.prog 66 #[.pointer (some ⟨bp, 0, none⟩), .pointer (some ⟨bq, 0, none⟩)] w (Out false V w) := by
  have A0 : ∀ o, (w.alloc o).cell? ⟨bp, 0, none⟩ = some (.int .i64 P) := fun o => cell_later (bal (Below.refl _ _) o) cp0
  have A1 : ∀ o, (w.alloc o).cell? ⟨bp, 1, none⟩ = some (.int .i64 Q) := fun o => cell_later (bal (Below.refl _ _) o) cp1
  have A2 : ∀ o, (w.alloc o).cell? ⟨bq, 0, none⟩ = some (.int .i64 R) := fun o => cell_later (bal (Below.refl _ _) o) cq0
  have A3 : ∀ o, (w.alloc o).cell? ⟨bq, 1, none⟩ = some (.int .i64 S) := fun o => cell_later (bal (Below.refl _ _) o) cq1
  have SH : Hid (∀ w, Calls Try.prog 64 #[.agg #[.int .i64 P, .int .i64 Q], .agg #[.int .i64 R, .int .i64 S]] w fun en w' => Mis en ∧ Below w.heap.size w w') := by
    intro w
    refine (shared_any P Q R S w fP fQ fR fS).mono ?_
    rintro en w' (⟨hc, _, _⟩ | ⟨hc, he, hb⟩)
    · rw [hn] at hc; exact absurd hc (by decide)
    · exact ⟨he, hb⟩
  clear hn fP fQ fR fS
  go_enter Try.func66, Try.ntmps66
  go_wp2_with fail
  refine (SH.out _).mono ?_; rintro e w1 ⟨⟨v, rfl⟩, hb1⟩
  exact ⟨rfl, Or.inr ⟨rfl, ⟨v, rfl⟩, bon (bal (Below.refl _ _) _) hb1⟩⟩
end Go.Proofs.Ytkgaoafcjhjefaa
