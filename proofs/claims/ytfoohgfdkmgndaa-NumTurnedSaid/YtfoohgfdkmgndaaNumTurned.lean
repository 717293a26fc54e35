/-
  What NumTurned does: it returns true, whatever the three numbers are.
-/
import Derived.Test.YtfoohgfdkmgndaaNumRounds
import Derived.Test.YtfoohgfdkmgndaaNumQ
namespace Go.Proofs.Ytfoohgfdkmgndaa
open Go.RowKit Go.Shelf

set_option maxHeartbeats 4000000 in
set_option maxRecDepth 100000 in
theorem turned_none (p q n : Int) (w : World)
    (M1 : Hid (∀ w, Calls Try.prog 26 #[.int .i64 p, .int .i64 q] w fun e w' => e = .returned (.tuple #[.agg #[.int .i64 0, .int .i64 0], .bool false]) ∧ Below w.heap.size w w')) :
    Calls Try.prog 12 #[.int .i64 p, .int .i64 q, .int .i64 n] w fun e w' => e = .returned (.bool true) ∧ Below w.heap.size w w' := by
  go_enter Try.func12, Try.ntmps12
  go_wp2_with fail
  refine (shown_any _).mono ?_; rintro e w1 ⟨rfl, hb1⟩
  go_wp2_with fail
  refine (M1.out _).mono ?_; rintro e w2 ⟨rfl, hb2⟩
  go_wp2
  go_ret
  exact ⟨rfl, bal (bon (bon (Below.refl _ _) hb1) hb2) _⟩

set_option maxHeartbeats 4000000 in
set_option maxRecDepth 100000 in
theorem turned_core (p q n P Q f c x R S : Int) (fits : Bool) (w : World)
    (M1 : Hid (∀ w, Calls Try.prog 26 #[.int .i64 p, .int .i64 q] w fun e w' => e = .returned (.tuple #[.agg #[.int .i64 P, .int .i64 Q], .bool true]) ∧ Below w.heap.size w w'))
    (N1 : Hid (∀ w, Calls Try.prog 31 #[.agg #[.int .i64 0, .int .i64 1], .agg #[.int .i64 P, .int .i64 Q]] w fun e w' => e = .returned (.tuple #[.agg #[.int .i64 R, .int .i64 S], .bool fits]) ∧ Below w.heap.size w w'))
    (F1 : Hid (∀ w, Calls Try.prog 40 #[.agg #[.int .i64 P, .int .i64 Q]] w fun e w' => e = .returned (.int .i64 f) ∧ Below w.heap.size w w'))
    (C1 : Hid (∀ w, Calls Try.prog 41 #[.agg #[.int .i64 P, .int .i64 Q]] w fun e w' => e = .returned (.int .i64 c) ∧ Below w.heap.size w w'))
    (F2 : fits = true → Hid (∀ w, Calls Try.prog 40 #[.agg #[.int .i64 R, .int .i64 S]] w fun e w' => e = .returned (.int .i64 (-c)) ∧ Below w.heap.size w w'))
    (A1 : fits = true → Hid (∀ w, Calls Try.prog 16 #[.int .i64 c, .int .i64 (-c)] w fun e w' => e = .returned (.tuple #[.int .i64 0, .bool true]) ∧ Below w.heap.size w w'))
    (L1 : Hid (∀ w, Calls Try.prog 38 #[.agg #[.int .i64 n, .int .i64 1], .agg #[.int .i64 P, .int .i64 Q]] w fun e w' => e = .returned (.int .i64 x) ∧ Below w.heap.size w w'))
    (hfit : fits = true → S = Q ∧ R = -P ∧ -9223372036854775807 ≤ P ∧ P ≤ 9223372036854775807)
    (h1 : decide (x ≤ 0) = decide (n ≤ f)) (h2 : decide (0 ≤ x) = decide (c ≤ n)) :
    Calls Try.prog 12 #[.int .i64 p, .int .i64 q, .int .i64 n] w fun e w' => e = .returned (.bool true) ∧ Below w.heap.size w w' := by
  cases fits
  · clear F2 A1 hfit
    go_enter Try.func12, Try.ntmps12
    go_wp2_with fail
    refine (shown_any _).mono ?_; rintro e w1 ⟨rfl, hb1⟩
    go_wp2_with fail
    refine (M1.out _).mono ?_; rintro e w2 ⟨rfl, hb2⟩
    go_wp2_with fail
    go_cut [10, 11] (fun s10 s11 wx => ∃ g : Nat, s10 = .pointer (some ⟨g, 0, none⟩) ∧ s11 = .bool false ∧ (wx.cell? ⟨g, 0, none⟩ = some (.int .i64 R) ∧ wx.cell? ⟨g, 1, none⟩ = some (.int .i64 S)) ∧ (wx.cell? ⟨w2.heap.size, 0, none⟩ = some (.int .i64 P) ∧ wx.cell? ⟨w2.heap.size, 1, none⟩ = some (.int .i64 Q)) ∧ Below w.heap.size w wx)
    case first =>
      have z1 := hb1.size; have z2 := hb2.size
      go_region_held2 (fun w' => w'.cell? ⟨w2.heap.size, 0, none⟩ = some (.int .i64 P) ∧ w'.cell? ⟨w2.heap.size, 1, none⟩ = some (.int .i64 Q))
        (first | exact cells2_later (by assumption) (by assumption) | (simp [go_sem]; done) | exact cells2_later (bal (Below.refl _ _) _) (by assumption) | exact cells2_later (bal (Below.refl _ _) _) k4.out | (simp [go_sem, *]; done))
        (first
          | (go_at_call 28; refine (wholeR _ _).mono ?_; rintro e w3 ⟨rfl, hb3⟩; have z3 := hb3.size; (try simp at z3); (first | (revert T; intro T; have T := Two.later hb3 T) | have T := Two.later hb3 (two_alloc _ (.int .i64 0) (.int .i64 0) _) | have T := Two.later hb3 (two_alloc_drew _ (.int .i64 0) (.int .i64 0) _) | skip); (try simp at T))
          | (go_at_call 31; refine (N1.out _).mono ?_; rintro e w4 ⟨rfl, hb4⟩; have z4 := hb4.size; (try simp at z4); have k4 := mkHid (cells2_later hb4 (by assumption : _ ∧ _)); (first | (revert T; intro T; have T := Two.later hb4 T) | have T := Two.later hb4 (two_alloc _ (.int .i64 0) (.int .i64 0) _) | have T := Two.later hb4 (two_alloc_drew _ (.int .i64 0) (.int .i64 0) _) | skip); (try simp at T); (first | (revert T; intro T; obtain ⟨c0, c1, f0, f1⟩ := T) | skip)))
      all_goals (rename_i hHeld; go_wp2_with fail; go_meet; exact ⟨_, rfl, rfl, ⟨by simp [go_sem, *], by simp [go_sem, *]⟩, hHeld, (by repeat (first | exact Below.refl _ _ | (refine bset ?_ (by simp <;> omega) _) | (refine bon ?_ (by assumption)) | refine bdrew ?_ | refine bal ?_ _))⟩)
    case rest =>
      obtain ⟨g, rfl, rfl, ⟨d0, d1⟩, ⟨a0, a1⟩, hb0⟩ := hcut
      go_wp2_with fail
      go_region_held2 (fun w' => w'.cell? ⟨w2.heap.size, 0, none⟩ = some (.int .i64 P) ∧ w'.cell? ⟨w2.heap.size, 1, none⟩ = some (.int .i64 Q))
        (first | exact cells2_later (by assumption) (by assumption) | exact ⟨a0, a1⟩)
        (first
          | (go_at_call 28; refine (wholeR _ _).mono ?_; rintro e w5 ⟨rfl, hb5⟩)
          | (go_at_call 38; refine (L1.out _).mono ?_; rintro e w6 ⟨rfl, hb6⟩))
      rename_i hHeld3
      have K3 := mkHid hHeld3
      obtain ⟨a0, a1⟩ := hHeld3
      go_wp2_with fail
      refine (F1.out _).mono ?_; rintro e w7 ⟨rfl, hb7⟩
      obtain ⟨a0, a1⟩ := cells2_later hb7 K3.out
      go_wp2_with fail
      refine (C1.out _).mono ?_; rintro e w8 ⟨rfl, hb8⟩
      go_wp2
      go_ret
      exact ⟨rfl, (by repeat (first | exact Below.refl _ _ | (refine bset ?_ (by simp <;> omega) _) | (refine bon ?_ (by assumption)) | refine bdrew ?_ | refine bal ?_ _))⟩
  · have F3 := F2 rfl
    have A3 := A1 rfl
    clear F2 A1
    obtain ⟨rfl, rfl, p1, p2⟩ := hfit rfl
    clear hfit
    go_enter Try.func12, Try.ntmps12
    go_wp2_with fail
    refine (shown_any _).mono ?_; rintro e w1 ⟨rfl, hb1⟩
    go_wp2_with fail
    refine (M1.out _).mono ?_; rintro e w2 ⟨rfl, hb2⟩
    go_wp2_with fail
    go_cut [10, 11] (fun s10 s11 wx => ∃ g : Nat, s10 = .pointer (some ⟨g, 0, none⟩) ∧ s11 = .bool true ∧ (wx.cell? ⟨g, 0, none⟩ = some (.int .i64 (-P)) ∧ wx.cell? ⟨g, 1, none⟩ = some (.int .i64 S)) ∧ (wx.cell? ⟨w2.heap.size, 0, none⟩ = some (.int .i64 P) ∧ wx.cell? ⟨w2.heap.size, 1, none⟩ = some (.int .i64 S)) ∧ Below w.heap.size w wx)
    case first =>
      have z1 := hb1.size; have z2 := hb2.size
      go_region_held2 (fun w' => w'.cell? ⟨w2.heap.size, 0, none⟩ = some (.int .i64 P) ∧ w'.cell? ⟨w2.heap.size, 1, none⟩ = some (.int .i64 S))
        (first | exact cells2_later (by assumption) (by assumption) | (simp [go_sem]; done) | exact cells2_later (bal (Below.refl _ _) _) (by assumption) | exact cells2_later (bal (Below.refl _ _) _) k4.out | (simp [go_sem, *]; done))
        (first
          | (go_at_call 28; refine (wholeR _ _).mono ?_; rintro e w3 ⟨rfl, hb3⟩; have z3 := hb3.size; (try simp at z3); (first | (revert T; intro T; have T := Two.later hb3 T) | have T := Two.later hb3 (two_alloc _ (.int .i64 0) (.int .i64 0) _) | have T := Two.later hb3 (two_alloc_drew _ (.int .i64 0) (.int .i64 0) _) | skip); (try simp at T))
          | (go_at_call 31; refine (N1.out _).mono ?_; rintro e w4 ⟨rfl, hb4⟩; have z4 := hb4.size; (try simp at z4); have k4 := mkHid (cells2_later hb4 (by assumption : _ ∧ _)); (first | (revert T; intro T; have T := Two.later hb4 T) | have T := Two.later hb4 (two_alloc _ (.int .i64 0) (.int .i64 0) _) | have T := Two.later hb4 (two_alloc_drew _ (.int .i64 0) (.int .i64 0) _) | skip); (try simp at T); (first | (revert T; intro T; obtain ⟨c0, c1, f0, f1⟩ := T) | skip)))
      all_goals (rename_i hHeld; go_wp2_with fail; go_meet; exact ⟨_, rfl, rfl, ⟨by simp [go_sem, *], by simp [go_sem, *]⟩, hHeld, (by repeat (first | exact Below.refl _ _ | (refine bset ?_ (by simp <;> omega) _) | (refine bon ?_ (by assumption)) | refine bdrew ?_ | refine bal ?_ _))⟩)
    case rest =>
      obtain ⟨g, rfl, rfl, ⟨d0, d1⟩, ⟨a0, a1⟩, hb0⟩ := hcut
      go_wp2_with fail
      go_region_held2 (fun w' => w'.cell? ⟨w2.heap.size, 0, none⟩ = some (.int .i64 P) ∧ w'.cell? ⟨w2.heap.size, 1, none⟩ = some (.int .i64 S) ∧ w'.cell? ⟨g, 0, none⟩ = some (.int .i64 (-P)) ∧ w'.cell? ⟨g, 1, none⟩ = some (.int .i64 S))
        (first | exact cells4_later (by assumption) (by assumption) | exact ⟨a0, a1, d0, d1⟩)
        (first
          | (go_at_call 41; refine (C1.out _).mono ?_; rintro e w9 ⟨rfl, hb9⟩)
          | (go_at_call 40; refine (F3.out _).mono ?_; rintro e w10 ⟨rfl, hb10⟩)
          | (go_at_call 16; refine (A3.out _).mono ?_; rintro e w11 ⟨rfl, hb11⟩))
      rename_i hHeld2
      obtain ⟨a0, a1, d0, d1⟩ := hHeld2
      go_wp2_with fail
      go_region_held2 (fun w' => w'.cell? ⟨w2.heap.size, 0, none⟩ = some (.int .i64 P) ∧ w'.cell? ⟨w2.heap.size, 1, none⟩ = some (.int .i64 S))
        (first | exact cells2_later (by assumption) (by assumption) | exact ⟨a0, a1⟩)
        (first
          | (go_at_call 28; refine (wholeR _ _).mono ?_; rintro e w5 ⟨rfl, hb5⟩)
          | (go_at_call 38; refine (L1.out _).mono ?_; rintro e w6 ⟨rfl, hb6⟩))
      rename_i hHeld3
      have K3 := mkHid hHeld3
      obtain ⟨a0, a1⟩ := hHeld3
      go_wp2_with fail
      refine (F1.out _).mono ?_; rintro e w7 ⟨rfl, hb7⟩
      obtain ⟨a0, a1⟩ := cells2_later hb7 K3.out
      go_wp2_with fail
      refine (C1.out _).mono ?_; rintro e w8 ⟨rfl, hb8⟩
      go_wp2
      go_ret
      exact ⟨rfl, (by repeat (first | exact Below.refl _ _ | (refine bset ?_ (by simp <;> omega) _) | (refine bon ?_ (by assumption)) | refine bdrew ?_ | refine bal ?_ _))⟩

theorem cmp_le (n : Int) (r : Rat) : decide (cmpQ (n : Rat) r ≤ 0) = decide (n ≤ r.num / r.den) := by
  have hd : (0 : Int) < r.den := by have := r.den_nz; omega
  have h1 : ((n : Rat) < r) ↔ n * (r.den : Int) < r.num := by rw [Rat.lt_iff]; show n * (r.den : Int) < r.num * 1 ↔ _; rw [Int.mul_one]
  have h2 : ((n : Rat) = r) ↔ n * (r.den : Int) = r.num := by rw [rat_eq_iff]; show n * (r.den : Int) = r.num * 1 ↔ _; rw [Int.mul_one]
  rw [Bool.eq_iff_iff, decide_eq_true_iff, decide_eq_true_iff, Int.le_ediv_iff_mul_le hd]
  unfold cmpQ
  by_cases k1 : (n : Rat) < r
  · rw [if_pos k1]; rw [h1] at k1; omega
  · rw [if_neg k1]
    by_cases k2 : (n : Rat) = r
    · rw [if_pos k2]; rw [h2] at k2; omega
    · rw [if_neg k2]; rw [h1] at k1; rw [h2] at k2; omega
theorem cmp_ge (n : Int) (r : Rat) : decide (0 ≤ cmpQ (n : Rat) r) = decide (ceilI r.num r.den ≤ n) := by
  have hd : (0 : Int) < r.den := by have := r.den_nz; omega
  have h1 : ((n : Rat) < r) ↔ n * (r.den : Int) < r.num := by rw [Rat.lt_iff]; show n * (r.den : Int) < r.num * 1 ↔ _; rw [Int.mul_one]
  have h2 : ((n : Rat) = r) ↔ n * (r.den : Int) = r.num := by rw [rat_eq_iff]; show n * (r.den : Int) = r.num * 1 ↔ _; rw [Int.mul_one]
  have h3 : ceilI r.num r.den ≤ n ↔ r.num ≤ n * r.den := by
    unfold ceilI
    have : -n ≤ -r.num / (r.den : Int) ↔ -n * r.den ≤ -r.num := Int.le_ediv_iff_mul_le hd
    rw [Int.neg_mul] at this
    omega
  rw [Bool.eq_iff_iff, decide_eq_true_iff, decide_eq_true_iff, h3]
  unfold cmpQ
  by_cases k1 : (n : Rat) < r
  · rw [if_pos k1]; rw [h1] at k1; omega
  · rw [if_neg k1]
    by_cases k2 : (n : Rat) = r
    · rw [if_pos k2]; rw [h2] at k2; omega
    · rw [if_neg k2]; rw [h1] at k1; rw [h2] at k2; omega
theorem zero_minus (r : Rat) : (0 - r).num = -r.num ∧ (0 - r).den = r.den := by
  have : 0 - r = -r := by grind
  rw [this]; exact ⟨rfl, rfl⟩
theorem turned_law (p q n : Int) (w : World) (hp : fitB p = true) (hq : fitB q = true) (hn : fitB n = true) :
    Calls Try.prog 12 #[.int .i64 p, .int .i64 q, .int .i64 n] w fun e w' => e = .returned (.bool true) ∧ Below w.heap.size w w' := by
  have M1 := fun w => makeR p q w hp hq
  have hf := fits_make p q
  generalize makeO p q = o at *
  cases o with
  | none => exact turned_none p q n w M1
  | some r =>
    have hr := hf r rfl
    obtain ⟨n1, n2⟩ := (rok_iff r).1 hr
    have hd : (1 : Int) ≤ r.den := by have := r.den_nz; omega
    obtain ⟨g1, g2, _, _⟩ := floor_facts r hr
    have N1 : ∀ w, Calls Try.prog 31 #[.agg #[.int .i64 0, .int .i64 1], .agg #[.int .i64 r.num, .int .i64 (r.den : Int)]] w fun e w' => e = .returned (.tuple #[.agg #[.int .i64 (vp (told (0 - r))), .int .i64 (vq (told (0 - r)))], .bool (told (0 - r)).isSome]) ∧ Below w.heap.size w w' :=
      fun w => minusR (some 0) (some r) w (fits_some (by decide +kernel)) (fits_some hr)
    have hm := zero_minus r
    have key : (told (0 - r)).isSome = true → fitB (-r.num) = true ∧ vp (told (0 - r)) = -r.num ∧ vq (told (0 - r)) = r.den := by
      intro h
      cases hk : rok (0 - r)
      · rw [told_none hk] at h; cases h
      · rw [told_some hk]
        have := (rok_iff _).1 hk
        rw [hm.1] at this
        exact ⟨this.1, hm.1, by show ((0 - r).den : Int) = _; rw [hm.2]⟩
    refine turned_core p q n r.num r.den (r.num / r.den) (ceilI r.num r.den) (cmpQ (n : Rat) r) _ _ _ w M1 N1
      (fun w => floorR _ _ w n1 hd n2) (fun w => ceilR _ _ w n1 hd n2) ?_ ?_ (fun w => cmpW n r w hn hr) ?_ (cmp_le n r) (cmp_ge n r)
    · intro h w
      obtain ⟨k1, k2, k3⟩ := key h
      have e := floorR (-r.num) r.den w k1 hd n2
      rw [k2, k3]
      have ec : -r.num / (r.den : Int) = -ceilI r.num r.den := by unfold ceilI; omega
      rw [ec] at e; exact e
    · intro h w
      obtain ⟨k1, _, _⟩ := key h
      have ec : -r.num / (r.den : Int) = -ceilI r.num r.den := by unfold ceilI; omega
      have f2 : fitB (-ceilI r.num r.den) = true := by rw [← ec]; exact floor_range (by omega) k1
      have e := add_any (ceilI r.num r.den) (-ceilI r.num r.den) w g2 f2
      rw [show ceilI r.num r.den + -ceilI r.num r.den = 0 by omega] at e
      exact e
    · intro h
      obtain ⟨k1, k2, k3⟩ := key h
      have a1 := (fitB_iff _).1 n1
      have a2 := (fitB_iff _).1 k1
      exact ⟨k3, k2, by omega, by omega⟩
end Go.Proofs.Ytfoohgfdkmgndaa
