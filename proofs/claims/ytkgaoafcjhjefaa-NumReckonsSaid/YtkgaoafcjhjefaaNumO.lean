/-
  The contracts of package num's Cmp, Floor, Ceil.
-/
import Derived.Test.YtkgaoafcjhjefaaNumN
namespace Go.Proofs.Ytkgaoafcjhjefaa
open Go.RowKit Go.Shelf

def cmpQ (a b : Rat) : Int := if a < b then -1 else if a = b then 0 else 1
theorem cmpQ_neg {a b : Rat} (h : negB (a.num * b.den - b.num * a.den) = true) : cmpQ a b = -1 := by
  have : a < b := by rw [Rat.lt_iff]; simp [negB] at h; omega
  simp [cmpQ, this]
theorem rat_eq_iff (a b : Rat) : a = b ↔ a.num * b.den = b.num * a.den := by
  constructor
  · rintro rfl; rfl
  · intro h
    have h1 := (Rat.divInt_eq_divInt_iff (show (a.den : Int) ≠ 0 by have := a.den_nz; omega) (show (b.den : Int) ≠ 0 by have := b.den_nz; omega)).2 h
    rwa [Rat.num_divInt_den, Rat.num_divInt_den] at h1
theorem cmpQ_zero {a b : Rat} (h : a.num * b.den - b.num * a.den = 0) : cmpQ a b = 0 := by
  have : a = b := by rw [rat_eq_iff]; omega
  subst this; simp [cmpQ, Rat.lt_irrefl]
theorem cmpQ_pos {a b : Rat} (h : negB (a.num * b.den - b.num * a.den) = false) (h' : ¬ a.num * b.den - b.num * a.den = 0) : cmpQ a b = 1 := by
  have h1 : ¬ a < b := by rw [Rat.lt_iff]; simp [negB] at h; omega
  have h2 : ¬ a = b := by rw [rat_eq_iff]; omega
  simp [cmpQ, h1, h2]
theorem wide_zero (W : Int) (h : Wide W) : (hiW W = 0 ∧ loW W = 0) ↔ W = 0 := by
  unfold Wide at h; unfold hiW loW; omega

theorem two_alloc (w : World) (x y : Value) (t : TypeId) : Two (w.alloc (.cells #[x, y] t)) w.heap.size x y := by simp [Two, go_sem]
theorem two_alloc_drew (w : World) (x y : Value) (t : TypeId) : Two (w.alloc (.cells #[x, y] t)).drew w.heap.size x y := by simp [Two, go_sem]
set_option maxHeartbeats 4000000 in
theorem cmpR (a b : Rat) (w : World) (ha : rok a = true) (hb : rok b = true) :
    Calls Try.prog 38 #[.agg #[.int .i64 a.num, .int .i64 (a.den : Int)], .agg #[.int .i64 b.num, .int .i64 (b.den : Int)]] w fun e w' => e = .returned (.int .i64 (cmpQ a b)) ∧ Below w.heap.size w w' := by
  obtain ⟨fa, fa'⟩ := (rok_iff a).1 ha
  obtain ⟨fb, fb'⟩ := (rok_iff b).1 hb
  have w1 := wide_mul_pos fa fb' (by omega)
  have w2 := wide_mul_pos fb fa' (by omega)
  have wT : Wide (a.num * b.den - b.num * a.den) := by unfold Wide; omega
  clear w1 w2
  go_enter Try.func38, Try.ntmps38
  go_upto_region 1 with fail
  go_cut [5] (fun s5 wx => ∃ g : Nat, s5 = .pointer (some ⟨g, 0, none⟩) ∧ wx.cell? ⟨g, 0, none⟩ = some (.int .u64 (hiW (a.num * b.den - b.num * a.den))) ∧ wx.cell? ⟨g, 1, none⟩ = some (.int .u64 (loW (a.num * b.den - b.num * a.den))) ∧ Below w.heap.size w wx)
  case first =>
    go_region_held2 (fun w' => w'.cell? ⟨w.heap.size, 0, none⟩ = some (.int .i64 a.num) ∧ w'.cell? ⟨w.heap.size, 1, none⟩ = some (.int .i64 (a.den : Int)) ∧ w'.cell? ⟨w.heap.size + 1, 0, none⟩ = some (.int .i64 b.num) ∧ w'.cell? ⟨w.heap.size + 1, 1, none⟩ = some (.int .i64 (b.den : Int)))
      (first | exact cells4_later hb3 k2.out | exact cells4_later (bal (Below.refl _ _) _) k3.out | exact k3.out | exact cells4_later (by assumption) (by assumption) | (simp [go_sem]; done) | exact cells4_later (bal (Below.refl _ _) _) (by assumption) | (simp [go_sem, *]; done))
      (first
        | (go_at_call 50; refine (product_f _ _ _ (by assumption) (by assumption)).mono ?_; rintro e w2 ⟨rfl, hb2⟩; have z2 := hb2.size; (try simp at z2); (first | (revert T; intro T; have T := Two.later hb2 T) | have T := Two.later hb2 (two_alloc _ (.int .u64 0) (.int .u64 0) _) | have T := Two.later hb2 (two_alloc_drew _ (.int .u64 0) (.int .u64 0) _) | skip); (try simp at T))
        | (go_at_call 48; refine (minus_any _ _ _).mono ?_; rintro e w3 ⟨rfl, hb3⟩; have z3 := hb3.size; (try simp at z3); have k3 := mkHid (cells4_later hb3 (by assumption : _ ∧ _ ∧ _ ∧ _)); (first | (revert T; intro T; have T := Two.later hb3 T) | have T := Two.later hb3 (two_alloc _ (.int .u64 0) (.int .u64 0) _) | skip); (first | (revert T; intro T; obtain ⟨c0, c1, f0, f1⟩ := T) | skip); unfold wv))
    all_goals (go_wp2_with fail; go_meet; exact ⟨_, rfl, by simp [go_sem, *], by simp [go_sem, *], (by repeat (first | exact Below.refl _ _ | (refine bset ?_ (by simp <;> omega) _) | (refine bon ?_ (by assumption)) | refine bdrew ?_ | refine bal ?_ _))⟩)
  case rest =>
    obtain ⟨g, rfl, c0, c1, hb0⟩ := hcut
    generalize hW : a.num * b.den - b.num * a.den = W at *
    cases hn : negB W
    · by_cases hz : W = 0
      · have e0 := mkHid (cmpQ_zero (hW.trans hz))
        subst hz
        rw [hiW_zero] at c0
        rw [loW_zero] at c1
        have BA : Hid (∀ w, Calls Try.prog 72 #[.agg #[.int .u64 0, .int .u64 0]] w fun e w' => e = .returned (.bool false) ∧ Below w.heap.size w w') := by
          intro w
          have h := below_any 0 w wT
          rw [hiW_zero, loW_zero, hn] at h; exact h
        clear hn
        have HW := mkHid hW; clear hW
        go_wp2_with fail
        refine (BA.out _).mono ?_; rintro e w4 ⟨rfl, hb4⟩
        have d0 := cell_later hb4 c0
        have d1 := cell_later hb4 c1
        go_wp2_with fail
        go_ret
        exact ⟨ret_int e0.out.symm, bon hb0 hb4⟩
      · have e0 := mkHid (cmpQ_pos (a := a) (b := b) (by rw [hW]; exact hn) (by rw [hW]; exact hz))
        have HW := mkHid hW; clear hW
        go_wp2_with fail
        refine (below_any W _ wT).mono ?_; rintro e w4 ⟨rfl, hb4⟩
        have d0 := cell_later hb4 c0
        have d1 := cell_later hb4 c1
        rw [hn]
        go_wp2_with fail
        · exact absurd ((wide_zero W wT).1 ⟨by assumption, by assumption⟩) hz
        · go_ret
          exact ⟨ret_int e0.out.symm, bon hb0 hb4⟩
        · go_ret
          exact ⟨ret_int e0.out.symm, bon hb0 hb4⟩
    · have e0 := mkHid (cmpQ_neg (a := a) (b := b) (by rw [hW]; exact hn))
      have HW := mkHid hW; clear hW
      go_wp2_with fail
      refine (below_any W _ wT).mono ?_; rintro e w4 ⟨rfl, hb4⟩
      rw [hn]
      go_wp2_with fail
      go_ret
      exact ⟨ret_int e0.out.symm, bon hb0 hb4⟩

/-! ### Floor and Ceil -/
theorem near_zero {q k : Int} (hq : 0 < q) (h : -q < q * k ∧ q * k < q) : k = 0 := by
  rcases Int.lt_trichotomy k 0 with hk | hk | hk
  · have := Int.mul_le_mul_of_nonneg_left (show k ≤ -1 by omega) (show 0 ≤ q by omega); omega
  · exact hk
  · have := Int.mul_le_mul_of_nonneg_left (show 1 ≤ k by omega) (show 0 ≤ q by omega); omega
theorem tdiv_below (p q : Int) (hq : 0 < q) (h : p.tmod q < 0) : p.tdiv q - 1 = p / q := by
  have h1 := Int.tmod_add_mul_tdiv p q
  have h2 := Int.emod_add_mul_ediv p q
  have h3 := Int.emod_nonneg p (b := q) (by omega)
  have h4 := Int.emod_lt_of_pos p hq
  have h5 : -q < p.tmod q := by have := Int.lt_tmod_of_pos p hq; omega
  have e : q * (p.tdiv q - 1 - p / q) = p % q - p.tmod q - q := by rw [Int.mul_sub, Int.mul_sub]; omega
  have := near_zero hq (k := p.tdiv q - 1 - p / q) (by omega)
  omega
theorem tdiv_floor (p q : Int) (hq : 0 < q) (h : ¬ p.tmod q < 0) : p.tdiv q = p / q := by
  have h1 := Int.tmod_add_mul_tdiv p q
  have h2 := Int.emod_add_mul_ediv p q
  have h3 := Int.emod_nonneg p (b := q) (by omega)
  have h4 := Int.emod_lt_of_pos p hq
  have h5 : p.tmod q < q := Int.tmod_lt_of_pos p hq
  have e : q * (p.tdiv q - p / q) = p % q - p.tmod q := by rw [Int.mul_sub]; omega
  have := near_zero hq (k := p.tdiv q - p / q) (by omega)
  omega
/-- the least whole number that is not below p / q -/
def ceilI (p q : Int) : Int := -((-p) / q)
theorem tdiv_above (p q : Int) (hq : 0 < q) (h : 0 < p.tmod q) : p.tdiv q + 1 = ceilI p q := by
  have h1 := tdiv_below (-p) q hq (by rw [Int.neg_tmod]; omega)
  rw [Int.neg_tdiv] at h1
  unfold ceilI; omega
theorem tdiv_ceil (p q : Int) (hq : 0 < q) (h : ¬ 0 < p.tmod q) : p.tdiv q = ceilI p q := by
  have h1 := tdiv_floor (-p) q hq (by rw [Int.neg_tmod]; omega)
  rw [Int.neg_tdiv] at h1
  unfold ceilI; omega
theorem floor_range {p q : Int} (hq : 0 < q) (hp : fitB p = true) : fitB (p / q) = true := by
  rw [fitB_iff] at *
  constructor
  · rw [Int.le_ediv_iff_mul_le hq]
    have := Int.mul_le_mul_of_nonneg_left (show 1 ≤ q by omega) (show (0 : Int) ≤ 9223372036854775808 by omega); omega
  · have : p / q < 9223372036854775808 := by
      rw [Int.ediv_lt_iff_lt_mul hq]
      have := Int.mul_le_mul_of_nonneg_left (show 1 ≤ q by omega) (show (0 : Int) ≤ 9223372036854775808 by omega); omega
    omega
theorem ceil_range {p q : Int} (hq : 0 < q) (hp : fitB p = true) : fitB (ceilI p q) = true := by
  unfold ceilI
  rw [fitB_iff] at *
  have a1 : -9223372036854775807 ≤ -p / q := by
    rw [Int.le_ediv_iff_mul_le hq]
    have := Int.mul_le_mul_of_nonneg_left (show 1 ≤ q by omega) (show (0 : Int) ≤ 9223372036854775807 by omega); omega
  have a2 : -p / q < 9223372036854775809 := by
    rw [Int.ediv_lt_iff_lt_mul hq]
    have := Int.mul_le_mul_of_nonneg_left (show 1 ≤ q by omega) (show (0 : Int) ≤ 9223372036854775809 by omega); omega
  omega
set_option maxHeartbeats 400000 in
theorem floorR (p q : Int) (w : World) (hp : fitB p = true) (hq : 1 ≤ q) (hq' : fitB q = true) :
    Calls Try.prog 40 #[.agg #[.int .i64 p, .int .i64 q]] w fun e w' => e = .returned (.int .i64 (p / q)) ∧ Below w.heap.size w w' := by
  obtain ⟨p1, p2⟩ := (fitB_iff p).1 hp
  obtain ⟨q1, q2⟩ := (fitB_iff q).1 hq'
  obtain ⟨r1, r2⟩ := (fitB_iff _).1 (floor_range (show 0 < q by omega) hp)
  have qne : (q == 0) = false := beq_eq_false_iff_ne.2 (by omega)
  by_cases hm : p.tmod q < 0
  · have E0 := mkHid (tdiv_below p q (by omega) hm)
    go_enter Try.func40, Try.ntmps40
    go_wp2
    go_ret
    exact ⟨ret_int (by rw [E0.out]; exact IntWalk.wrap64_in _ ⟨by omega, by omega⟩), bal (Below.refl _ _) _⟩
  · have E0 := mkHid (tdiv_floor p q (by omega) hm)
    have hm' : 0 ≤ p.tmod q := by omega
    go_enter Try.func40, Try.ntmps40
    go_wp2
    go_ret
    exact ⟨ret_int (by first | exact E0.out | (rw [E0.out]; exact IntWalk.wrap64_in _ ⟨by omega, by omega⟩)), bal (Below.refl _ _) _⟩
set_option maxHeartbeats 400000 in
theorem ceilR (p q : Int) (w : World) (hp : fitB p = true) (hq : 1 ≤ q) (hq' : fitB q = true) :
    Calls Try.prog 41 #[.agg #[.int .i64 p, .int .i64 q]] w fun e w' => e = .returned (.int .i64 (ceilI p q)) ∧ Below w.heap.size w w' := by
  obtain ⟨p1, p2⟩ := (fitB_iff p).1 hp
  obtain ⟨q1, q2⟩ := (fitB_iff q).1 hq'
  obtain ⟨r1, r2⟩ := (fitB_iff _).1 (ceil_range (show 0 < q by omega) hp)
  have qne : (q == 0) = false := beq_eq_false_iff_ne.2 (by omega)
  by_cases hm : 0 < p.tmod q
  · have E0 := mkHid (tdiv_above p q (by omega) hm)
    go_enter Try.func41, Try.ntmps41
    go_wp2
    go_ret
    exact ⟨ret_int (by rw [E0.out]; exact IntWalk.wrap64_in _ ⟨by omega, by omega⟩), bal (Below.refl _ _) _⟩
  · have E0 := mkHid (tdiv_ceil p q (by omega) hm)
    have hm' : p.tmod q ≤ 0 := by omega
    go_enter Try.func41, Try.ntmps41
    go_wp2
    go_ret
    exact ⟨ret_int (by first | exact E0.out | (rw [E0.out]; exact IntWalk.wrap64_in _ ⟨by omega, by omega⟩)), bal (Below.refl _ _) _⟩
end Go.Proofs.Ytkgaoafcjhjefaa
