/-
  What EvalBig does, two of its eight ways.
-/
import Derived.Test.YtimnfkdokjdplaaDoorEvBigA
namespace Go.Proofs.YtimnfkdokjdplaaDoor
open Go.RowKit Go.Shelf

set_option maxRecDepth 100000 in
set_option maxHeartbeats 8000000 in
theorem bigTFT (a b : Int) (w : World) (hS : Shps w) (ha : fitB a = true) (hb : fitB b = true) (h4 : fitB (a + b) = true) (h5 : fitB (a - b) = false) (h6 : fitB (a * b) = true) :
    Calls Tryd.prog 12 #[.int .i64 a, .int .i64 b] w (RetB true w) := by
  have SC := mkHid (shownE w hS)
  have EA := mkHid (fun (X : Nat) (w : World) (h : SB X a b w) => (evAd h ha hb).mono fun _ _ h => ansT h4 h)
  have ES := mkHid (fun (X : Nat) (w : World) (h : SB X a b w) => (evSu h ha hb).mono fun _ _ h => ansF h5 h)
  have EM := mkHid (fun (X : Nat) (w : World) (h : SB X a b w) => (evMl h ha hb).mono fun _ _ h => ansT h6 h)
  have IA := mkHid (fun w => twoA a b w ha hb)
  have IS := mkHid (fun w => twoS a b w ha hb)
  have IM := mkHid (fun w => twoM a b w ha hb)
  rw [h4] at IA
  rw [h5] at IS
  rw [h6] at IM
  have key : (a < 1000000000 ∧ -1000000000 < a ∧ b < 1000000000 ∧ -1000000000 < b) ∨ decide (a < 1000000000) = false ∨ (decide (a < 1000000000) = true ∧ decide (-1000000000 < a) = false) ∨ (decide (a < 1000000000) = true ∧ decide (-1000000000 < a) = true ∧ decide (b < 1000000000) = false) ∨ (decide (a < 1000000000) = true ∧ decide (-1000000000 < a) = true ∧ decide (b < 1000000000) = true ∧ decide (-1000000000 < b) = false) := by
    simp only [decide_eq_true_eq, decide_eq_false_iff_not]; omega
  have KEY := mkHid key
  clear key
  have R0 := wrap_fit h4
  have Q0 := wrap64_fit h4
  have R2 := wrap_fit h6
  have Q2 := wrap64_fit h6
  have HR := mkHid (And.intro h4 (And.intro h5 h6))
  have HS := mkHid hS
  clear hS ha hb h4 h5 h6
  go_enter Tryd.func12, Tryd.ntmps12
  go_wp2_with fail
  ((with_reducible refine SC.out.mono ?_)); rintro e w1 ⟨rfl, hb1⟩
  clear SC
  have b2 : Below w1.heap.size w1 ((w1.alloc (.cells #[.int .i64 1, .slice none 0 0] 43)).alloc (.cells #[.int .i64 1, .string ⟨#[]⟩, .int .i64 a, .slice none 0 0, .int .i64 1, .string ⟨#[]⟩, .int .i64 b, .slice none 0 0] 24)) := bal (bal (Below.refl _ _) _) _
  have B2 := bon hb1 b2
  have X2 : SB w1.heap.size a b ((w1.alloc (.cells #[.int .i64 1, .slice none 0 0] 43)).alloc (.cells #[.int .i64 1, .string ⟨#[]⟩, .int .i64 a, .slice none 0 0, .int .i64 1, .string ⟨#[]⟩, .int .i64 b, .slice none 0 0] 24)) := ⟨by simp [TwoW, bW, go_sem], by simp [Four, bK, t0, Tm.op, Tm.nm, Tm.n, Tm.a, Tm.ks, Tm.c, go_sem], by simp [Four, bK, t0, Tm.op, Tm.nm, Tm.n, Tm.a, Tm.ks, Tm.c, go_sem], HS.out.later B2⟩
  clear b2 HS
  obtain ⟨p0, p1⟩ := X2.bw
  simp only [bW, List.length_nil] at p0 p1
  generalize hW2 : (w1.alloc (.cells #[.int .i64 1, .slice none 0 0] 43)).alloc (.cells #[.int .i64 1, .string ⟨#[]⟩, .int .i64 a, .slice none 0 0, .int .i64 1, .string ⟨#[]⟩, .int .i64 b, .slice none 0 0] 24) = W2 at *
  have C4 := mkHid (EA.out _ W2 X2)
  go_wp2_with fail
  ((with_reducible refine C4.out.mono ?_)); rintro e w3 ⟨a3, c3, rfl, hb3⟩
  clear C4 EA p0 p1 hW2
  have b4 := bon hb3 (bel_alloc w3 (.cells #[.int .i64 1, .int .i64 (a + b), .bool false, .slice a3 0 c3] 46))
  have X4 := X2.later b4
  have B4 := bon B2 b4
  have F4 : FourV (w3.alloc (.cells #[.int .i64 1, .int .i64 (a + b), .bool false, .slice a3 0 c3] 46)) w3.heap.size (.int .i64 1) (.int .i64 (a + b)) (.bool false) (.slice a3 0 c3) := by simp [FourV, go_sem]
  obtain ⟨p0, p1⟩ := X4.bw
  simp only [bW, List.length_nil] at p0 p1
  generalize hW4 : w3.alloc (.cells #[.int .i64 1, .int .i64 (a + b), .bool false, .slice a3 0 c3] 46) = W4 at *
  have C5 := mkHid (ES.out _ W4 X4)
  go_wp2_with fail
  ((with_reducible refine C5.out.mono ?_)); rintro e w5 ⟨a5, c5, rfl, hb5⟩
  clear C5 ES p0 p1 hW4 X2
  have b6 := bon hb5 (bel_alloc w5 (.cells #[.int .i64 0, .int .i64 0, .bool false, .slice a5 0 c5] 46))
  have X6 := X4.later b6
  have B6 := bon B4 b6
  have F4 := F4.later b6
  have F5 : FourV (w5.alloc (.cells #[.int .i64 0, .int .i64 0, .bool false, .slice a5 0 c5] 46)) w5.heap.size (.int .i64 0) (.int .i64 0) (.bool false) (.slice a5 0 c5) := by simp [FourV, go_sem]
  obtain ⟨p0, p1⟩ := X6.bw
  simp only [bW, List.length_nil] at p0 p1
  have PM := mkHid (fun (w' : World) (hb : Below (w5.alloc (.cells #[.int .i64 0, .int .i64 0, .bool false, .slice a5 0 c5] 46)).heap.size (w5.alloc (.cells #[.int .i64 0, .int .i64 0, .bool false, .slice a5 0 c5] 46)) w') => EM.out _ w' (X6.later hb))
  generalize hW6 : w5.alloc (.cells #[.int .i64 0, .int .i64 0, .bool false, .slice a5 0 c5] 46) = W6 at *
  clear EM X4
  go_wp2_with fail
  clear hW6
  have p0d : W6.drew.cell? ⟨w1.heap.size, 0, none⟩ = some (.int .i64 1) := p0
  have p1d : W6.drew.cell? ⟨w1.heap.size, 1, none⟩ = some (.slice none 0 0) := p1
  have PMz := mkHid (PM.out (W6.alloc (.cells #[.int .i64 0, .int .i64 0, .bool false, .slice none 0 0] 46)).drew (bdrew (bal (Below.refl _ _) _)))
  have PMd := mkHid (PM.out W6.drew (bdrew (Below.refl _ _)))
  have FZ : FourV (W6.alloc (.cells #[.int .i64 0, .int .i64 0, .bool false, .slice none 0 0] 46)).drew W6.heap.size (.int .i64 0) (.int .i64 0) (.bool false) (.slice none 0 0) := by simp [FourV, go_sem]
  have hne6 : w1.heap.size ≠ W6.heap.size := by have := World.block_lt_of_cell? _ _ p0; simp only at this; omega
  go_cut [12, 13] (fun s12 s13 wx => ∃ (blk : Nat) (aa : Option Addr) (cc : Nat), s12 = .pointer (some ⟨blk, 0, none⟩) ∧ s13 = .int .i64 0 ∧ FourV wx blk (.int .i64 1) (.int .i64 (a * b)) (.bool false) (.slice aa 0 cc) ∧ Below W6.heap.size W6 wx)
  case first =>
    go_region_held2 (fun w' => w'.cell? ⟨w1.heap.size, 0, none⟩ = some (.int .i64 1) ∧ w'.cell? ⟨w1.heap.size, 1, none⟩ = some (.slice none 0 0))
      (first | exact ⟨p0d, p1d⟩ | assumption | exact two_keep (by assumption) hb7 | exact two_keep ⟨p0d, p1d⟩ (bel_alloc _ _) | exact two_keep (two_keep ⟨p0d, p1d⟩ hb7) (bel_alloc _ _) | exact two_set (two_set (two_set (two_set (by assumption) hne6 _) hne6 _) hne6 _) hne6 _)
      (first
        | (go_at_call 33; ((with_reducible refine PMz.out.mono ?_)); rintro e w7 ⟨a7, c7, rfl, hb7⟩; obtain ⟨z0, z1, z2, z3, z4, z5, z6, z7⟩ := FourV.later FZ hb7)
        | (go_at_call 33; ((with_reducible refine PMd.out.mono ?_)); rintro e w7 ⟨a7, c7, rfl, hb7⟩))
    all_goals
      go_wp2_with fail
      go_meet
      first
        | (refine ⟨W6.heap.size, a7, c7, rfl, rfl, ?_, ?_⟩
           · simp [FourV, go_sem, z0, z1, z2, z3, z4, z5, z6, z7]
           · exact bset (bset (bset (bset (bon (bdrew (bal (Below.refl _ _) _)) hb7) (Nat.le_refl _) _) (Nat.le_refl _) _) (Nat.le_refl _) _) (Nat.le_refl _) _)
        | (refine ⟨w7.heap.size, a7, c7, rfl, rfl, ?_, ?_⟩
           · simp [FourV, go_sem]
           · exact bal (bon (bdrew (Below.refl _ _)) hb7) _)
  case rest =>
    obtain ⟨blk, aa, cc, rfl, rfl, F6, b8⟩ := hcut
    have B8 := bon B6 b8
    have F4 := F4.later b8
    have F5 := F5.later b8
    clear PM PMz PMd FZ p0 p1 p0d p1d X6 b8 b6 b4
    go_wp2_with fail
    ((with_reducible refine (IA.out _).mono ?_)); rintro e w' ⟨⟨i4, hi4, rfl⟩, rfl⟩
    obtain rfl : i4 = a + b := hi4 rfl
    clear IA
    go_wp2_with fail
    ((with_reducible refine (IS.out _).mono ?_)); rintro e w' ⟨⟨i5, hi5, rfl⟩, rfl⟩
    clear hi5
    clear IS
    go_wp2_with fail
    ((with_reducible refine (IM.out _).mono ?_)); rintro e w' ⟨⟨i6, hi6, rfl⟩, rfl⟩
    obtain rfl : i6 = a * b := hi6 rfl
    clear IM
    obtain ⟨f40, f41, f42, f43, -⟩ := F4
    obtain ⟨f50, f51, f52, f53, -⟩ := F5
    obtain ⟨f60, f61, f62, f63, -⟩ := F6
    rcases KEY.out with ⟨d1, d2, d3, d4⟩ | d1 | ⟨d1, d2⟩ | ⟨d1, d2, d3⟩ | ⟨d1, d2, d3, d4⟩
    · exfalso
      have h := small_fits d1 d2 d3 d4
      obtain ⟨q4, q5, q6⟩ := HR.out
      rw [q4, q5, q6] at h
      simp at h
    all_goals
      go_wp2
      go_ret
      exact ⟨rfl, B8⟩
set_option maxRecDepth 100000 in
set_option maxHeartbeats 8000000 in
theorem bigTFF (a b : Int) (w : World) (hS : Shps w) (ha : fitB a = true) (hb : fitB b = true) (h4 : fitB (a + b) = true) (h5 : fitB (a - b) = false) (h6 : fitB (a * b) = false) :
    Calls Tryd.prog 12 #[.int .i64 a, .int .i64 b] w (RetB true w) := by
  have SC := mkHid (shownE w hS)
  have EA := mkHid (fun (X : Nat) (w : World) (h : SB X a b w) => (evAd h ha hb).mono fun _ _ h => ansT h4 h)
  have ES := mkHid (fun (X : Nat) (w : World) (h : SB X a b w) => (evSu h ha hb).mono fun _ _ h => ansF h5 h)
  have EM := mkHid (fun (X : Nat) (w : World) (h : SB X a b w) => (evMl h ha hb).mono fun _ _ h => ansF h6 h)
  have IA := mkHid (fun w => twoA a b w ha hb)
  have IS := mkHid (fun w => twoS a b w ha hb)
  have IM := mkHid (fun w => twoM a b w ha hb)
  rw [h4] at IA
  rw [h5] at IS
  rw [h6] at IM
  have key : (a < 1000000000 ∧ -1000000000 < a ∧ b < 1000000000 ∧ -1000000000 < b) ∨ decide (a < 1000000000) = false ∨ (decide (a < 1000000000) = true ∧ decide (-1000000000 < a) = false) ∨ (decide (a < 1000000000) = true ∧ decide (-1000000000 < a) = true ∧ decide (b < 1000000000) = false) ∨ (decide (a < 1000000000) = true ∧ decide (-1000000000 < a) = true ∧ decide (b < 1000000000) = true ∧ decide (-1000000000 < b) = false) := by
    simp only [decide_eq_true_eq, decide_eq_false_iff_not]; omega
  have KEY := mkHid key
  clear key
  have R0 := wrap_fit h4
  have Q0 := wrap64_fit h4
  have HR := mkHid (And.intro h4 (And.intro h5 h6))
  have HS := mkHid hS
  clear hS ha hb h4 h5 h6
  go_enter Tryd.func12, Tryd.ntmps12
  go_wp2_with fail
  ((with_reducible refine SC.out.mono ?_)); rintro e w1 ⟨rfl, hb1⟩
  clear SC
  have b2 : Below w1.heap.size w1 ((w1.alloc (.cells #[.int .i64 1, .slice none 0 0] 43)).alloc (.cells #[.int .i64 1, .string ⟨#[]⟩, .int .i64 a, .slice none 0 0, .int .i64 1, .string ⟨#[]⟩, .int .i64 b, .slice none 0 0] 24)) := bal (bal (Below.refl _ _) _) _
  have B2 := bon hb1 b2
  have X2 : SB w1.heap.size a b ((w1.alloc (.cells #[.int .i64 1, .slice none 0 0] 43)).alloc (.cells #[.int .i64 1, .string ⟨#[]⟩, .int .i64 a, .slice none 0 0, .int .i64 1, .string ⟨#[]⟩, .int .i64 b, .slice none 0 0] 24)) := ⟨by simp [TwoW, bW, go_sem], by simp [Four, bK, t0, Tm.op, Tm.nm, Tm.n, Tm.a, Tm.ks, Tm.c, go_sem], by simp [Four, bK, t0, Tm.op, Tm.nm, Tm.n, Tm.a, Tm.ks, Tm.c, go_sem], HS.out.later B2⟩
  clear b2 HS
  obtain ⟨p0, p1⟩ := X2.bw
  simp only [bW, List.length_nil] at p0 p1
  generalize hW2 : (w1.alloc (.cells #[.int .i64 1, .slice none 0 0] 43)).alloc (.cells #[.int .i64 1, .string ⟨#[]⟩, .int .i64 a, .slice none 0 0, .int .i64 1, .string ⟨#[]⟩, .int .i64 b, .slice none 0 0] 24) = W2 at *
  have C4 := mkHid (EA.out _ W2 X2)
  go_wp2_with fail
  ((with_reducible refine C4.out.mono ?_)); rintro e w3 ⟨a3, c3, rfl, hb3⟩
  clear C4 EA p0 p1 hW2
  have b4 := bon hb3 (bel_alloc w3 (.cells #[.int .i64 1, .int .i64 (a + b), .bool false, .slice a3 0 c3] 46))
  have X4 := X2.later b4
  have B4 := bon B2 b4
  have F4 : FourV (w3.alloc (.cells #[.int .i64 1, .int .i64 (a + b), .bool false, .slice a3 0 c3] 46)) w3.heap.size (.int .i64 1) (.int .i64 (a + b)) (.bool false) (.slice a3 0 c3) := by simp [FourV, go_sem]
  obtain ⟨p0, p1⟩ := X4.bw
  simp only [bW, List.length_nil] at p0 p1
  generalize hW4 : w3.alloc (.cells #[.int .i64 1, .int .i64 (a + b), .bool false, .slice a3 0 c3] 46) = W4 at *
  have C5 := mkHid (ES.out _ W4 X4)
  go_wp2_with fail
  ((with_reducible refine C5.out.mono ?_)); rintro e w5 ⟨a5, c5, rfl, hb5⟩
  clear C5 ES p0 p1 hW4 X2
  have b6 := bon hb5 (bel_alloc w5 (.cells #[.int .i64 0, .int .i64 0, .bool false, .slice a5 0 c5] 46))
  have X6 := X4.later b6
  have B6 := bon B4 b6
  have F4 := F4.later b6
  have F5 : FourV (w5.alloc (.cells #[.int .i64 0, .int .i64 0, .bool false, .slice a5 0 c5] 46)) w5.heap.size (.int .i64 0) (.int .i64 0) (.bool false) (.slice a5 0 c5) := by simp [FourV, go_sem]
  obtain ⟨p0, p1⟩ := X6.bw
  simp only [bW, List.length_nil] at p0 p1
  have PM := mkHid (fun (w' : World) (hb : Below (w5.alloc (.cells #[.int .i64 0, .int .i64 0, .bool false, .slice a5 0 c5] 46)).heap.size (w5.alloc (.cells #[.int .i64 0, .int .i64 0, .bool false, .slice a5 0 c5] 46)) w') => EM.out _ w' (X6.later hb))
  generalize hW6 : w5.alloc (.cells #[.int .i64 0, .int .i64 0, .bool false, .slice a5 0 c5] 46) = W6 at *
  clear EM X4
  go_wp2_with fail
  clear hW6
  have p0d : W6.drew.cell? ⟨w1.heap.size, 0, none⟩ = some (.int .i64 1) := p0
  have p1d : W6.drew.cell? ⟨w1.heap.size, 1, none⟩ = some (.slice none 0 0) := p1
  have PMz := mkHid (PM.out (W6.alloc (.cells #[.int .i64 0, .int .i64 0, .bool false, .slice none 0 0] 46)).drew (bdrew (bal (Below.refl _ _) _)))
  have PMd := mkHid (PM.out W6.drew (bdrew (Below.refl _ _)))
  have FZ : FourV (W6.alloc (.cells #[.int .i64 0, .int .i64 0, .bool false, .slice none 0 0] 46)).drew W6.heap.size (.int .i64 0) (.int .i64 0) (.bool false) (.slice none 0 0) := by simp [FourV, go_sem]
  have hne6 : w1.heap.size ≠ W6.heap.size := by have := World.block_lt_of_cell? _ _ p0; simp only at this; omega
  go_cut [12, 13] (fun s12 s13 wx => ∃ (blk : Nat) (aa : Option Addr) (cc : Nat), s12 = .pointer (some ⟨blk, 0, none⟩) ∧ s13 = .int .i64 5 ∧ FourV wx blk (.int .i64 0) (.int .i64 0) (.bool false) (.slice aa 0 cc) ∧ Below W6.heap.size W6 wx)
  case first =>
    go_region_held2 (fun w' => w'.cell? ⟨w1.heap.size, 0, none⟩ = some (.int .i64 1) ∧ w'.cell? ⟨w1.heap.size, 1, none⟩ = some (.slice none 0 0))
      (first | exact ⟨p0d, p1d⟩ | assumption | exact two_keep (by assumption) hb7 | exact two_keep ⟨p0d, p1d⟩ (bel_alloc _ _) | exact two_keep (two_keep ⟨p0d, p1d⟩ hb7) (bel_alloc _ _) | exact two_set (two_set (two_set (two_set (by assumption) hne6 _) hne6 _) hne6 _) hne6 _)
      (first
        | (go_at_call 33; ((with_reducible refine PMz.out.mono ?_)); rintro e w7 ⟨a7, c7, rfl, hb7⟩; obtain ⟨z0, z1, z2, z3, z4, z5, z6, z7⟩ := FourV.later FZ hb7)
        | (go_at_call 33; ((with_reducible refine PMd.out.mono ?_)); rintro e w7 ⟨a7, c7, rfl, hb7⟩))
    all_goals
      go_wp2_with fail
      go_meet
      first
        | (refine ⟨W6.heap.size, a7, c7, rfl, rfl, ?_, ?_⟩
           · simp [FourV, go_sem, z0, z1, z2, z3, z4, z5, z6, z7]
           · exact bset (bset (bset (bset (bon (bdrew (bal (Below.refl _ _) _)) hb7) (Nat.le_refl _) _) (Nat.le_refl _) _) (Nat.le_refl _) _) (Nat.le_refl _) _)
        | (refine ⟨w7.heap.size, a7, c7, rfl, rfl, ?_, ?_⟩
           · simp [FourV, go_sem]
           · exact bal (bon (bdrew (Below.refl _ _)) hb7) _)
  case rest =>
    obtain ⟨blk, aa, cc, rfl, rfl, F6, b8⟩ := hcut
    have B8 := bon B6 b8
    have F4 := F4.later b8
    have F5 := F5.later b8
    clear PM PMz PMd FZ p0 p1 p0d p1d X6 b8 b6 b4
    go_wp2_with fail
    ((with_reducible refine (IA.out _).mono ?_)); rintro e w' ⟨⟨i4, hi4, rfl⟩, rfl⟩
    obtain rfl : i4 = a + b := hi4 rfl
    clear IA
    go_wp2_with fail
    ((with_reducible refine (IS.out _).mono ?_)); rintro e w' ⟨⟨i5, hi5, rfl⟩, rfl⟩
    clear hi5
    clear IS
    go_wp2_with fail
    ((with_reducible refine (IM.out _).mono ?_)); rintro e w' ⟨⟨i6, hi6, rfl⟩, rfl⟩
    clear hi6
    clear IM
    obtain ⟨f40, f41, f42, f43, -⟩ := F4
    obtain ⟨f50, f51, f52, f53, -⟩ := F5
    obtain ⟨f60, f61, f62, f63, -⟩ := F6
    rcases KEY.out with ⟨d1, d2, d3, d4⟩ | d1 | ⟨d1, d2⟩ | ⟨d1, d2, d3⟩ | ⟨d1, d2, d3, d4⟩
    · exfalso
      have h := small_fits d1 d2 d3 d4
      obtain ⟨q4, q5, q6⟩ := HR.out
      rw [q4, q5, q6] at h
      simp at h
    all_goals
      go_wp2
      go_ret
      exact ⟨rfl, B8⟩
end Go.Proofs.YtimnfkdokjdplaaDoor
