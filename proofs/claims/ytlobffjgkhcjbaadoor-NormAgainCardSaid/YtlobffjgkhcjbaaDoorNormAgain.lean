/-
  NormAgain, walked: it returns true.
-/
import Derived.Test.YtlobffjgkhcjbaaDoorNmH
namespace Go.Proofs.YtlobffjgkhcjbaaDoor
open Go.RowKit

theorem normE_zero {t : Tm} (h : normE t = 0) : errR t = 0 ∧ t.srt = 4 ∧ errR (nn t false) = 0 := by
  unfold normE at h
  by_cases h1 : errR t = 0
  · rw [if_neg (by rw [h1]; decide)] at h
    by_cases h2 : t.srt = 4
    · rw [if_neg (by rw [h2]; decide)] at h
      by_cases h3 : errR (nn t false) = 0
      · exact ⟨h1, h2, h3⟩
      · rw [if_pos h3] at h; exact absurd h (by decide)
    · rw [if_pos h2] at h; exact absurd h (by decide)
  · rw [if_pos h1] at h; exact absurd h h1
theorem normE_is {t : Tm} (h1 : errR t = 0) (h2 : t.srt = 4) (h3 : errR (nn t false) = 0) : normE t = 0 := by
  unfold normE
  rw [if_neg (by rw [h1]; decide), if_neg (by rw [h2]; decide), if_neg (by rw [h3]; decide)]
theorem is_norm {t : Tm} (h : isB t = true) : normE t = 0 ∧ nn t false = t.er := by
  unfold isB at h
  simp only [Bool.and_eq_true, decide_eq_true_eq] at h
  have e := pl_nn t h.1.2 h.2
  exact ⟨normE_is h.1.1 h.1.2 (by rw [e, er_errR]; exact h.1.1), e⟩
theorem norm_facts {t z : Tm} (h : normE t = 0) (hz : z.er = nn t false) : isB z = true ∧ z.deep ≤ 100 ∧ normE z = 0 ∧ nn z false = z.er ∧ z.srt = 4 ∧ errR z = 0 := by
  obtain ⟨h1, h2, h3⟩ := normE_zero h
  have e1 : errR z = 0 := by rw [← er_errR, hz]; exact h3
  have e2 : z.srt = 4 := by rw [← er_srt, hz]; exact nn_srt t h2 false
  have e3 : nn z false = z.er := by
    rw [← nn_er, hz, nn_nn t h2]; rfl
  refine ⟨?_, (errR_zero e1).2.1, normE_is e1 e2 (by rw [e3, er_errR]; exact e1), e3, e2, e1⟩
  unfold isB
  rw [decide_eq_true e1, decide_eq_true e2, ← plB_er z, hz, nn_pl t h2]
  rfl
set_option maxRecDepth 100000 in
set_option maxHeartbeats 4000000 in
theorem again_any (t : Tm) (w : World) (ht : TIn w w.heap.size t) (hS : Shps w) : Calls Tryd.prog 10 #[t.val] w (RetBo true w) := by
  have B0 := bel_alloc w (boxT t)
  have F1 := box_four w t
  have CH := mkHid (shownN (w.alloc (boxT t)) (hS.later B0))
  have HS := mkHid (hS.later B0)
  have HT := mkHid (ht.later B0)
  have hW2 : w.alloc (.cells #[.int .i64 t.op, .string t.nm, .int .i64 t.n, .slice t.a t.ks.length t.c] 24) = w.alloc (boxT t) := rfl
  generalize w.alloc (boxT t) = W1 at *
  unfold Tm.val
  clear hS ht
  have HF1 := mkHid F1
  clear F1
  go_enter Tryd.func10, Tryd.ntmps10
  go_wp2_with fail
  ((with_reducible refine CH.out.mono ?_)); rintro e w2 ⟨rfl, hb2⟩
  clear CH hW2
  obtain ⟨x0, x1, x2, x3⟩ := HF1.out.later hb2
  simp only [Nat.zero_add] at x1 x2 x3
  have C1 := mkHid (norm_any t w2 (HT.out.later hb2) (HS.out.later hb2))
  unfold Tm.val at C1
  go_wp2_with fail
  ((with_reducible refine C1.out.mono ?_)); rintro e w3 ⟨⟨z, rfl, zt, ze, -⟩, hb3⟩
  clear C1 x0 x1 x2 x3
  have HZE := mkHid ze
  have b3 := bel_alloc w3 (boxT z)
  have B3 := bon (bon hb2 hb3) b3
  have F3 := box_four w3 z
  have hW3 : w3.alloc (.cells #[.int .i64 z.op, .string z.nm, .int .i64 z.n, .slice z.a z.ks.length z.c] 24) = w3.alloc (boxT z) := rfl
  have zt3 := mkHid (zt.later b3)
  unfold Tm.val
  generalize w3.alloc (boxT z) = W3 at *
  have HF3 := mkHid F3
  clear ze zt F3
  have BA := bon B0 B3
  obtain ⟨x0, x1, x2, x3⟩ := HF1.out.later B3
  simp only [Nat.zero_add] at x1 x2 x3
  obtain ⟨z0, z1, z2, z3⟩ := HF3.out
  simp only [Nat.zero_add] at z1 z2 z3
  by_cases hn : normE t = 0
  · have HNF := mkHid (norm_facts hn (HZE.out hn))
    have HE := mkHid (HZE.out hn)
    rw [hn]
    clear hn HZE
    have C2 := mkHid (norm_any z W3 zt3.out (HS.out.later B3))
    unfold Tm.val at C2
    go_wp2_with fail
    ((with_reducible refine C2.out.mono ?_)); rintro e w4 ⟨⟨y, rfl, yt, ye, -⟩, hb4⟩
    rw [HNF.out.2.2.1]
    have HY : Hid (y.er = z.er) := (ye HNF.out.2.2.1).trans HNF.out.2.2.2.1
    clear C2 x0 x1 x2 x3 z0 z1 z2 z3 hW3 ye
    have b5 := bel_alloc w4 (boxT y)
    have F5 := box_four w4 y
    have hW5 : w4.alloc (.cells #[.int .i64 y.op, .string y.nm, .int .i64 y.n, .slice y.a y.ks.length y.c] 24) = w4.alloc (boxT y) := rfl
    have yt5 := mkHid (yt.later b5)
    unfold Tm.val
    generalize w4.alloc (boxT y) = W5 at *
    have HF5 := mkHid F5
    clear yt F5
    have B5 := bon hb4 b5
    obtain ⟨z0, z1, z2, z3⟩ := HF3.out.later B5
    simp only [Nat.zero_add] at z1 z2 z3
    have C3 := mkHid (is_any z W5 (zt3.out.later B5) (HS.out.later (bon B3 B5)))
    rw [HNF.out.1] at C3
    unfold Tm.val at C3
    go_wp2_with fail
    ((with_reducible refine C3.out.mono ?_)); rintro e w6 ⟨rfl, hb6⟩
    clear C3 z0 z1 z2 z3 hW5
    have B6 := bon B5 hb6
    obtain ⟨z0, z1, z2, z3⟩ := HF3.out.later B6
    simp only [Nat.zero_add] at z1 z2 z3
    obtain ⟨y0, y1, y2, y3⟩ := HF5.out.later hb6
    simp only [Nat.zero_add] at y1 y2 y3
    have C4 := mkHid (same_er (a := z) (b := y) (w := w6) (zt3.out.later B6) (yt5.out.later hb6) HY.out.symm HNF.out.2.1)
    unfold Tm.val at C4
    go_wp2_with fail
    ((with_reducible refine C4.out.mono ?_)); rintro e w7 ⟨rfl, hb7⟩
    clear C4 z0 z1 z2 z3 y0 y1 y2 y3
    have B7 := bon B6 hb7
    obtain ⟨x0, x1, x2, x3⟩ := HF1.out.later (bon B3 B7)
    simp only [Nat.zero_add] at x1 x2 x3
    have C5 := mkHid (is_any t w7 (HT.out.later (bon B3 B7)) (HS.out.later (bon B3 B7)))
    unfold Tm.val at C5
    by_cases hi : isB t = true
    · have HIT := mkHid (is_norm hi)
      rw [hi] at C5
      clear hi
      go_wp2_with fail
      ((with_reducible refine C5.out.mono ?_)); rintro e w8 ⟨rfl, hb8⟩
      clear C5 x0 x1 x2 x3
      have B8 := bon B7 hb8
      obtain ⟨x0, x1, x2, x3⟩ := HF1.out.later (bon B3 B8)
      simp only [Nat.zero_add] at x1 x2 x3
      obtain ⟨z0, z1, z2, z3⟩ := HF3.out.later B8
      simp only [Nat.zero_add] at z1 z2 z3
      have C6 := mkHid (same_er (a := z) (b := t) (w := w8) (zt3.out.later B8) (HT.out.later (bon B3 B8)) (HE.out.trans HIT.out.2) HNF.out.2.1)
      unfold Tm.val at C6
      go_wp2_with fail
      ((with_reducible refine C6.out.mono ?_)); rintro e w9 ⟨rfl, hb9⟩
      clear C6 x0 x1 x2 x3 z0 z1 z2 z3
      go_wp2
      go_ret
      exact ⟨rfl, bon BA (bon B8 hb9)⟩
    · have hi' : isB t = false := by simpa using hi
      rw [hi'] at C5
      clear hi hi'
      go_wp2_with fail
      ((with_reducible refine C5.out.mono ?_)); rintro e w8 ⟨rfl, hb8⟩
      clear C5 x0 x1 x2 x3
      go_wp2
      go_ret
      exact ⟨rfl, bon BA (bon B7 hb8)⟩
  · have hi : isB t = false := by
      cases hb : isB t with
      | false => rfl
      | true => exact absurd (is_norm hb).1 hn
    have e0 : (((normE t : Nat) : Int) == 0) = false := by rw [beq_eq_false_iff_ne]; omega
    have C2 := mkHid (is_any t W3 (HT.out.later B3) (HS.out.later B3))
    rw [hi] at C2
    unfold Tm.val at C2
    clear hi hn
    generalize ((normE t : Nat) : Int) = nv at *
    go_wp2_with fail
    ((with_reducible refine C2.out.mono ?_)); rintro e w4 ⟨rfl, hb4⟩
    clear C2 x0 x1 x2 x3 z0 z1 z2 z3 hW3
    go_wp2
    go_ret
    exact ⟨rfl, bon BA hb4⟩
end Go.Proofs.YtlobffjgkhcjbaaDoor
